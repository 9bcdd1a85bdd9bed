import PyProof.Rows.All
import Wide.All
import OpenK.AllK
import Wide.FinOn
import Lean
import PyProof.EqAt
import PyProof.EqKinds
import PyProof.TupleCall
import PyProof.ZipIter
import KE.KRevIter
import PyProof.StrCalls2
import PyProof.FString
import PyProof.StrWalks
import PyProof.EnumMake
import KE.KIntText
import PyProof.StrLawsChain
import PyProof.StrLawsTight
import PyProof.StrLawsFirst
import PyProof.CallStr
import PySem.Challenge.RW_ringfell_k80_numbers_and_logs_written
set_option Elab.async false
set_option linter.all false
set_option maxRecDepth 100000
namespace L2
open PySem PySem.Spec PyProof.Rows
abbrev Key := Sum Int Str
def keyIs : Key -> Value -> Bool
 | .inl k, v => Value.isInt k v
 | .inr x, v => Value.isStrOf x v
def keyH (w : World) : Key -> Int
 | .inl k => hashInt k
 | .inr x => hashStr w x
theorem keyIs_shape : ∀ {k : Key} {v : Value}, keyIs k v = true -> (∃ i t, k = Sum.inl i /\ v = Value.int i t) \/ (∃ x t, k = Sum.inr x /\ v = Value.str x t)
 | .inl i, v, h => by
  obtain ⟨t, e⟩ := Value.isInt_shape (k := i) (v := v) h
  exact .inl ⟨i, t, rfl, e⟩
 | .inr x, v, h => by
  obtain ⟨t, e⟩ := Value.isStrOf_shape (x := x) (v := v) h
  exact .inr ⟨x, t, rfl, e⟩
theorem key_ll (a b : Int) : decide ((Sum.inl a : Key) = Sum.inl b) = (a == b) := by
 by_cases e : a = b
 ·subst e; simp
 ·have h : ¬ (Sum.inl a : Key) = Sum.inl b := fun q => e (Sum.inl.inj q)
  rw [decide_eq_false h]
  exact (beq_eq_false_iff_ne.mpr e).symm
theorem key_rr (a b : Str) : decide ((Sum.inr a : Key) = Sum.inr b) = decide (a = b) := by
 by_cases e : a = b
 ·subst e; simp
 ·have h : ¬ (Sum.inr a : Key) = Sum.inr b := fun q => e (Sum.inr.inj q)
  rw [decide_eq_false h, decide_eq_false e]
theorem key_lr (a : Int) (b : Str) : decide ((Sum.inl a : Key) = Sum.inr b) = false := decide_eq_false (fun q => nomatch q)
theorem key_rl (a : Str) (b : Int) : decide ((Sum.inr a : Key) = Sum.inl b) = false := decide_eq_false (fun q => nomatch q)
def mixKind (prog : Program) (w : World) : PySem.KeyKind prog w Key where
 is := keyIs
 hash := keyH w
 inj := fun v a b ha hb => by
  rcases keyIs_shape ha with ⟨i, t, rfl, rfl⟩ | ⟨x, t, rfl, rfl⟩
  ·rcases keyIs_shape hb with ⟨j, u, rfl, e⟩ | ⟨y, u, rfl, e⟩
   ·injection e with e1 _; rw [e1]
   ·exact nomatch e
  ·rcases keyIs_shape hb with ⟨j, u, rfl, e⟩ | ⟨y, u, rfl, e⟩
   ·exact nomatch e
   ·injection e with e1 _; rw [e1]
 byValue := fun k v h => by
  rcases keyIs_shape h with ⟨i, t, rfl, rfl⟩ | ⟨x, t, rfl, rfl⟩ <;> rfl
 pyHash := fun hv h => by
  rcases keyIs_shape hv with ⟨i, t, rfl, rfl⟩ | ⟨x, t, rfl, rfl⟩
  ·exact wpAny_pyHash_int h
  ·exact wpAny_pyHash_str h
 eqBool := fun hu hv h => by
  rcases keyIs_shape hu with ⟨i, t, rfl, rfl⟩ | ⟨x, t, rfl, rfl⟩
  ·rcases keyIs_shape hv with ⟨j, u, rfl, rfl⟩ | ⟨y, u, rfl, rfl⟩
   ·rw [key_ll] at h; exact wpAny_eqBool_int h
   ·rw [key_lr] at h; exact SeqAt.EqAt.int_str i t y u _ _ _ _ h
  ·rcases keyIs_shape hv with ⟨j, u, rfl, rfl⟩ | ⟨y, u, rfl, rfl⟩
   ·rw [key_rl] at h; exact SeqAt.EqAt.str_int x t j u _ _ _ _ h
   ·rw [key_rr] at h; exact wpAny_eqBool_str h
 «strs» := fun k x t v h => by
  rcases keyIs_shape h with ⟨i, u, rfl, e⟩ | ⟨y, u, rfl, e⟩
  ·exact nomatch e
  ·injection e with e1 _
   subst e1
   cases v <;> rfl
end L2
namespace L2
open PySem PySem.Spec PyProof.Rows
inductive V where
 | non | bl (b : Bool) | int (i : Int) | str (x : Str) | byt (b : Array UInt8) | flt (b : UInt64) | ref (a : Addr) | ty (n : String)
 deriving DecidableEq
def RelV : V -> Value -> Prop
 | .non, u => u = Value.none
 | .bl b, u => u = Value.bool b
 | .int i, u => ∃ t, u = Value.int i t
 | .str x, u => ∃ t, u = Value.str x t
 | .byt b, u => ∃ t, u = Value.bytes b t
 | .flt b, u => ∃ t, u = Value.float b t
 | .ref a, u => u = Value.ref a
 | .ty n, u => u = Value.type n
abbrev Vals : List V -> List Value -> Prop := Paired RelV
theorem Vals.length {xs : List V} {us : List Value} (r : Vals xs us) : xs.length = us.length := Paired.length r
theorem Vals.get : ∀ {xs : List V} {us : List Value} {i : Nat} {x : V}, Vals xs us -> xs[i]? = some x -> ∃ u, us[i]? = some u /\ RelV x u
 | _, _, _, _, .nil, e => by simp at e
 | _, _, 0, _, .cons r _, e => by simp at e; subst e; exact ⟨_, rfl, r⟩
 | _, _, i + 1, x, .cons _ t, e => by
  obtain ⟨u, h1, h2⟩ := Vals.get (i := i) (x := x) t (by simpa using e)
  exact ⟨u, by simpa using h1, h2⟩
theorem Vals.set {x : V} {u : Value} (r : RelV x u) : ∀ {xs : List V} {us : List Value} (i : Nat), Vals xs us -> Vals (xs.set i x) (us.set i u)
 | _, _, _, .nil => .nil
 | _, _, 0, .cons _ t => .cons r t
 | _, _, i + 1, .cons q t => .cons q (Vals.set r i t)
theorem Vals.append : ∀ {xs ys : List V} {us ws : List Value}, Vals xs us -> Vals ys ws -> Vals (xs ++ ys) (us ++ ws)
 | _, _, _, _, .nil, s => s
 | _, _, _, _, .cons r t, s => .cons r (Vals.append t s)
theorem Vals.take : ∀ {xs : List V} {us : List Value} (n : Nat), Vals xs us -> Vals (xs.take n) (us.take n)
 | _, _, 0, _ => .nil
 | _, _, _ + 1, .nil => .nil
 | _, _, n + 1, .cons r t => .cons r (Vals.take n t)
theorem Vals.drop : ∀ {xs : List V} {us : List Value} (n : Nat), Vals xs us -> Vals (xs.drop n) (us.drop n)
 | _, _, 0, r => r
 | _, _, _ + 1, .nil => .nil
 | _, _, n + 1, .cons _ t => Vals.drop n t
def RelO : Option V -> Option Value -> Prop
 | some v, some u => RelV v u
 | none, none => True
 | _, _ => False
def KV {κ : Type} : List (κ × V) -> List (κ × Value) -> Prop := Paired fun (p : κ × V) (q : κ × Value) => p.1 = q.1 /\ RelV p.2 q.2
def kV : Key -> V
 | .inl i => .int i
 | .inr x => .str x
inductive HO where
  | lst (xs : List V)
  | tup (xs : List V)
  | dK (kvs : List (Key × V)) | dT (kvs : List (List Key × V))
  | set (S : Int -> Bool) (n : Nat)
  | ins (C dx : Addr) (fs : List (Str × V))
  | own (x : Addr)
  | xd (fs : List (Str × V))
  | met (f x : Addr)
  | rng (lo hi : Int)
  | frz (o : Obj) (u : HO)
  | tbl (ps : Array Value)
  | ext (φ : Heap -> Prop)
abbrev Hp := Addr -> Option HO
def upd (H : Hp) (a : Addr) (o : HO) : Hp := fun b => if b = a then some o else H b
theorem upd_same {H : Hp} {a : Addr} {o : HO} : upd H a o a = some o := by unfold upd; rw [if_pos rfl]
theorem upd_ne {H : Hp} {a b : Addr} {o : HO} (h : b ≠ a) : upd H a o b = H b := by unfold upd; rw [if_neg h]
theorem ne_of {H : Hp} {a b : Addr} {o u : HO} (h : H a = some o) (h' : H b = some u) (d : o ≠ u) : a ≠ b := by
 intro e; subst e; rw [h] at h'; exact d (Option.some.inj h')
theorem ne_of_none {H : Hp} {a b : Addr} {o : HO} (h : H a = some o) (h' : H b = none) : a ≠ b := by
 intro e; subst e; rw [h] at h'; cases h'
def IsTupD (h : Heap) (a : Addr) (items : Array Value) : Prop := ∃ o, h.get? a = some o /\ (o.cls = .type "tuple" /\ o.dict = none) /\ ∃ n, o.data = .seq items n
theorem IsTupD.tup {h : Heap} {a : Addr} {items : Array Value} (x : IsTupD h a items) : IsTup h a items := let ⟨o, e, c, n, d⟩ := x; ⟨o, e, c.1, n, d⟩
theorem IsTupD.new (h : Heap) (items : Array Value) : IsTupD (h.push { cls := .type "tuple", data := .seq items }) h.objs.size items := ⟨_, Heap.get?_push_size _ rfl, ⟨rfl, rfl⟩, _, rfl⟩
section
variable (P : Program) (w : World)
def ObjOk (H : Hp) (h : Heap) (a : Addr) : HO -> Prop
 | .lst xs => xs.length <= sizeLine /\ ∃ (its : List Value) (n : Nat), Vals xs its /\ h.get? a = some { cls := .type "list", data := .seq its.toArray n }
 | .tup xs => xs.length <= sizeLine /\ ∃ its : List Value, Vals xs its /\ IsTupD h a its.toArray
 | .dK kvs => kvs.length <= sizeLine /\ (a == sysModules) = false /\ ∃ vs, KV kvs vs /\ h.DictOf (mixKind P w) a vs
 | .dT kvs => kvs.length <= sizeLine /\ (a == sysModules) = false /\ ∃ xs : List (List Key × Addr × Value),
   Paired (fun (p : List Key × V) (q : List Key × Addr × Value) => p.1 = q.1 /\ H q.2.1 = some (.tup (p.1.map kV)) /\ RelV p.2 q.2.2) kvs xs ∧
   ∃ o es ep, h.get? a = some o /\ o.ExactDict /\ o.data = .dict es ep /\ es.toList = xs.map (entryOfKey (tupleKind (mixKind P w))) /\ (xs.map (·.1)).Nodup
 | .set S n => h.SetOf (intKind P w) a S n
 | .ins C dx fs => H dx = some (.own a) /\ fs.length <= 1000 /\ dx ≠ a /\ h.get? a = some (PySem.W.instObj C dx) ∧
   ∃ mA, h.Ns1 dx mA /\ (∀ f, RelO (fs.lookup f) (mA f)) /\ PySem.Within mA (fs.map (·.1))
 | .own _ => ∃ o, h.get? a = some o
 | .xd fs => ∃ mA, h.Ns1 a mA /\ ∀ f, RelO (fs.lookup f) (mA f)
 | .rng lo hi => ∃ t u v, h.get? a = some { cls := .type "range", data := .fields #[.int lo t, .int hi u, .int 1 v] }
 | .frz o u => h.get? a = some o /\ ObjOk H h a u
 | .tbl ps => h.get? a = some { cls := .none, data := .fields ps }
 | .met f x => h.get? a = some (PySem.W.methodObj (.ref f) (.ref x))
 | .ext φ => φ h /\ (∃ o, h.get? a = some o) /\ ∀ h1 h2 : Heap, φ h1 -> (∀ o, h1.get? a = some o -> h2.get? a = some o) -> φ h2
def HOk (H : Hp) (h : Heap) : Prop := ∀ a o, H a = some o -> ObjOk P w H h a o
end
section
variable {P : Program} {w : World} {H H' : Hp} {h h' : Heap} {a : Addr} {o : HO}
theorem ObjOk.lt (x : ObjOk P w H h a o) : a < h.objs.size := by
 cases o with
 | lst xs => obtain ⟨_, _, _, _, e⟩ := x; exact Heap.lt_size e
 | tup xs => obtain ⟨_, _, _, p⟩ := x; exact (IsTupD.tup p).lt
 | dK kvs => obtain ⟨_, _, _, _, o, _, _, e, _⟩ := x; exact Heap.lt_size e
 | dT kvs => obtain ⟨_, _, _, _, o, _, _, e, _⟩ := x; exact Heap.lt_size e
 | set S n => obtain ⟨o, _, _, _, e, _⟩ := x; exact Heap.lt_size e
 | ins C dx fs => obtain ⟨_, _, _, e, _⟩ := x; exact Heap.lt_size e
 | own y => obtain ⟨_, e⟩ := x; exact Heap.lt_size e
 | xd fs => obtain ⟨_, ⟨_, _, _, e, _⟩, _⟩ := x; exact Heap.lt_size e
 | rng lo hi => obtain ⟨_, _, _, e⟩ := x; exact Heap.lt_size e
 | frz ob u => obtain ⟨e, _⟩ := x; exact Heap.lt_size e
 | tbl ps => exact Heap.lt_size (show h.get? a = some _ from x)
 | met f y => exact Heap.lt_size (show h.get? a = some _ from x)
 | ext φ => obtain ⟨_, ⟨_, e⟩, _⟩ := x; exact Heap.lt_size e
theorem Paired.mapP {α β : Type} {F G : α -> β -> Prop} : ∀ {l₁ : List α} {l₂ : List β}, Paired F l₁ l₂ -> (∀ a b, F a b -> G a b) -> Paired G l₁ l₂
 | _, _, .nil, _ => .nil
 | _, _, .cons r t, f => .cons (f _ _ r) (Paired.mapP t f)
theorem ObjOk.stay (x : ObjOk P w H h a o) (k : ∀ b u, (b = a \/ H b = some (.own a)) -> h.get? b = some u -> h'.get? b = some u)
  (ho : ∀ b, H b = some (.own a) -> H' b = some (.own a)) (ht : ∀ b xs, H b = some (.tup xs) -> H' b = some (.tup xs)) : ObjOk P w H' h' a o := by
 induction o with
 | lst xs => obtain ⟨z, its, n, r, e⟩ := x; exact ⟨z, its, n, r, k _ _ (.inl rfl) e⟩
 | tup xs => obtain ⟨z, its, r, ob, e, c⟩ := x; exact ⟨z, its, r, ob, k _ _ (.inl rfl) e, c⟩
 | dK kvs => obtain ⟨z, y, vs, r, ob, es, ep, e, c⟩ := x; exact ⟨z, y, vs, r, ob, es, ep, k _ _ (.inl rfl) e, c⟩
 | dT kvs =>
  obtain ⟨z, y, xs, r, ob, es, ep, e, c⟩ := x
  exact ⟨z, y, xs, Paired.mapP r fun p q z => ⟨z.1, ht _ _ z.2.1, z.2.2⟩, ob, es, ep, k _ _ (.inl rfl) e, c⟩
 | set S n => obtain ⟨ob, es, ep, t, e, c⟩ := x; exact ⟨ob, es, ep, t, k _ _ (.inl rfl) e, c⟩
 | ins C dx fs =>
  obtain ⟨d, z, ne, e, mA, ⟨od, es, ep, e2, c⟩, r⟩ := x
  exact ⟨ho _ d, z, ne, k _ _ (.inl rfl) e, mA, ⟨od, es, ep, k _ _ (.inr d) e2, c⟩, r⟩
 | own y => obtain ⟨ob, e⟩ := x; exact ⟨ob, k _ _ (.inl rfl) e⟩
 | xd fs => obtain ⟨mA, ⟨od, es, ep, e, c⟩, r⟩ := x; exact ⟨mA, ⟨od, es, ep, k _ _ (.inl rfl) e, c⟩, r⟩
 | rng lo hi => obtain ⟨t, u, v, e⟩ := x; exact ⟨t, u, v, k _ _ (.inl rfl) e⟩
 | frz ob u ih => obtain ⟨e, q⟩ := x; exact ⟨k _ _ (.inl rfl) e, ih q⟩
 | tbl ps =>
  have e : h.get? a = some { cls := .none, data := .fields ps } := x
  show h'.get? a = some { cls := .none, data := .fields ps }
  exact k a _ (.inl rfl) e
 | met f y =>
  have e : h.get? a = some (PySem.W.methodObj (.ref f) (.ref y)) := x
  show h'.get? a = some (PySem.W.methodObj (.ref f) (.ref y))
  exact k a _ (.inl rfl) e
 | ext φ => obtain ⟨p, ⟨o, e⟩, st⟩ := x; exact ⟨st _ _ p fun o q => k _ _ (.inl rfl) q, ⟨o, k _ _ (.inl rfl) e⟩, st⟩
theorem HOk.lt (x : HOk P w H h) (e : H a = some o) : a < h.objs.size := (x a o e).lt
theorem HOk.fresh (x : HOk P w H h) (e : h.objs.size <= a) : H a = none := by
 cases q : H a with
 | none => rfl
 | some u => exact absurd (Nat.lt_of_lt_of_le (x.lt q) e) (Nat.lt_irrefl _)
theorem HOk.kept (x : HOk P w H h) (k : ∀ b u, h.get? b = some u -> h'.get? b = some u) : HOk P w H h' := fun a o e =>
 (x a o e).stay (fun b u _ q => k b u q) (fun _ q => q) fun _ _ q => q
theorem HOk.laid (x : HOk P w H h) (k : ∀ b u, h.get? b = some u -> h'.get? b = some u) (hp : h.objs.size <= a) (new : ObjOk P w (upd H a o) h' a o) : HOk P w (upd H a o) h' := fun b u e => by
 have hn := x.fresh hp
 by_cases hb : b = a
 ·subst hb; rw [upd_same] at e; cases e; exact new
 ·rw [upd_ne hb] at e
  exact (x b u e).stay (fun c v _ q => k c v q) (fun c q => by rw [upd_ne (ne_of_none q hn)]; exact q) fun c xs q => by rw [upd_ne (ne_of_none q hn)]; exact q
end
def Rd (H : Hp) (a : Addr) (u : HO) : Prop := H a = some u \/ ∃ o, H a = some (.frz o u)
theorem Rd.ok {P : Program} {w : World} {H : Hp} {h : Heap} {a : Addr} {u : HO} (r : Rd H a u) (x : HOk P w H h) : ObjOk P w H h a u := by
 rcases r with r | ⟨o, r⟩
 ·exact x a u r
 ·obtain ⟨_, q⟩ := x a _ r
  exact q
def Mut : Option HO -> Prop
 | some (.lst _) => True
 | some (.dK _) => True
 | some (.dT _) => True
 | some (.set _ _) => True
 | some (.ins _ _ _) => True
 | some (.ext _) => True
 | _ => False
section
variable {P : Program} {w : World} {H : Hp} {h h' : Heap} {x e : Addr} {o' : HO}
theorem HOk.write (ok : HOk P w H h) (mu : Mut (H x)) (he : e = x \/ H e = some (.own x)) (k : ∀ b u, b ≠ e -> h.get? b = some u -> h'.get? b = some u) (heo : ∃ u, h'.get? e = some u)
  (new : ObjOk P w (upd H x o') h' x o') : HOk P w (upd H x o') h' := fun b u q => by
 have nown : ∀ c y, H c = some (.own y) -> c ≠ x := fun c y r z => by subst z; rw [r] at mu; exact mu
 have ntup : ∀ c xs, H c = some (.tup xs) -> c ≠ x := fun c xs r z => by subst z; rw [r] at mu; exact mu
 by_cases hb : b = x
 ·subst hb; rw [upd_same] at q; cases q; exact new
 ·rw [upd_ne hb] at q
  by_cases hbe : b = e
  ·have q' : H b = some (.own x) := by
    rcases he with z | z
    ·exact absurd (hbe.trans z) hb
    ·rw [hbe]; exact z
   rw [q] at q'; cases q'
   obtain ⟨v, hv⟩ := heo
   exact ⟨v, by rw [hbe]; exact hv⟩
  ·refine (ok b u q).stay (fun c v hc r => k c v ?_ r) (fun c r => by rw [upd_ne (nown c b r)]; exact r) fun c xs r => by rw [upd_ne (ntup c xs r)]; exact r
   rcases hc with rfl | hc
   ·exact hbe
   ·rintro rfl
    rcases he with z | z
    ·exact nown c b hc z
    ·rw [hc] at z; cases z; exact hb rfl
end
structure Un (fs ex : List Addr) (H H' : Hp) (h h' : Heap) : Prop where
 keep : ∀ b o, h.get? b = some o -> H b = none -> b ∉ fs -> b ∉ ex -> h'.get? b = some o
 slot : ∀ b o, h.get? b = some o -> H b = none -> b ∈ fs -> b ∉ ex -> ∃ sl, h'.get? b = some { o with slots := sl }
 free : ∀ b o, h.get? b = some o -> H b = none -> b ∉ ex -> H' b = none
 there : ∀ b o, h.get? b = some o -> b ∉ ex -> ∃ o', h'.get? b = some o'
 tups : ∀ b xs, H b = some (.tup xs) -> H' b = some (.tup xs)
 frzs : ∀ b o u, H b = some (.frz o u) -> H' b = some (.frz o u)
 tbls : ∀ b ps, H b = some (.tbl ps) -> ∃ more, H' b = some (.tbl (ps ++ more))
section
variable {fs fs' ex ex' : List Addr} {H H1 H2 : Hp} {h h1 h2 h' : Heap} {a x e : Addr} {o : HO}
theorem Un.any (u : Un fs ex H H1 h h1) {b : Addr} {ob : Obj} (q : h.get? b = some ob) (n : H b = none) (hx : b ∉ ex) : ∃ sl, h1.get? b = some { ob with slots := sl } := by
 by_cases hb : b ∈ fs
 ·exact u.slot b ob q n hb hx
 ·exact ⟨ob.slots, u.keep b ob q n hb hx⟩
theorem Un.kept (k : ∀ b u, h.get? b = some u -> h'.get? b = some u) : Un fs ex H H h h' :=
 ⟨fun b ob q _ _ _ => k b ob q, fun b ob q _ _ _ => ⟨ob.slots, k b ob q⟩, fun _ _ _ n _ => n, fun b ob q _ => ⟨ob, k b ob q⟩, fun _ _ q => q, fun _ _ _ q => q, fun _ ps q => ⟨#[], by rw [q]; simp⟩⟩
theorem Un.refl : Un fs ex H H h h := Un.kept fun _ _ q => q
theorem Un.laid (k : ∀ b u, h.get? b = some u -> h'.get? b = some u) (hp : h.objs.size <= a) (hn : H a = none) : Un fs ex H (upd H a o) h h' where
 keep := fun b u q _ _ _ => k b u q
 slot := fun b u q _ _ _ => ⟨u.slots, k b u q⟩
 free := fun b u q n _ => by rw [upd_ne (Nat.ne_of_lt (Nat.lt_of_lt_of_le (Heap.lt_size q) hp))]; exact n
 there := fun b u q _ => ⟨u, k b u q⟩
 tups := fun b xs q => by rw [upd_ne (ne_of_none q hn)]; exact q
 frzs := fun b u xs q => by rw [upd_ne (ne_of_none q hn)]; exact q
 tbls := fun b ps q => ⟨#[], by rw [upd_ne (ne_of_none q hn), q]; simp⟩
theorem Un.write (mu : Mut (H x)) (he : e = x \/ H e = some (.own x)) (k : ∀ b u, b ≠ e -> h.get? b = some u -> h'.get? b = some u) (heo : ∃ u, h'.get? e = some u) : Un fs ex H (upd H x o) h h' := by
 have hx : ∀ b, H b = none -> b ≠ x := fun b n z => by subst z; rw [n] at mu; exact mu
 have hb : ∀ b, H b = none -> b ≠ e := fun b n z => by
  subst z
  rcases he with r | r
  ·exact hx b n r
  ·rw [n] at r; cases r
 have hm : ∀ b u, H b = some u -> ¬ Mut (some u) -> b ≠ x := fun b u q nm z => by subst z; rw [q] at mu; exact nm mu
 refine ⟨fun b u q n _ _ => k b u (hb b n) q, fun b u q n _ _ => ⟨u.slots, k b u (hb b n) q⟩, fun b u q n _ => by rw [upd_ne (hx b n)]; exact n, fun b u q _ => ?_,
  fun b xs q => by rw [upd_ne (hm b _ q fun z => z)]; exact q, fun b u xs q => by rw [upd_ne (hm b _ q fun z => z)]; exact q, fun b ps q => ⟨#[], by rw [upd_ne (hm b _ q fun z => z), q]; simp⟩⟩
 by_cases hbe : b = e
 ·subst hbe; exact heo
 ·exact ⟨u, k b u hbe q⟩
end
def trk (h : Heap) (H : Hp) : List Addr := (List.range h.objs.size).filter fun a => (H a).isSome
def hidT (h : Heap) (H : Hp) : Heap := PySem.W.hideAll h (trk h H)
theorem hidT_size (h : Heap) (H : Hp) : (hidT h H).objs.size = h.objs.size := PySem.W.hideAll_size _ _
theorem hidT_get {h : Heap} {H : Hp} {b : Addr} {o : Obj} (e : h.get? b = some o) (n : H b = none) : (hidT h H).get? b = some o :=
 PySem.W.hideAll_get _ e fun hm => by
  have q : (H b).isSome = true := (List.mem_filter.mp hm).2
  rw [n] at q; simp at q
theorem of_hidT {h : Heap} {H : Hp} {b : Addr} {o : Obj} (e : (hidT h H).get? b = some o) : h.get? b = some o /\ H b = none := by
 have e' : h.get? b = some o := PySem.W.of_hideAll (trk h H) e
 refine ⟨e', ?_⟩
 cases q : H b with
 | none => rfl
 | some x =>
  have hm : b ∈ trk h H := List.mem_filter.mpr ⟨List.mem_range.mpr (Heap.lt_size e'), by simp [q]⟩
  have z : (hidT h H).get? b = none := PySem.W.hideAll_none (trk h H) hm
  rw [z] at e; cases e
def allNews (g h : Heap) (L : Addr) : List (Addr × Obj) := (List.range h.objs.size).filterMap fun a => if a = L \/ (g.get? a).isSome = true then none else (h.get? a).map fun o => (a, o)
def rest (g h : Heap) (L d : Addr) : List (Addr × Obj) := (allNews g h L).filter fun p => decide (p.1 ≠ d)
end L2
namespace L2
open PySem PySem.Spec PyProof.Rows
structure Mod (K : PySem.W.Frag) (mg : Str -> Option Value) (base : Heap) : Prop where
 kin : K.In base
 glob : base.Ns mainGlobals mg
 blt : ∃ mb, base.Ns builtinsNs mb /\ ∀ x : Str, x ≠ "__name__" -> mb x = bootBuiltins x
 nolimit : base.NoLimit
structure Cx where
 prog : Program
 w : World
 K : PySem.W.Frag
 mg : Str -> Option Value
 base : Heap
 A : Around
 N : List Str
 s₀ : Shared
 H₀ : Hp
 env : Env
 outer : List Env
 stack : List Env
 ex : List Addr
 fn : Str -> Bool
 calm : Bool
 pn : List (Addr × Obj)
 xe : Value -> Shared -> Prop
def frs (l : List Env) : List Addr := l.filterMap (·.frame)
abbrev Cx.fs (X : Cx) : List Addr := frs X.outer
def Vis (sc : Scope) (x : Str) : Prop := sc.names.lookup x = some .local \/ sc.names.lookup x = some .cell \/ sc.names.lookup x = some .free
def Loc (sc : Scope) (x : Str) : Prop := sc.names.lookup x = some .local \/ sc.names.lookup x = some .cell
def Look (env : Env) (h : Heap) (m : Str -> Option Value) (x : Str) (u : Value) : Prop :=
 (env.kindOf x = some .local /\ m x = some u) \/ ((env.kindOf x = some .cell \/ env.kindOf x = some .free) /\ ∃ c, env.cells.lookup x = some c /\ h.IsCell c (some u))
structure Cx.Ok (X : Cx) : Prop where
 mod : Mod X.K X.mg X.base
 kind : X.env.scope.kind = .function
 glob : X.env.globals = mainGlobals
 blt : X.env.builtins = builtinsNs
 above : X.s₀.heap.objs.size <= X.env.locals
 inj : ∀ x y c, X.env.cells.lookup x = some c -> X.env.cells.lookup y = some c -> x = y
 has : ∀ x, (X.env.kindOf x = some .cell \/ X.env.kindOf x = some .free) -> ∃ c, X.env.cells.lookup x = some c
 cab : ∀ x c, X.fn x = true -> X.env.cells.lookup x = some c -> X.s₀.heap.objs.size <= c
 hd : X.calm = true -> X.A.handled = none
 frames : X.A.frames = some X.stack
 stk : X.stack = X.outer \/ (X.stack = X.env :: X.outer /\ X.env.frame = some X.env.locals)
 exf : ∀ b ∈ X.ex, b ≠ X.env.locals /\ ∀ x c, X.env.cells.lookup x = some c -> c ≠ b
 bs : ∀ b o, X.base.get? b = some o -> X.s₀.heap.get? b = some o /\ X.H₀ b = none
 bsz : X.base.objs.size <= X.s₀.heap.objs.size
 noex : ∀ b o, X.base.get? b = some o -> b ∉ X.ex
 exfs : ∀ b ∈ X.ex, b ∉ X.fs
 funs : X.s₀.heap.FunFrames X.base X.outer
 frf : ∀ b ∈ X.fs, X.H₀ b = none
structure Inv (X : Cx) (pins : List (Addr × Obj)) (σ : List (Option V)) (H : Hp) (s : Shared) : Prop where
 ok : X.Ok
 os : s.os = X.s₀.os
 bare : AllBare s.gens
 base : Un X.fs X.ex X.H₀ H X.s₀.heap s.heap
 loc : ∃ m, s.heap.Ns X.env.locals m /\ ∀ (i : Nat) (x : Str) (v : V), X.N[i]? = some x -> σ[i]? = some (some v) -> Vis X.env.scope x -> ∃ u, RelV v u /\ Look X.env s.heap m x u
 cell : ∀ x c, X.env.cells.lookup x = some c -> ∃ v, s.heap.IsCell c v
 free : H X.env.locals = none
 freeC : ∀ x c, X.env.cells.lookup x = some c -> H c = none
 pin : ∀ p ∈ X.pn ++ pins, s.heap.get? p.1 = some p.2 /\ H p.1 = none /\ p.1 ≠ X.env.locals /\ p.1 ∉ X.fs /\ ∀ v, p.2.data ≠ .cell v
 hok : HOk X.prog X.w H s.heap
 len : σ.length = X.N.length
section
variable {X : Cx} {pins : List (Addr × Obj)} {σ : List (Option V)} {H H' : Hp} {s : Shared} {h' : Heap}
theorem Cx.Ok.nofr (ok : X.Ok) {b : Addr} {o : Obj} (e : X.base.get? b = some o) : b ∉ X.fs := fun hb => by
 have := (ok.funs.mem hb).1
 rw [e] at this; cases this
theorem Inv.bs (I : Inv X pins σ H s) : ∀ b o, X.base.get? b = some o -> s.heap.get? b = some o /\ H b = none := fun b o e =>
 ⟨I.base.keep b o (I.ok.bs b o e).1 (I.ok.bs b o e).2 (I.ok.nofr e) (I.ok.noex b o e), I.base.free b o (I.ok.bs b o e).1 (I.ok.bs b o e).2 (I.ok.noex b o e)⟩
theorem Inv.bk (I : Inv X pins σ H s) : ∀ b o, X.base.get? b = some o -> s.heap.get? b = some o := fun b o e => (I.bs b o e).1
theorem Inv.mod (I : Inv X pins σ H s) : Mod X.K X.mg X.base := I.ok.mod
theorem Inv.kIn (I : Inv X pins σ H s) : X.K.In s.heap := I.ok.mod.kin.keeps I.bk
theorem Inv.lt (I : Inv X pins σ H s) : X.env.locals < s.heap.objs.size := let ⟨_, hn, _⟩ := I.loc; hn.lt
theorem Inv.sz (I : Inv X pins σ H s) : X.s₀.heap.objs.size <= s.heap.objs.size := Nat.le_trans I.ok.above (Nat.le_of_lt I.lt)
theorem Inv.nofs (I : Inv X pins σ H s) {a : Addr} (h : s.heap.objs.size <= a) : a ∉ X.fs := fun hb => by
 obtain ⟨_, o, ho, _⟩ := I.ok.funs.mem hb
 exact absurd (Nat.lt_of_lt_of_le (Heap.lt_size ho) (Nat.le_trans I.sz h)) (Nat.lt_irrefl _)
theorem Inv.cne (I : Inv X pins σ H s) : ∀ x c, X.env.cells.lookup x = some c -> c ≠ X.env.locals := fun x c e z => by
 obtain ⟨v, o, ho, hd⟩ := I.cell x c e
 obtain ⟨m, ⟨o', es, ep, ho', hd', _⟩, _⟩ := I.loc
 rw [z, ho'] at ho; cases ho; rw [hd'] at hd; cases hd
theorem Inv.funs (I : Inv X pins σ H s) : s.heap.FunFrames X.base X.outer := by
 have all : ∀ (l : List Env), (∀ b ∈ frs l, b ∈ X.fs) -> X.s₀.heap.FunFrames X.base l -> s.heap.FunFrames X.base l := by
  intro l
  induction l with
  | nil => intro _ _; trivial
  | cons env r ih =>
   intro hs hl
   obtain ⟨hk, ⟨L, o, hf, hn, ho, hd⟩, hr⟩ := hl
   have hL : L ∈ X.fs := hs L (by unfold frs; rw [List.filterMap_cons, hf]; exact List.mem_cons_self)
   obtain ⟨sl, e⟩ := I.base.slot L o ho (I.ok.frf L hL) hL fun z => I.ok.exfs L z hL
   exact ⟨hk, ⟨L, _, hf, hn, e, hd⟩, ih (fun b hb => hs b (by unfold frs; rw [List.filterMap_cons, hf]; exact List.mem_cons_of_mem _ hb)) hr⟩
 exact all X.outer (fun _ hb => hb) I.ok.funs
theorem Inv.stack (I : Inv X pins σ H s) : s.heap.FunFrames X.base X.stack := by
 rcases I.ok.stk with e | ⟨e, hf⟩
 ·rw [e]; exact I.funs
 ·rw [e]
  obtain ⟨m, hn, _⟩ := I.loc
  refine .cons (by rw [I.ok.kind]; decide) hf hn ?_ I.funs
  exact Heap.get?_none_of_le (Nat.le_trans I.ok.bsz I.ok.above)
theorem Inv.stkSub (I : Inv X pins σ H s) : ∀ b ∈ frs X.stack, b ∈ X.env.locals :: X.fs := fun b hb => by
 rcases I.ok.stk with e | ⟨e, hf⟩
 ·rw [e] at hb; exact List.mem_cons_of_mem _ hb
 ·rw [e] at hb
  unfold frs at hb
  rw [List.filterMap_cons, hf] at hb
  exact hb
theorem Inv.stkFree (I : Inv X pins σ H s) : ∀ b ∈ frs X.stack, H b = none := fun b hb => by
 rcases List.mem_cons.mp (I.stkSub b hb) with e | hb
 ·rw [e]; exact I.free
 ·obtain ⟨_, o, ho, _⟩ := I.ok.funs.mem hb
  exact I.base.free b o ho (I.ok.frf b hb) fun z => I.ok.exfs b z hb
theorem Inv.step {g' : Array GenState} {t' : Nat} {d' : Drawn} {ch : List Addr} (I : Inv X pins σ H s)
  (hch : ∀ b ∈ ch, (b ∈ X.ex \/ X.s₀.heap.objs.size <= b) /\ b ≠ X.env.locals /\ (∀ x c, X.env.cells.lookup x = some c -> c ≠ b) /\ ∀ p ∈ X.pn ++ pins, p.1 ≠ b)
  (keep : ∀ b o, b ≠ X.env.locals -> b ∉ X.fs -> b ∉ ch -> s.heap.get? b = some o -> H b = none -> h'.get? b = some o)
  (slot : ∀ b o, b ≠ X.env.locals -> b ∈ X.fs -> b ∉ ch -> s.heap.get? b = some o -> H b = none -> ∃ sl, h'.get? b = some { o with slots := sl }) (free : ∀ b o, b ∉ ch -> s.heap.get? b = some o -> H b = none -> H' b = none)
  (there : ∀ b o, b ∉ ch -> s.heap.get? b = some o -> ∃ o', h'.get? b = some o')
  (tups : ∀ b xs, H b = some (.tup xs) -> H' b = some (.tup xs)) (frzs : ∀ b o u, H b = some (.frz o u) -> H' b = some (.frz o u)) (tbls : ∀ b ps, H b = some (.tbl ps) -> ∃ more, H' b = some (.tbl (ps ++ more)))
  (ns : ∀ m, s.heap.Ns X.env.locals m -> h'.Ns X.env.locals m) (hok : HOk X.prog X.w H' h') (hg : AllBare g') :
  Inv X pins σ H' { s with heap := h', gens := g', drawn := d', toks := t' } := by
 have neL : ∀ b o, X.s₀.heap.get? b = some o -> b ≠ X.env.locals := fun b o e => Nat.ne_of_lt (Nat.lt_of_lt_of_le (Heap.lt_size e) I.ok.above)
 have neC : ∀ b o, X.s₀.heap.get? b = some o -> b ∉ X.ex -> b ∉ ch := fun b o e hx hb => by
  rcases (hch b hb).1 with z | z
  ·exact hx z
  ·exact absurd (Nat.lt_of_lt_of_le (Heap.lt_size e) z) (Nat.lt_irrefl _)
 have cellK : ∀ x c, X.env.cells.lookup x = some c -> ∀ v, s.heap.IsCell c v -> h'.IsCell c v := fun x c e v ⟨o, ho, hd⟩ => by
  have nch : c ∉ ch := fun z => (hch c z).2.2.1 x c e rfl
  by_cases hc : c ∈ X.fs
  ·obtain ⟨sl, q⟩ := slot c o (I.cne x c e) hc nch ho (I.freeC x c e)
   exact ⟨_, q, hd⟩
  ·exact ⟨o, keep c o (I.cne x c e) hc nch ho (I.freeC x c e), hd⟩
 refine ⟨I.ok, I.os, hg, ⟨fun b o e n hb hx => ?_, fun b o e n hb hx => ?_, fun b o e n hx => ?_, fun b o e hx => ?_, fun b xs e => tups b xs (I.base.tups b xs e), fun b o xs e => frzs b o xs (I.base.frzs b o xs e), fun b ps e => ?_⟩, ?_, fun x c e => ?_, ?_, fun x c e => ?_, fun p hp => ?_, hok, I.len⟩
 ·exact keep b o (neL b o e) hb (neC b o e hx) (I.base.keep b o e n hb hx) (I.base.free b o e n hx)
 ·obtain ⟨sl, e1⟩ := I.base.slot b o e n hb hx
  obtain ⟨sl', e2⟩ := slot b _ (neL b o e) hb (neC b o e hx) e1 (I.base.free b o e n hx)
  exact ⟨sl', e2⟩
 ·obtain ⟨o', e1⟩ := I.base.there b o e hx
  exact free b o' (neC b o e hx) e1 (I.base.free b o e n hx)
 ·obtain ⟨o', e1⟩ := I.base.there b o e hx
  exact there b o' (neC b o e hx) e1
 ·obtain ⟨m1, e1⟩ := I.base.tbls b ps e
  obtain ⟨m2, e2⟩ := tbls b _ e1
  exact ⟨m1 ++ m2, by rw [e2, Array.append_assoc]⟩
 ·obtain ⟨m, hn, hl⟩ := I.loc
  refine ⟨m, ns m hn, fun i x v e1 e2 e3 => ?_⟩
  obtain ⟨u, r, l⟩ := hl i x v e1 e2 e3
  refine ⟨u, r, ?_⟩
  rcases l with l | ⟨k, c, e, z⟩
  ·exact .inl l
  ·exact .inr ⟨k, c, e, cellK x c e _ z⟩
 ·obtain ⟨v, z⟩ := I.cell x c e
  exact ⟨v, cellK x c e v z⟩
 ·obtain ⟨m, ⟨o, _, _, ho, _⟩, _⟩ := I.loc
  exact free _ o (fun z => (hch _ z).2.1 rfl) ho I.free
 ·obtain ⟨v, o, ho, hd⟩ := I.cell x c e
  exact free c o (fun z => (hch c z).2.2.1 x c e rfl) ho (I.freeC x c e)
 ·obtain ⟨e, n, ne, nf, d⟩ := I.pin p hp
  have nch : p.1 ∉ ch := fun z => (hch p.1 z).2.2.2 p hp rfl
  exact ⟨keep p.1 p.2 ne nf nch e n, free p.1 p.2 nch e n, ne, nf, d⟩
theorem Inv.un {t' : Nat} (I : Inv X pins σ H s) (u : Un X.fs [] H H' s.heap h') (hok : HOk X.prog X.w H' h') : Inv X pins σ H' { s with heap := h', toks := t' } := by
 obtain ⟨m, ⟨o, es, ep, ho, r⟩, _⟩ := id I.loc
 obtain ⟨sl, hL⟩ := u.any ho I.free (by simp)
 exact I.step (g' := s.gens) (d' := s.drawn) (ch := []) (fun _ z => nomatch z) (fun b o _ hb _ e n => u.keep b o e n hb (by simp)) (fun b o _ hb _ e n => u.slot b o e n hb (by simp)) (fun b o _ e n => u.free b o e n (by simp)) (fun b o _ e => u.there b o e (by simp)) u.tups u.frzs u.tbls (fun m' hm => by
  obtain ⟨o', es', ep', ho', r'⟩ := hm
  rw [ho] at ho'; cases ho'
  exact ⟨_, es', ep', hL, r'⟩) hok I.bare
theorem Inv.call {g' : Array GenState} {t' : Nat} {d' : Drawn} {ch : List Addr} (I : Inv X pins σ H s) (u : Un (frs X.stack) ch H H' s.heap h') (hok : HOk X.prog X.w H' h') (hg : AllBare g')
  (hch : ∀ b ∈ ch, (b ∈ X.ex \/ X.s₀.heap.objs.size <= b) /\ b ≠ X.env.locals /\ (∀ x c, X.env.cells.lookup x = some c -> c ≠ b) /\ ∀ p ∈ X.pn ++ pins, p.1 ≠ b) :
  Inv X pins σ H' { s with heap := h', gens := g', drawn := d', toks := t' } := by
 obtain ⟨m, ⟨o, es, ep, ho, r⟩, _⟩ := id I.loc
 obtain ⟨sl, hL⟩ := u.any ho I.free fun z => (hch _ z).2.1 rfl
 exact I.step (ch := ch) hch (fun b o hL hb hc e n => u.keep b o e n (fun z => (List.mem_cons.mp (I.stkSub b z)).elim hL hb) hc) (fun b o _ _ hc e n => u.any e n hc) (fun b o hc e n => u.free b o e n hc) (fun b o hc e => u.there b o e hc) u.tups u.frzs u.tbls (fun m' hm => by
  obtain ⟨o', es', ep', ho', r'⟩ := hm
  rw [ho] at ho'; cases ho'
  exact ⟨_, es', ep', hL, r'⟩) hok hg
theorem Inv.turned {t' : Nat} {it : Addr} (I : Inv X pins σ H s) (k : ∀ b o, b ≠ it -> s.heap.get? b = some o -> h'.get? b = some o) (hn : H it = none) (hL : it ≠ X.env.locals)
  (h1 : it ∈ X.ex \/ X.s₀.heap.objs.size <= it) (h2 : ∀ x c, X.env.cells.lookup x = some c -> c ≠ it) (h3 : ∀ p ∈ X.pn ++ pins, p.1 ≠ it) : Inv X pins σ H { s with heap := h', toks := t' } := by
 have nit : ∀ b u, H b = some u -> b ≠ it := fun b u e z => by rw [z, hn] at e; cases e
 refine I.step (g' := s.gens) (d' := s.drawn) (ch := [it]) (fun b hb => ?_) (fun b o _ _ hc e _ => k b o (fun z => hc (by simp [z])) e) (fun b o _ _ hc e _ => ⟨o.slots, k b o (fun z => hc (by simp [z])) e⟩) (fun _ _ _ _ n => n)
  (fun b o hc e => ⟨o, k b o (fun z => hc (by simp [z])) e⟩) (fun _ _ e => e) (fun _ _ _ e => e) (fun b ps e => ⟨#[], by rw [e]; simp⟩) (fun m hm => ?_) (fun b u e => ?_) I.bare
 ·have e : b = it := by simpa using hb
  subst e
  exact ⟨h1, hL, h2, h3⟩
 ·obtain ⟨o, es, ep, ho, r⟩ := hm
  exact ⟨o, es, ep, k _ o (Ne.symm hL) ho, r⟩
 ·refine (I.hok b u e).stay (fun c v hc q => k c v ?_ q) (fun _ q => q) fun _ _ q => q
  rcases hc with z | z
  ·rw [z]; exact nit b u e
  ·exact nit c _ z
theorem Inv.tok (I : Inv X pins σ H s) (t : Nat) : Inv X pins σ H { s with toks := t } := I.un (h' := s.heap) (t' := t) Un.refl I.hok
theorem Inv.kept {t' : Nat} (I : Inv X pins σ H s) (k : ∀ b u, s.heap.get? b = some u -> h'.get? b = some u) : Inv X pins σ H { s with heap := h', toks := t' } := I.un (Un.kept k) (I.hok.kept k)
theorem Inv.laid {a : Addr} {o : HO} {t' : Nat} (I : Inv X pins σ H s) (k : ∀ b u, s.heap.get? b = some u -> h'.get? b = some u) (hp : s.heap.objs.size <= a) (new : ObjOk X.prog X.w (upd H a o) h' a o) :
  Inv X pins σ (upd H a o) { s with heap := h', toks := t' } := I.un (Un.laid k hp (I.hok.fresh hp)) (I.hok.laid k hp new)
theorem Inv.write {x e : Addr} {o : HO} {t' : Nat} (I : Inv X pins σ H s) (mu : Mut (H x)) (he : e = x \/ H e = some (.own x)) (k : ∀ b u, b ≠ e -> s.heap.get? b = some u -> h'.get? b = some u) (heo : ∃ u, h'.get? e = some u)
  (new : ObjOk X.prog X.w (upd H x o) h' x o) : Inv X pins σ (upd H x o) { s with heap := h', toks := t' } := I.un (Un.write mu he k heo) (I.hok.write mu he k heo new)
theorem Inv.pins_of {pins' : List (Addr × Obj)} (I : Inv X pins σ H s) (h : ∀ p ∈ pins', s.heap.get? p.1 = some p.2 /\ H p.1 = none /\ p.1 ≠ X.env.locals /\ p.1 ∉ X.fs /\ ∀ v, p.2.data ≠ .cell v) : Inv X pins' σ H s :=
 ⟨I.ok, I.os, I.bare, I.base, I.loc, I.cell, I.free, I.freeC, fun p hp => (List.mem_append.mp hp).elim (fun z => I.pin p (List.mem_append_left _ z)) (h p), I.hok, I.len⟩
theorem nodup_ix {N : List Str} (hN : N.Nodup) {i j : Nat} {x : Str} (a : N[i]? = some x) (b : N[j]? = some x) : i = j := by
 obtain ⟨h1, e1⟩ := List.getElem?_eq_some_iff.mp a
 obtain ⟨h2, e2⟩ := List.getElem?_eq_some_iff.mp b
 exact (List.getElem_inj hN).mp (e1.trans e2.symm)
theorem store_ok2 {M : Model} {A : Around} {E : Value -> Shared -> Prop} {i : Nat} {x : Str} {v : V} {u : Value} {Q : Unit -> Shared -> Prop} (I : Inv X pins σ H s) (hN : X.N.Nodup) (hi : X.N[i]? = some x) (hx : Loc X.env.scope x) (r : RelV v u)
  (h : ∀ s', Inv X pins (σ.set i (some v)) H s' -> (∃ a, Heap.SameBut a s.heap s'.heap /\ (a = X.env.locals \/ X.env.cells.lookup x = some a)) -> Q () s') (hf : X.fn x = true \/ X.env.scope.names.lookup x = some .local := by first | exact .inl rfl | exact .inr rfl | assumption) : wpAny M A (storeName X.env x u) Q E s := by
 obtain ⟨m, hn, hl⟩ := id I.loc
 have hcls : (X.env.scope.kind == .class || (X.env.scope.kind == .module && X.env.locals != X.env.globals)) = false := by rw [I.ok.kind]; rfl
 have hiσ : i < σ.length := by rw [I.len]; exact (List.getElem?_eq_some_iff.mp hi).1
 have cne := I.cne
 have tracked : ∀ {a : Addr} {h' : Heap}, (∃ o, s.heap.get? a = some o /\ H a = none) -> Heap.SameBut a s.heap h' -> HOk X.prog X.w H h' := fun {a h'} ha hs b ob e => by
  obtain ⟨_, _, hfree⟩ := ha
  refine (I.hok b ob e).stay (fun c w' hc q => (hs.2 c ?_).trans q) (fun _ q => q) fun _ _ q => q
  rintro rfl
  rcases hc with rfl | hc
  ·rw [hfree] at e; cases e
  ·rw [hfree] at hc; cases hc
 rcases hx with hk | hk
 ·refine wpAny_storeName_local hk hn (fun h' hn' hs => ?_) hcls
  obtain ⟨oL, _, _, hoL, _⟩ := id hn
  refine h _ ⟨I.ok, I.os, I.bare, ⟨fun b o e n hb hx => ?_, fun b o e n hb hx => ?_, I.base.free, fun b o e hx => ?_, I.base.tups, I.base.frzs, I.base.tbls⟩, ⟨_, hn', fun j y v' e1 e2 e3 => ?_⟩, fun y c e => ?_, I.free, I.freeC, fun p hp => ?_, tracked ⟨oL, hoL, I.free⟩ hs, by simpa using I.len⟩ ⟨_, hs, .inl rfl⟩
  ·exact (hs.2 b (Nat.ne_of_lt (Nat.lt_of_lt_of_le (Heap.lt_size e) I.ok.above))).trans (I.base.keep b o e n hb hx)
  ·obtain ⟨sl, e1⟩ := I.base.slot b o e n hb hx
   exact ⟨sl, (hs.2 b (Nat.ne_of_lt (Nat.lt_of_lt_of_le (Heap.lt_size e) I.ok.above))).trans e1⟩
  ·obtain ⟨o', e1⟩ := I.base.there b o e hx
   exact ⟨o', (hs.2 b (Nat.ne_of_lt (Nat.lt_of_lt_of_le (Heap.lt_size e) I.ok.above))).trans e1⟩
  ·by_cases hj : j = i
   ·subst hj
    rw [hi] at e1; cases e1
    rw [List.getElem?_set_self hiσ] at e2
    cases e2
    exact ⟨u, r, .inl ⟨hk, by simp⟩⟩
   ·rw [List.getElem?_set_ne (Ne.symm hj)] at e2
    obtain ⟨u', r', q⟩ := hl j y v' e1 e2 e3
    refine ⟨u', r', ?_⟩
    rcases q with ⟨k, e⟩ | ⟨k, c, e, z⟩
    ·refine .inl ⟨k, ?_⟩
     have : y ≠ x := fun e => hj (nodup_ix hN e1 (e ▸ hi))
     simp [this, e]
    ·exact .inr ⟨k, c, e, z.sameBut hs (cne y c e)⟩
  ·obtain ⟨w', z⟩ := I.cell y c e
   exact ⟨w', z.sameBut hs (cne y c e)⟩
  ·obtain ⟨e, n, ne, nf, d⟩ := I.pin p hp
   exact ⟨(hs.2 p.1 ne).trans e, n, ne, nf, d⟩
 ·have hfn : X.fn x = true := by
   rcases hf with z | z
   ·exact z
   ·rw [z] at hk; cases hk
  obtain ⟨c, hc⟩ := I.ok.has x (.inl hk)
  obtain ⟨w', z⟩ := I.cell x c hc
  refine wpAny_storeName_cell I.ok.kind hk hc z (fun h' hc' hs => ?_)
  obtain ⟨oc, hoc, hocd⟩ := id z
  refine h { s with heap := h' } ⟨I.ok, I.os, I.bare, ⟨fun b o e n hb hx => ?_, fun b o e n hb hx => ?_, I.base.free, fun b o e hx => ?_, I.base.tups, I.base.frzs, I.base.tbls⟩, ⟨m, hn.sameBut hs (Ne.symm (cne x c hc)), fun j y v' e1 e2 e3 => ?_⟩, fun y c' e => ?_, I.free, I.freeC, fun p hp => ?_, tracked ⟨oc, hoc, I.freeC x c hc⟩ hs, by simpa using I.len⟩ ⟨c, hs, .inr hc⟩
  ·exact (hs.2 b (Nat.ne_of_lt (Nat.lt_of_lt_of_le (Heap.lt_size e) (I.ok.cab x c hfn hc)))).trans (I.base.keep b o e n hb hx)
  ·obtain ⟨sl, e1⟩ := I.base.slot b o e n hb hx
   exact ⟨sl, (hs.2 b (Nat.ne_of_lt (Nat.lt_of_lt_of_le (Heap.lt_size e) (I.ok.cab x c hfn hc)))).trans e1⟩
  ·obtain ⟨o', e1⟩ := I.base.there b o e hx
   exact ⟨o', (hs.2 b (Nat.ne_of_lt (Nat.lt_of_lt_of_le (Heap.lt_size e) (I.ok.cab x c hfn hc)))).trans e1⟩
  ·by_cases hj : j = i
   ·subst hj
    rw [hi] at e1; cases e1
    rw [List.getElem?_set_self hiσ] at e2
    cases e2
    exact ⟨u, r, .inr ⟨.inl hk, c, hc, hc'⟩⟩
   ·rw [List.getElem?_set_ne (Ne.symm hj)] at e2
    obtain ⟨u', r', q⟩ := hl j y v' e1 e2 e3
    refine ⟨u', r', ?_⟩
    rcases q with q | ⟨k, c', e, z'⟩
    ·exact .inl q
    ·refine .inr ⟨k, c', e, z'.sameBut hs ?_⟩
     rintro rfl
     exact hj (nodup_ix hN e1 (I.ok.inj _ _ _ e hc ▸ hi))
  ·by_cases hcc : c' = c
   ·subst hcc; exact ⟨_, hc'⟩
   ·obtain ⟨w2, z2⟩ := I.cell y c' e
    exact ⟨w2, z2.sameBut hs hcc⟩
  ·obtain ⟨e, n, ne, nf, d⟩ := I.pin p hp
   refine ⟨(hs.2 p.1 ?_).trans e, n, ne, nf, d⟩
   intro q
   rw [q, hoc] at e
   have q' : oc = p.2 := Option.some.inj e
   exact d w' (by rw [<- q']; exact hocd)
theorem store_ok {M : Model} {A : Around} {E : Value -> Shared -> Prop} {i : Nat} {x : Str} {v : V} {u : Value} {Q : Unit -> Shared -> Prop} (I : Inv X pins σ H s) (hN : X.N.Nodup) (hi : X.N[i]? = some x) (hx : Loc X.env.scope x) (r : RelV v u)
  (h : ∀ s', Inv X pins (σ.set i (some v)) H s' -> Q () s') (hf : X.fn x = true \/ X.env.scope.names.lookup x = some .local := by first | exact .inl rfl | exact .inr rfl | assumption) : wpAny M A (storeName X.env x u) Q E s :=
 store_ok2 I hN hi hx r (fun s' I' _ => h s' I') hf
theorem Inv.call' {s' : Shared} {ch : List Addr} (I : Inv X pins σ H s) (ho : s'.os = s.os) (u : Un (frs X.stack) ch H H' s.heap s'.heap) (hok : HOk X.prog X.w H' s'.heap) (hg : AllBare s'.gens)
  (hch : ∀ b ∈ ch, (b ∈ X.ex \/ X.s₀.heap.objs.size <= b) /\ b ≠ X.env.locals /\ (∀ x c, X.env.cells.lookup x = some c -> c ≠ b) /\ ∀ p ∈ X.pn ++ pins, p.1 ≠ b) : Inv X pins σ H' s' := by
 obtain ⟨h', g', d', t', o'⟩ := s'
 have e : o' = s.os := ho
 subst e
 exact I.call (g' := g') (t' := t') (d' := d') u hok hg hch
end
abbrev XK := Value -> Option Addr -> Hp -> Prop
abbrev St := List (Option V)
abbrev VK := V -> Hp -> Prop
abbrev TE := St -> Hp -> VK -> Prop
abbrev TT := St -> Hp -> (Bool -> Hp -> Prop) -> Prop
abbrev TA := St -> Hp -> (List V -> Hp -> Prop) -> Prop
structure Ends where
 nx : St -> Hp -> Prop
 rt : VK
 bk : St -> Hp -> Prop := fun _ _ => False
 ct : St -> Hp -> Prop := fun _ _ => False
abbrev TS := Ends -> St -> Hp -> Prop
def EP (X : Cx) (pins : List (Addr × Obj)) (σ : St) (Q : VK) (u : Value) (s' : Shared) : Prop := ∃ v H', Inv X pins σ H' s' /\ RelV v u /\ Q v H'
def TP (X : Cx) (pins : List (Addr × Obj)) (σ : St) (Q : Bool -> Hp -> Prop) (b : Bool) (s' : Shared) : Prop := ∃ H', Inv X pins σ H' s' /\ Q b H'
def AP (X : Cx) (pins : List (Addr × Obj)) (σ : St) (Q : List V -> Hp -> Prop) (us : List Value) (s' : Shared) : Prop := ∃ vs H', Inv X pins σ H' s' /\ Vals vs us /\ Q vs H'
def SP (X : Cx) (pins : List (Addr × Obj)) (D : Ends) (f : Flow) (s' : Shared) : Prop :=
 match f with
 | .next => ∃ σ' H', Inv X pins σ' H' s' /\ D.nx σ' H'
 | .brk => ∃ σ' H', Inv X pins σ' H' s' /\ D.bk σ' H'
 | .cont => ∃ σ' H', Inv X pins σ' H' s' /\ D.ct σ' H'
 | .ret u => ∃ v σ' H', Inv X pins σ' H' s' /\ RelV v u /\ D.rt v H'
def PE (X : Cx) (e : Expr) (t : TE) : Prop :=
 ∀ (pins : List (Addr × Obj)) (s : Shared) (σ : St) (H : Hp) (Q : VK), Inv X pins σ H s -> t σ H Q -> wpAny (model X.prog X.w) X.A (eval e X.env) (EP X pins σ Q) X.xe s
def PT (X : Cx) (e : Expr) (t : TT) : Prop :=
 ∀ (pins : List (Addr × Obj)) (s : Shared) (σ : St) (H : Hp) (Q : Bool -> Hp -> Prop), Inv X pins σ H s -> t σ H Q -> wpAny (model X.prog X.w) X.A (isTrue e X.env (eval e X.env)) (TP X pins σ Q) X.xe s
def PW (X : Cx) (e : Expr) (t : TT) : Prop :=
 ∀ (whole : Sem Value) (pins : List (Addr × Obj)) (s : Shared) (σ : St) (H : Hp) (Q : Bool -> Hp -> Prop), Inv X pins σ H s -> t σ H Q -> wpAny (model X.prog X.w) X.A (isTrue e X.env whole) (TP X pins σ Q) X.xe s
theorem PW.pt {X : Cx} {e : Expr} {t : TT} (h : PW X e t) : PT X e t := h _
def PA (X : Cx) (es : List Expr) (t : TA) : Prop :=
 ∀ (pos : Pos) (pins : List (Addr × Obj)) (s : Shared) (σ : St) (H : Hp) (Q : List V -> Hp -> Prop), Inv X pins σ H s -> t σ H Q -> wpAny (model X.prog X.w) X.A (spliced (backTo pos (starEach es X.env))) (AP X pins σ Q) X.xe s
def PS (X : Cx) (st : Stmt) (t : TS) : Prop :=
 ∀ (pins : List (Addr × Obj)) (s : Shared) (σ : St) (H : Hp) (D : Ends), Inv X pins σ H s -> t D σ H -> wpAny (model X.prog X.w) X.A (exec st X.env) (SP X pins D) X.xe s
def PSs (X : Cx) (st : List Stmt) (t : TS) : Prop :=
 ∀ (pins : List (Addr × Obj)) (s : Shared) (σ : St) (H : Hp) (D : Ends), Inv X pins σ H s -> t D σ H -> wpAny (model X.prog X.w) X.A (execs st X.env) (SP X pins D) X.xe s
theorem thn {α : Type} {t : Sem α} {Q Q' : α -> Shared -> Prop} {M : Model} {A : Around} {E : Value -> Shared -> Prop} {s : Shared} (h : wpAny M A t Q E s) (hQ : ∀ a s, Q a s -> Q' a s) : wpAny M A t Q' E s := wpAny_mono h hQ fun _ _ x => x
end L2
namespace L2
open PySem PySem.Spec PyProof.Rows
section
variable {X : Cx}
theorem bin {a b : Expr} {ta tb : TE} (ha : PE X a ta) (hb : PE X b tb) {pins : List (Addr × Obj)} {s : Shared} {σ : St} {H : Hp} {R : V -> V -> Hp -> Prop} (I : Inv X pins σ H s) (h : ta σ H fun x H1 => tb σ H1 fun y H2 => R x y H2)
  {α : Type} {Q : α -> Shared -> Prop} {f : Value -> Value -> Sem α}
  (hf : ∀ v u s2 x y H2, Inv X pins σ H2 s2 -> RelV x v -> RelV y u -> R x y H2 -> wpAny (model X.prog X.w) X.A (f v u) Q X.xe s2) :
  wpAny (model X.prog X.w) X.A (eval a X.env) (fun v s₁ => wpAny (model X.prog X.w) X.A (eval b X.env) (fun u s₂ => wpAny (model X.prog X.w) X.A (f v u) Q X.xe s₂) X.xe s₁) X.xe s := by
 refine thn (ha pins s σ H _ I h) fun v s1 ⟨x, H1, I1, r1, q1⟩ => ?_
 refine thn (hb pins s1 σ H1 _ I1 q1) fun u s2 ⟨y, H2, I2, r2, q2⟩ => ?_
 exact hf v u s2 x y H2 I2 r1 r2 q2
def tVar (i : Nat) : TE := fun σ H Q => ∃ v, σ[i]? = some (some v) /\ Q v H
def tC (v : V) : TE := fun _ H Q => Q v H
theorem pe_var {i : Nat} {x : Str} {pos : Pos} (hN : X.N[i]? = some x) (hv : Vis X.env.scope x) (hd : (x == ("__debug__" : Str)) = false := by decide) (hcd : (x == ("__classdict__" : Str)) = false := by decide) : PE X (.Name x pos) (tVar i) := by
 intro pins s σ H Q I h
 obtain ⟨v, e, h⟩ := h
 obtain ⟨m, hn, hl⟩ := I.loc
 obtain ⟨u, r, l⟩ := hl i x v hN e hv
 have fin : EP X pins σ Q u s := ⟨v, H, I, r, h⟩
 rcases l with ⟨hk, hm⟩ | ⟨hk, c, hc, hcell⟩
 ·exact wpAny_Name (wpAny_loadName_local I.ok.kind hk hn hm fin) hd
 ·rcases hk with hk | hk
  ·exact wpAny_Name (wpAny_loadName_cell I.ok.kind hk hc hcell fin) hd
  ·exact wpAny_Name (wpAny_loadName_free I.ok.kind hk hc hcell fin hcd) hd
theorem pe_int {i j pos} : PE X (.Constant (.int i) j pos) (tC (.int i)) := fun _ _ _ H _ I h => wpAny_Constant_int ⟨.int i, H, I.tok _, ⟨_, rfl⟩, h⟩
theorem pe_bl {b j pos} : PE X (.Constant (.bool b) j pos) (tC (.bl b)) := fun _ _ _ H _ I h => Constant_bool ⟨.bl b, H, I, rfl, h⟩
theorem pe_non {j pos} : PE X (.Constant .none j pos) (tC .non) := fun _ _ _ H _ I h => Constant_none ⟨.non, H, I, rfl, h⟩
theorem pe_str {x j pos} : PE X (.Constant (.str x) j pos) (tC (.str x)) := fun _ _ _ H _ I h => Calls.Constant_str ⟨.str x, H, I.tok _, ⟨_, rfl⟩, h⟩
def Gl (X : Cx) (x : Str) : Prop := X.env.kindOf x = some .globalImplicit
theorem ld_glob {E : Value -> Shared -> Prop} {pins : List (Addr × Obj)} {s : Shared} {σ : St} {H : Hp} {x : Str} {u : Value} {pos : Pos} {Q : Value -> Shared -> Prop} (I : Inv X pins σ H s) (hg : Gl X x) (hm : X.mg x = some u) (h : Q u s)
  (hd : (x == ("__debug__" : Str)) = false := by decide) : wpAny (model X.prog X.w) X.A (eval (.Name x pos) X.env) Q E s :=
 Calls.Name_function_global I.ok.kind hg (Calls.loadGlobal_global (by rw [I.ok.glob]; exact I.mod.glob.keeps I.bk) hm h) hd
theorem ld_blt {E : Value -> Shared -> Prop} {pins : List (Addr × Obj)} {s : Shared} {σ : St} {H : Hp} {x : Str} {u : Value} {pos : Pos} {Q : Value -> Shared -> Prop} (I : Inv X pins σ H s) (hg : Gl X x) (hm : X.mg x = none) (hv : bootBuiltins x = some u) (h : Q u s)
  (hn : x ≠ "__name__" := by decide) (hd : (x == ("__debug__" : Str)) = false := by decide) : wpAny (model X.prog X.w) X.A (eval (.Name x pos) X.env) Q E s := by
 obtain ⟨mb, h1, h2⟩ := I.mod.blt
 exact Calls.Name_function_global I.ok.kind hg (Calls.loadGlobal_builtin (by rw [I.ok.glob]; exact I.mod.glob.keeps I.bk) hm (by rw [I.ok.blt]; exact h1.keeps I.bk) ((h2 x hn).trans hv) h) hd
theorem pe_glob {x : Str} {v : V} {u : Value} {pos : Pos} (hg : Gl X x) (hm : X.mg x = some u) (r : RelV v u) (hd : (x == ("__debug__" : Str)) = false := by decide) : PE X (.Name x pos) (tC v) :=
 fun _ _ _ H _ I h => ld_glob I hg hm ⟨v, H, I, r, h⟩ hd
theorem pe_bltn {x : Str} {v : V} {u : Value} {pos : Pos} (hg : Gl X x) (hm : X.mg x = none) (hv : bootBuiltins x = some u) (r : RelV v u) (hn : x ≠ "__name__" := by decide) (hd : (x == ("__debug__" : Str)) = false := by decide) : PE X (.Name x pos) (tC v) :=
 fun _ _ _ H _ I h => ld_blt I hg hm hv ⟨v, H, I, r, h⟩ hn hd
variable {a b : Expr} {ta tb : TE} {pos : Pos}
def PC (X : Cx) (op : CmpOp) (a b : Expr) (t : TE) : Prop :=
 ∀ (pins : List (Addr × Obj)) (s : Shared) (σ : St) (H : Hp) (Q : VK), Inv X pins σ H s -> t σ H Q →
  wpAny (model X.prog X.w) X.A (eval a X.env) (fun v s₁ => wpAny (model X.prog X.w) X.A (eval b X.env) (fun u s₂ => wpAny (model X.prog X.w) X.A (compareOp op v u) (EP X pins σ Q) X.xe s₂) X.xe s₁) X.xe s
theorem nobehind (b : Expr) {op : CmpOp} (h : op ≠ .In) (h2 : op ≠ .NotIn) : behindInMarks op b = false := by
 have e1 : (op == CmpOp.In) = false := by cases op <;> first | rfl | exact absurd rfl h
 have e2 : (op == CmpOp.NotIn) = false := by cases op <;> first | rfl | exact absurd rfl h2
 cases b <;> simp [behindInMarks, e1, e2]
def tB (t : TE) : TT := fun σ H Q => t σ H fun x H1 => ∃ c, x = .bl c /\ Q c H1
theorem pt_cmp {op : CmpOp} {t : TE} (h : PC X op a b t) (h1 : behindInMarks op b = false := by first | exact nobehind _ (by decide) (by decide) | rfl) : PT X (.Compare a [op] [b] pos) (tB t) := by
 intro pins s σ H Q I hw
 refine wpAny_isTrue_Compare1 (thn (h pins s σ H _ I hw) fun v s1 h1 => thn h1 fun u s2 h2 => thn h2 fun c s3 ⟨x, H1, I1, r1, q1⟩ => ?_) h1
 obtain ⟨d, rfl, q⟩ := q1
 cases r1
 exact wpAny_truthy_bool ⟨H1, I1, q⟩
theorem pt_val {e : Expr} {t : TE} (h : PE X e t) (he : ∀ whole, isTrue e X.env whole = (do let v ← whole; standAt e.pos; holding [v] (truthy v)) := by intro _; rfl) : PT X e (tB t) := by
  intro pins s σ H Q I hw
  refine isTrue_plain (thn (h pins s σ H _ I hw) fun v s1 ⟨x, H1, I1, r1, q1⟩ => ?_) (he _)
  obtain ⟨d, rfl, q⟩ := q1
  cases r1
  exact wpAny_truthy_bool ⟨H1, I1, q⟩
variable {tA tB' : TT} {rest : List Expr}
def tAnd (t u : TT) : TT := fun σ H Q => t σ H fun c H1 => if c = true then u σ H1 Q else Q false H1
def tOr (t u : TT) : TT := fun σ H Q => t σ H fun c H1 => if c = true then Q true H1 else u σ H1 Q
def tNot (t : TT) : TT := fun σ H Q => t σ H fun c H1 => Q (!c) H1
theorem pw_and1 (ha : PT X a tA) : PW X (.BoolOp .And [a] pos) tA := by
 intro wh pins s σ H Q I h
 refine isTrue_and (thn (ha pins s σ H Q I h) fun c s1 e => ?_)
 cases c with
 | true => exact isTrue_and_nil e
 | false => exact e
theorem pw_or1 (ha : PT X a tA) : PW X (.BoolOp .Or [a] pos) tA := by
 intro wh pins s σ H Q I h
 refine isTrue_or (thn (ha pins s σ H Q I h) fun c s1 e => ?_)
 cases c with
 | false => exact isTrue_or_nil e
 | true => exact e
theorem pw_and (ha : PT X a tA) (hb : PW X (.BoolOp .And (b :: rest) pos) tB') : PW X (.BoolOp .And (a :: b :: rest) pos) (tAnd tA tB') := by
 intro wh pins s σ H Q I h
 refine isTrue_and (thn (ha pins s σ H _ I h) fun c s1 ⟨H1, I1, q1⟩ => ?_)
 cases c with
 | true => exact hb wh pins s1 σ H1 Q I1 q1
 | false => exact ⟨H1, I1, q1⟩
theorem pw_or (ha : PT X a tA) (hb : PW X (.BoolOp .Or (b :: rest) pos) tB') : PW X (.BoolOp .Or (a :: b :: rest) pos) (tOr tA tB') := by
 intro wh pins s σ H Q I h
 refine isTrue_or (thn (ha pins s σ H _ I h) fun c s1 ⟨H1, I1, q1⟩ => ?_)
 cases c with
 | true => exact ⟨H1, I1, q1⟩
 | false => exact hb wh pins s1 σ H1 Q I1 q1
theorem pt_not (ha : PT X a tA) : PT X (.UnaryOp .Not a pos) (tNot tA) := by
 intro pins s σ H Q I h
 exact isTrue_not (ha pins s σ H (fun c H1 => Q (!c) H1) I h)
def tAndV (ta tb : TE) : TE := fun σ H Q => ta σ H fun x H1 => ∃ c, x = .bl c /\ if c = true then tb σ H1 Q else Q (.bl false) H1
def tNotV (ta : TE) : TE := fun σ H Q => ta σ H fun x H1 => ∃ c, x = .bl c /\ Q (.bl (!c)) H1
theorem pe_one {op} {t : TE} (h : PE X a t) : PE X (.BoolOp op [a] pos) t := fun pins s σ H Q I hw => BoolOp_one (h pins s σ H Q I hw)
theorem pe_and (ha : PE X a ta) (hb : PE X (.BoolOp .And (b :: rest) pos) tb) : PE X (.BoolOp .And (a :: b :: rest) pos) (tAndV ta tb) := by
 intro pins s σ H Q I h
 refine BoolOp_and (thn (ha pins s σ H _ I h) fun v s1 ⟨x, H1, I1, r1, q1⟩ => ?_)
 obtain ⟨c, rfl, q1⟩ := q1
 cases r1
 refine wpAny_truthy_bool ?_
 cases c with
 | true => exact hb pins s1 σ H1 Q I1 q1
 | false => exact ⟨.bl false, H1, I1, rfl, q1⟩
theorem pe_not (ha : PE X a ta) : PE X (.UnaryOp .Not a pos) (tNotV ta) := by
 intro pins s σ H Q I h
 refine UnaryOp_ (thn (ha pins s σ H _ I h) fun v s1 ⟨x, H1, I1, r1, q1⟩ => ?_)
 obtain ⟨c, rfl, q1⟩ := q1
 cases r1
 exact not_of (wpAny_truthy_bool ⟨.bl (!c), H1, I1, rfl, q1⟩)
end
end L2
namespace L2
open PySem PySem.Spec PyProof.Rows
def SqL (K : PySem.W.Frag) (H : Hp) (a : Addr) (xs : List V) : Prop :=
 Rd H a (.lst xs) ∨
  ∃ (o : Obj) (its : Array Value) (n : Nat), K.lookup a = some o /\ o.cls = .type "list" /\ o.dict = none /\ o.data = .seq its n /\ its.size <= sizeLine /\ Vals xs its.toList
def SqT (K : PySem.W.Frag) (H : Hp) (a : Addr) (xs : List V) : Prop :=
 Rd H a (.tup xs) ∨
  ∃ (o : Obj) (its : Array Value) (n : Nat), K.lookup a = some o /\ o.cls = .type "tuple" /\ o.data = .seq its n /\ its.size <= sizeLine /\ Vals xs its.toList
def absV : Value -> Option V
 | .none => some .non
 | .bool b => some (.bl b)
 | .int i _ => some (.int i)
 | .str x _ => some (.str x)
 | .bytes b _ => some (.byt b)
 | .float b _ => some (.flt b)
 | .ref a => some (.ref a)
 | .type n => some (.ty n)
 | _ => none
theorem RelV.abs {x : V} {u : Value} (r : RelV x u) : absV u = some x := by
 cases x with
 | non => cases r; rfl
 | bl _ => cases r; rfl
 | int _ => obtain ⟨t, rfl⟩ := r; rfl
 | str _ => obtain ⟨t, rfl⟩ := r; rfl
 | byt _ => obtain ⟨t, rfl⟩ := r; rfl
 | flt _ => obtain ⟨t, rfl⟩ := r; rfl
 | ref _ => cases r; rfl
 | ty _ => cases r; rfl
theorem RelV.inj {x y : V} {u : Value} (r : RelV x u) (q : RelV y u) : x = y := Option.some.inj (r.abs.symm.trans q.abs)
theorem Vals.inj : ∀ {xs ys : List V} {us : List Value}, Vals xs us -> Vals ys us -> xs = ys
 | _, _, _, .nil, .nil => rfl
 | _, _, _, .cons r t, .cons r' t' => by rw [r.inj r', Vals.inj t t']
section
variable {X : Cx} {pins : List (Addr × Obj)} {σ : St} {H : Hp} {s : Shared} {a : Addr} {xs ys : List V}
theorem SqL.of {K : PySem.W.Frag} (h : H a = some (.lst xs)) : SqL K H a xs := .inl (.inl h)
theorem SqT.of {K : PySem.W.Frag} (h : H a = some (.tup xs)) : SqT K H a xs := .inl (.inl h)
theorem Inv.list (I : Inv X pins σ H s) (h : SqL X.K H a xs) : ∃ its : List Value, Vals xs its /\ PlainL s.heap a its.toArray /\ xs.length <= sizeLine := by
 rcases h with h | ⟨o, its, n, hk, hc, hd, hs, hz, r⟩
 ·obtain ⟨z, its, n, r, e⟩ := h.ok I.hok
  exact ⟨its, r, ⟨_, n, e, rfl, rfl, rfl⟩, z⟩
 ·refine ⟨its.toList, r, ⟨o, n, I.kIn a o hk, hc, hd, by simpa using hs⟩, ?_⟩
  have e := r.length
  simp only [Array.length_toList] at e
  omega
theorem Inv.tuple (I : Inv X pins σ H s) (h : SqT X.K H a xs) : ∃ its : List Value, Vals xs its /\ IsTup s.heap a its.toArray /\ xs.length <= sizeLine := by
 rcases h with h | ⟨o, its, n, hk, hc, hs, hz, r⟩
 ·obtain ⟨z, its, r, p⟩ := h.ok I.hok
  exact ⟨its, r, p.tup, z⟩
 ·refine ⟨its.toList, r, ⟨o, I.kIn a o hk, hc, n, by simpa using hs⟩, ?_⟩
  have e := r.length
  simp only [Array.length_toList] at e
  omega
theorem Inv.list_inj (I : Inv X pins σ H s) (h : SqL X.K H a xs) (h' : SqL X.K H a ys) : xs = ys := by
 obtain ⟨its, r, ⟨o, n, e, _, _, d⟩, _⟩ := I.list h
 obtain ⟨its', r', ⟨o', n', e', _, _, d'⟩, _⟩ := I.list h'
 rw [e] at e'; cases e'
 rw [d] at d'
 injection d' with d1 _
 have : its = its' := by simpa using congrArg Array.toList d1
 subst this
 exact r.inj r'
theorem Inv.tuple_inj (I : Inv X pins σ H s) (h : SqT X.K H a xs) (h' : SqT X.K H a ys) : xs = ys := by
 obtain ⟨its, r, ⟨o, e, _, n, d⟩, _⟩ := I.tuple h
 obtain ⟨its', r', ⟨o', e', _, n', d'⟩, _⟩ := I.tuple h'
 rw [e] at e'; cases e'
 rw [d] at d'
 injection d' with d1 _
 have : its = its' := by simpa using congrArg Array.toList d1
 subst this
 exact r.inj r'
end
abbrev Cx.wish (X : Cx) (E : Value -> Shared -> Prop) : Cx := { X with xe := E }
abbrev Cx.nox (X : Cx) : Cx := X.wish fun _ _ => False
theorem Cx.Ok.wish {X : Cx} (ok : X.Ok) (E : Value -> Shared -> Prop) : (X.wish E).Ok :=
 ⟨ok.mod, ok.kind, ok.glob, ok.blt, ok.above, ok.inj, ok.has, ok.cab, ok.hd, ok.frames, ok.stk, ok.exf, ok.bs, ok.bsz, ok.noex, ok.exfs, ok.funs, ok.frf⟩
theorem Cx.Ok.unwish {X : Cx} {E : Value -> Shared -> Prop} (ok : (X.wish E).Ok) : X.Ok :=
 ⟨ok.mod, ok.kind, ok.glob, ok.blt, ok.above, ok.inj, ok.has, ok.cab, ok.hd, ok.frames, ok.stk, ok.exf, ok.bs, ok.bsz, ok.noex, ok.exfs, ok.funs, ok.frf⟩
section
variable {X : Cx} {pins : List (Addr × Obj)} {σ : St} {H : Hp} {s : Shared} {E : Value -> Shared -> Prop}
theorem Inv.wish (I : Inv X pins σ H s) (E : Value -> Shared -> Prop) : Inv (X.wish E) pins σ H s := ⟨I.ok.wish E, I.os, I.bare, I.base, I.loc, I.cell, I.free, I.freeC, I.pin, I.hok, I.len⟩
theorem Inv.unwish (I : Inv (X.wish E) pins σ H s) : Inv X pins σ H s := ⟨I.ok.unwish, I.os, I.bare, I.base, I.loc, I.cell, I.free, I.freeC, I.pin, I.hok, I.len⟩
theorem SP.unwish {D : Ends} {f : Flow} {s' : Shared} (h : SP (X.wish E) pins D f s') : SP X pins D f s' := by
 cases f with
 | next => obtain ⟨σ', H', I, q⟩ := h; exact ⟨σ', H', I.unwish, q⟩
 | brk => obtain ⟨σ', H', I, q⟩ := h; exact ⟨σ', H', I.unwish, q⟩
 | cont => obtain ⟨σ', H', I, q⟩ := h; exact ⟨σ', H', I.unwish, q⟩
 | ret u => obtain ⟨v, σ', H', I, r, q⟩ := h; exact ⟨v, σ', H', I.unwish, r, q⟩
theorem PSs.nox {st : List Stmt} {t : TS} (h : PSs X.nox st t) : PSs X st t := fun pins s σ H D I hw =>
 wpAny_mono (h pins s σ H D (I.wish _) hw) (fun _ _ q => q.unwish) fun _ _ z => False.elim z
end
section
variable {X : Cx} {st : Stmt} {rest : List Stmt} {t u : TS} {e : Expr} {te : TE} {pos : Pos}
def tNext : TS := fun D σ H => D.nx σ H
def tSeq (t u : TS) : TS := fun D σ H => t { D with nx := u D } σ H
theorem pss_nil : PSs X [] tNext := fun _ _ σ H _ I h => wpAny_execs_nil ⟨σ, H, I, h⟩
theorem pss_cons (h1 : PS X st t) (h2 : PSs X rest u) : PSs X (st :: rest) (tSeq t u) := by
 intro pins s σ H D I h
 refine wpAny_execs_cons (thn (h1 pins s σ H { D with nx := u D } I h) fun f s1 q => ?_)
 cases f with
 | next =>
  obtain ⟨σ', H', I', q⟩ := q
  exact h2 pins s1 σ' H' D I' q
 | ret v => exact q
 | brk => exact q
 | cont => exact q
theorem pss_one (h1 : PS X st t) : PSs X [st] t := by
 intro pins s σ H D I h
 refine wpAny_execs_cons (thn (h1 pins s σ H D I h) fun f s1 q => ?_)
 cases f with
 | next => exact wpAny_execs_nil q
 | ret v => exact q
 | brk => exact q
 | cont => exact q
theorem Inv.quiet {pins : List (Addr × Obj)} {σ : St} {H : Hp} {s : Shared} (I : Inv X pins σ H s) : interactive X.env = false := by simp [interactive, I.ok.kind]
def tDrop (te : TE) : TS := fun D σ H => te σ H fun _ H1 => D.nx σ H1
theorem ps_expr (he : PE X e te) (hs : swapsWith e none pos.line X.env = pure false := by rfl) : PS X (.Expr e pos) (tDrop te) := by
 intro pins s σ H D I h
 exact wpAny_Expr_any (thn (he pins s σ H _ I h) fun v s1 ⟨x, H1, I1, r1, q1⟩ => ⟨σ, H1, I1, q1⟩) I.quiet hs
def tRet (te : TE) : TS := fun D σ H => te σ H D.rt
theorem ps_ret (he : PE X e te) : PS X (.Return (some e) pos) (tRet te) := by
 intro pins s σ H D I h
 exact wpAny_Return_some (thn (he pins s σ H _ I h) fun v s1 ⟨x, H1, I1, r1, q1⟩ => ⟨x, σ, H1, I1, r1, q1⟩)
def tIfS (c : TT) (t u : TS) : TS := fun D σ H => c σ H fun b H1 => if b = true then t D σ H1 else u D σ H1
theorem ps_if {c : Expr} {a b : List Stmt} {tc : TT} (hc : PT X c tc) (ha : PSs X a t) (hb : PSs X b u) : PS X (.If c a b pos) (tIfS tc t u) := by
 intro pins s σ H D I h
 refine wpAny_If (thn (hc pins s σ H _ I h) fun d s1 ⟨H1, I1, q1⟩ => ?_)
 cases d with
 | true => exact ha pins s1 σ H1 D I1 q1
 | false => exact hb pins s1 σ H1 D I1 q1
def tNever : TS := fun _ _ _ => False
theorem pss_never {sts : List Stmt} : PSs X sts tNever := fun _ _ _ _ _ _ h => h.elim
end
abbrev TG := V -> St -> Hp -> (St -> Hp -> Prop) -> Prop
abbrev TGs := List V -> St -> Hp -> (St -> Hp -> Prop) -> Prop
def PG (X : Cx) (target : Expr) (t : TG) : Prop :=
 ∀ (pins : List (Addr × Obj)) (s : Shared) (σ : St) (H : Hp) (v : V) (u : Value) (Q : St -> Hp -> Prop), Inv X pins σ H s -> RelV v u -> t v σ H Q →
  wpAny (model X.prog X.w) X.A (assign target X.env u) (fun _ s' => ∃ σ' H', Inv X pins σ' H' s' /\ Q σ' H') X.xe s
def PGs (X : Cx) (ts : List Expr) (t : TGs) : Prop :=
 ∀ (pins : List (Addr × Obj)) (s : Shared) (σ : St) (H : Hp) (vs : List V) (us : List Value) (Q : St -> Hp -> Prop), Inv X pins σ H s -> Vals vs us -> t vs σ H Q →
  wpAny (model X.prog X.w) X.A (assignInOrder ((assignEach ts X.env).map (·.2)) us) (fun _ s' => ∃ σ' H', Inv X pins σ' H' s' /\ Q σ' H') X.xe s
abbrev TSet := V -> V -> V -> Hp -> (Hp -> Prop) -> Prop
def PSet (X : Cx) (t : TSet) : Prop :=
 ∀ (pins : List (Addr × Obj)) (s : Shared) (σ : St) (H : Hp) (o i v : V) (ov iv u : Value) (Q : Hp -> Prop), Inv X pins σ H s -> RelV o ov -> RelV i iv -> RelV v u -> t o i v H Q →
  wpAny (model X.prog X.w) X.A (setItem ov iv u) (fun _ s' => ∃ H', Inv X pins σ H' s' /\ Q H') X.xe s
abbrev TIp := V -> V -> Hp -> VK -> Prop
def PIp (X : Cx) (op : Operator) (t : TIp) : Prop :=
 ∀ (pins : List (Addr × Obj)) (s : Shared) (σ : St) (H : Hp) (x y : V) (v u : Value) (Q : VK), Inv X pins σ H s -> RelV x v -> RelV y u -> t x y H Q →
  wpAny (model X.prog X.w) X.A (inplaceOp op v u) (EP X pins σ Q) X.xe s
section
variable {X : Cx} {pos : Pos}
def gName (i : Nat) : TG := fun v σ H Q => Q (σ.set i (some v)) H
theorem pg_name {i : Nat} {x : Str} (hN : X.N.Nodup) (hi : X.N[i]? = some x) (hx : Loc X.env.scope x) (hf : X.fn x = true \/ X.env.scope.names.lookup x = some .local := by first | exact .inl rfl | exact .inr rfl | assumption) : PG X (.Name x pos) (gName i) := by
 intro pins s σ H v u Q I r h
 exact wpAny_assign_Name (store_ok I hN hi hx r (fun s' I' => ⟨_, H, I', h⟩) hf)
def gNil : TGs := fun vs σ H Q => vs = [] /\ Q σ H
def gCons (t : TG) (u : TGs) : TGs := fun vs σ H Q => ∃ v r, vs = v :: r /\ t v σ H fun σ' H' => u r σ' H' Q
theorem pgs_nil : PGs X [] gNil := by
 intro pins s σ H vs us Q I r h
 obtain ⟨e, h⟩ := h
 subst e
 cases r
 exact assignInOrder_nil ⟨σ, H, I, h⟩
theorem pgs_cons {e : Expr} {es : List Expr} {t : TG} {u : TGs} (h1 : PG X e t) (h2 : PGs X es u)
  (hs : (assignEach (e :: es) X.env).map (·.2) = assign e X.env :: (assignEach es X.env).map (·.2) := by rfl) : PGs X (e :: es) (gCons t u) := by
 intro pins s σ H vs us Q I r h
 obtain ⟨v, vr, e1, h⟩ := h
 subst e1
 cases r with
 | cons r rr =>
  rw [hs]
  refine assignInOrder_cons (thn (h1 pins s σ H _ _ _ I r h) fun _ s1 ⟨σ1, H1, I1, q1⟩ => ?_)
  exact h2 pins s1 σ1 H1 _ _ Q I1 rr q1
def gTup (K : PySem.W.Frag) (n : Nat) (t : TGs) : TG := fun v σ H Q => ∃ a xs, v = .ref a /\ SqT K H a xs /\ xs.length = n /\ t xs σ H Q
theorem pg_tup {es : List Expr} {k : Nat} {t : TGs} {n : Nat} (hc : X.calm = true) (h : PGs X es t)
  (hn : (assignEach es X.env).length = n := by rfl) (hst : (assignEach es X.env).findIdx? (·.1) = none := by rfl) : PG X (.Tuple es k pos) (gTup X.K n t) := by
 intro pins s σ H v u Q I r hw
 obtain ⟨a, xs, e1, hq, hl, hw⟩ := hw
 subst e1
 cases r
 obtain ⟨its, rv, ht, hz⟩ := I.tuple hq
 refine assign_Tuple_tuple (I.ok.hd hc) ht (by simp [hn, <- hl, rv.length]) hst fun h' hx => ?_
 have I1 : Inv X pins σ H { s with heap := h' } := I.kept (t' := s.toks) fun b o e => hx b o (Nat.ne_of_lt (Heap.lt_size e)) e
 exact h pins _ σ H xs _ Q I1 (by simpa using rv) hw
def gSub (to ti : TE) (t : TSet) : TG := fun v σ H Q => to σ H fun o H1 => ti σ H1 fun i H2 => t o i v H2 fun H3 => Q σ H3
theorem pg_sub {o i : Expr} {to ti : TE} {t : TSet} (ho : PE X o to) (hi : PE X i ti) (hs : PSet X t)
    (ha : ∀ v, assign (.Subscript o i pos) X.env v = (do
      let ov ← holding [v] (eval o X.env)
      let iv ← holding [v, ov] (eval i X.env)
      standAt pos
      holding [v, ov, iv] (setItem ov iv v)
      release [v, ov, iv] []) := by intro _; rfl) : PG X (.Subscript o i pos) (gSub to ti t) := by
  intro pins s σ H v u Q I r h
  rw [ha]
  refine wpAny_bind (wpAny_holding (thn (ho pins s σ H _ I h) fun ov s1 ⟨x, H1, I1, r1, q1⟩ => ?_))
  refine wpAny_bind (wpAny_holding (thn (hi pins s1 σ H1 _ I1 q1) fun iv s2 ⟨y, H2, I2, r2, q2⟩ => ?_))
  refine wpAny_bind (wpAny_standAt (wpAny_bind (wpAny_holding (thn (hs pins s2 σ H2 x y v ov iv u _ I2 r1 r2 r q2) fun _ s3 ⟨H3, I3, q3⟩ => ?_))))
  exact wpAny_release ⟨σ, H3, I3, q3⟩
def tAsg (te : TE) (g : TG) : TS := fun D σ H => te σ H fun x H1 => g x σ H1 D.nx
theorem ps_asg {tg e : Expr} {te : TE} {g : TG} (he : PE X e te) (hg : PG X tg g) (hs : swapsWithSole [tg] e pos.line X.env = pure false := by rfl) (hw : swappedStores [tg] e X.env = pure none := by rfl)
  (h1 : (assignEach [tg] X.env).map (·.2) = [assign tg X.env] := by rfl) : PS X (.Assign [tg] e pos) (tAsg te g) := by
 intro pins s σ H D I h
 refine wpAny_Assign_stores (thn (he pins s σ H _ I h) fun v s1 ⟨x, H1, I1, r1, q1⟩ => ?_) hs hw
 rw [h1]
 exact thn (hg pins s1 σ H1 x v _ I1 r1 q1) fun _ s2 q => q
theorem ps_set {i : Nat} {x : Str} {e : Expr} {te : TE} {pos' : Pos} (hN : X.N.Nodup) (hi : X.N[i]? = some x) (hx : Loc X.env.scope x) (he : PE X e te) (hs : swapsWith e (some (.Name x pos')) pos.line X.env = pure false := by rfl) (hf : X.fn x = true \/ X.env.scope.names.lookup x = some .local := by first | exact .inl rfl | exact .inr rfl | assumption) :
  PS X (.Assign [.Name x pos'] e pos) (tAsg te (gName i)) := by
 intro pins s σ H D I h
 refine wpAny_Assign_Name (thn (he pins s σ H _ I h) fun v s1 ⟨y, H1, I1, r1, q1⟩ => ?_) hs
 exact store_ok I1 hN hi hx r1 (fun s2 I2 => ⟨_, H1, I2, q1⟩) hf
def tAug (i : Nat) (te : TE) (ti : TIp) : TS := fun D σ H => ∃ x, σ[i]? = some (some x) /\ te σ H fun y H1 => ti x y H1 fun z H2 => D.nx (σ.set i (some z)) H2
theorem ps_aug {i : Nat} {x : Str} {e : Expr} {te : TE} {op : Operator} {ti : TIp} {pos' : Pos} (hN : X.N.Nodup) (hi : X.N[i]? = some x) (hx : Loc X.env.scope x) (he : PE X e te) (ho : PIp X op ti) (hf : X.fn x = true \/ X.env.scope.names.lookup x = some .local := by first | exact .inl rfl | exact .inr rfl | assumption) :
  PS X (.AugAssign (.Name x pos') op e pos) (tAug i te ti) := by
 intro pins s σ H D I h
 obtain ⟨v, e1, h⟩ := h
 obtain ⟨m, hn, hl⟩ := I.loc
 have vis : Vis X.env.scope x := by rcases hx with k | k; exact .inl k; exact .inr (.inl k)
 obtain ⟨u, r, l⟩ := hl i x v hi e1 vis
 refine wpAny_AugAssign_Name ?_
 have go : wpAny (model X.prog X.w) X.A (eval e X.env) (fun w s₂ => wpAny (model X.prog X.w) X.A (inplaceOp op u w) (fun r s₃ => wpAny (model X.prog X.w) X.A (storeName X.env x r) (fun _ => SP X pins D .next) X.xe s₃) X.xe s₂) X.xe s := by
  refine thn (he pins s σ H _ I h) fun w s1 ⟨y, H1, I1, r1, q1⟩ => ?_
  refine thn (ho pins s1 σ H1 v y u w _ I1 r r1 q1) fun z s2 ⟨zv, H2, I2, r2, q2⟩ => ?_
  exact store_ok I2 hN hi hx r2 (fun s3 I3 => ⟨_, H2, I3, q2⟩) hf
 rcases l with ⟨hk, hm⟩ | ⟨hk, c, hc, hcell⟩
 ·exact wpAny_loadName_local I.ok.kind hk hn hm go
 ·rcases hk with hk | hk
  ·exact wpAny_loadName_cell I.ok.kind hk hc hcell go
  ·rcases hx with k | k
   ·have : X.env.scope.names.lookup x = some .free := hk
    rw [k] at this; cases this
   ·have : X.env.scope.names.lookup x = some .free := hk
    rw [k] at this; cases this
def ipI (f : Int -> Int -> Int) : TIp := fun x y H Q => ∃ i j, x = .int i /\ y = .int j /\ Q (.int (f i j)) H
theorem ip_add : PIp X .Add (ipI fun i j => i + j) := by
 intro pins s σ H x y v u Q I r1 r2 h
 obtain ⟨i, j, e1, e2, q⟩ := h
 subst e1; subst e2
 obtain ⟨t, rfl⟩ := r1
 obtain ⟨t', rfl⟩ := r2
 exact iadd_int ⟨.int _, H, I.tok _, ⟨_, rfl⟩, q⟩
end
section
variable {X : Cx} {pos : Pos}
def tWhile (c : TT) (tb : TS) : TS := fun D σ H => ∃ W : Nat -> St -> Hp -> Prop, (∃ m, W m σ H) /\ ∀ m σ H, W m σ H →
 c σ H fun b H1 => if b = true then ∃ N : St -> Hp -> Prop, (∀ σ' H', N σ' H' -> ∃ m', m' < m /\ W m' σ' H') /\ tb { D with nx := N, ct := N, bk := D.nx } σ H1 else D.nx σ H1
theorem ps_while {c : Expr} {body : List Stmt} {tc : TT} {tb : TS} (hp : PassesOwn (model X.prog X.w) X.A X.env X.xe) (hc : PT X c tc) (hb : PSs X body tb) : PS X (.While c body [] pos) (tWhile tc tb) := by
 intro pins s σ H D I h
 obtain ⟨W, ⟨m0, w0⟩, turn⟩ := h
 refine wpAny_While (codeAny_whileLoop (fun n s' => ∃ σ' H', Inv X pins σ' H' s' /\ W n σ' H') ?_ m0 ⟨σ, H, I, w0⟩)
 rintro n s1 ⟨σ1, H1, I1, w1⟩
 refine wpAny_passesOwn hp (thn (hc pins s1 σ1 H1 _ I1 (turn n σ1 H1 w1)) fun b s2 ⟨H2, I2, q2⟩ => ?_)
 cases b with
 | true =>
  obtain ⟨N, hN, q2⟩ := q2
  rw [if_pos rfl]
  refine wpAny_passesOwn hp (thn (hb pins s2 σ1 H2 _ I2 q2) fun f s3 q3 => ?_)
  cases f with
  | next =>
   obtain ⟨σ3, H3, I3, n3⟩ := q3
   obtain ⟨m', hm, w3⟩ := hN σ3 H3 n3
   exact ⟨m', hm, σ3, H3, I3, w3⟩
  | cont =>
   obtain ⟨σ3, H3, I3, n3⟩ := q3
   obtain ⟨m', hm, w3⟩ := hN σ3 H3 n3
   exact ⟨m', hm, σ3, H3, I3, w3⟩
  | brk => exact q3
  | ret v => exact q3
 | false =>
  rw [if_neg Bool.false_ne_true]
  exact wpAny_execs_nil ⟨σ1, H2, I2, q2⟩
end
structure It where
 go : Nat -> Hp -> Prop
 yld : Nat -> Hp -> V -> Hp -> Prop
 stop : Nat -> Hp -> Prop
def FpOk (X : Cx) (pins : List (Addr × Obj)) (H : Hp) (b : Addr) : Prop :=
 H b = none /\ b ≠ X.env.locals /\ b ∉ X.fs /\ (b ∈ X.ex \/ X.s₀.heap.objs.size <= b) /\ (∀ x c, X.env.cells.lookup x = some c -> c ≠ b) /\ ∀ p ∈ X.pn ++ pins, p.1 ≠ b
theorem Inv.fpOk {X : Cx} {pins : List (Addr × Obj)} {σ : St} {H H' : Hp} {s : Shared} {b : Addr} (I : Inv X pins σ H s) (hb : s.heap.objs.size <= b) (hn : H' b = none) : FpOk X pins H' b := by
 refine ⟨hn, Nat.ne_of_gt (Nat.lt_of_lt_of_le I.lt hb), I.nofs hb, .inr (Nat.le_trans I.sz hb), fun x c e z => ?_, fun p hp z => ?_⟩
 ·obtain ⟨v, q⟩ := I.cell x c e
  exact absurd (Nat.lt_of_lt_of_le q.lt (by rw [z]; exact hb)) (Nat.lt_irrefl _)
 ·exact absurd (Nat.lt_of_lt_of_le (Heap.lt_size (I.pin p hp).1) (by rw [z]; exact hb)) (Nat.lt_irrefl _)
structure Turn (P : Program) (w : World) (K : PySem.W.Frag) (tg : Expr) (J : It) (fp : List Addr) (it : Addr) (tn : Nat -> Heap -> Prop) : Prop where
 mem : it ∈ fp
 obj : ∀ i h, tn i h -> ∀ b ∈ fp, ∃ o, h.get? b = some o /\ ∀ v, o.data ≠ .cell v
 keep : ∀ i h h', tn i h -> (∀ b ∈ fp, ∀ o, h.get? b = some o -> h'.get? b = some o) -> tn i h'
 item : ∀ (X : Cx), X.prog = P -> X.w = w -> X.K = K -> X.calm = true -> ∀ (i : Nat) (pins : List (Addr × Obj)) (s : Shared) (σ : St) (H : Hp) (E : Value -> Shared -> Prop), Inv X pins σ H s -> (∀ b ∈ fp, FpOk X pins H b) -> tn i s.heap -> J.go i H →
  wpAny (model P w) X.A (pyNext (.ref it)) (fun r s1 => ∃ u, r = some u ∧
   wpAny (model P w) X.A (letOwnedTupleGo tg (.ref it) u) (fun _ s2 => ∃ x H', Inv X pins σ H' s2 /\ RelV x u /\ J.yld i H x H' /\ tn (i + 1) s2.heap /\ ∀ b ∈ fp, H' b = none) E s1) E s
 done : ∀ (X : Cx), X.prog = P -> X.w = w -> X.K = K -> X.calm = true -> ∀ (i : Nat) (pins : List (Addr × Obj)) (s : Shared) (σ : St) (H : Hp) (E : Value -> Shared -> Prop), Inv X pins σ H s -> (∀ b ∈ fp, FpOk X pins H b) -> tn i s.heap -> J.stop i H →
  wpAny (model P w) X.A (pyNext (.ref it)) (fun r s1 => r = none /\ Inv X pins σ H s1) E s
 self : ∀ (A : Around) (i : Nat) (s : Shared) (Q : Value -> Shared -> Prop) (E : Value -> Shared -> Prop), tn i s.heap -> Q (.ref it) s -> wpAny (model P w) A (pyIter (.ref it)) Q E s
abbrev TI := St -> Hp -> (It -> Hp -> Prop) -> Prop
def PIE (X : Cx) (pins : List (Addr × Obj)) (σ : St) (tg : Expr) (R : It -> Hp -> Prop) (itv : Value) (s2 : Shared) : Prop :=
 ∃ (it : Addr) (fp : List Addr) (tn : Nat -> Heap -> Prop) (J : It) (H' : Hp), itv = .ref it /\ Inv X pins σ H' s2 /\ Turn X.prog X.w X.K tg J fp it tn /\ tn 0 s2.heap /\ (∀ b ∈ fp, FpOk X pins H' b) /\ R J H'
def PI (X : Cx) (tg iter : Expr) (wi : TI) : Prop :=
 ∀ (pins : List (Addr × Obj)) (s : Shared) (σ : St) (H : Hp) (R : It -> Hp -> Prop), Inv X pins σ H s -> wi σ H R →
  wpAny (model X.prog X.w) X.A (eval iter X.env) (fun v s1 => wpAny (model X.prog X.w) X.A (pyIter v) (PIE X pins σ tg R) X.xe s1) X.xe s
theorem go_of {M : Model} {A : Around} {E : Value -> Shared -> Prop} {s : Shared} {tg : Expr} {it : Addr} {u : Value} {o : Obj} {n : String} {vs : Array Value} {Q : Unit -> Shared -> Prop} (ho : s.heap.get? it = some o) (hc : o.cls = .type n) (hd : o.data = .fields vs)
    (hn : ["enumerate", "zip", "dict_itemiterator", "dict_reverseitemiterator", "odict_iterator", "itertools.zip_longest", "itertools.pairwise"].contains n = false) (hQ : Q () s) : wpAny M A (letOwnedTupleGo tg (.ref it) u) Q E s := by
  unfold letOwnedTupleGo
  cases tg <;> first
    | exact wpAny_pure hQ
    | (cases u <;> first
        | exact wpAny_pure hQ
        | (refine wpAny_bind (wpAny_load ho ?_)
           rw [hc, hd]
           show wpAny M A (if (["enumerate", "zip", "dict_itemiterator", "dict_reverseitemiterator", "odict_iterator", "itertools.zip_longest", "itertools.pairwise"].contains n && vs[0]? == some (rawInt _)) = true then _ else _) Q E s
           rw [if_neg (by intro h; rw [hn, Bool.false_and] at h; cases h)]
           exact wpAny_pure hQ))
def Itl (K : PySem.W.Frag) (a : Addr) : It :=
 ⟨fun i H => ∃ xs x, SqL K H a xs /\ xs[i]? = some x, fun i H x H' => H' = H /\ ∀ xs, SqL K H a xs -> xs[i]? = some x, fun i H => ∃ xs, SqL K H a xs /\ xs.length <= i⟩
def Itt (K : PySem.W.Frag) (a : Addr) : It :=
 ⟨fun i H => ∃ xs x, SqT K H a xs /\ xs[i]? = some x, fun i H x H' => H' = H /\ ∀ xs, SqT K H a xs -> xs[i]? = some x, fun i H => ∃ xs, SqT K H a xs /\ xs.length <= i⟩
def Itr (lo : Int) (n : Nat) : It := ⟨fun i _ => i < n, fun i H x H' => H' = H /\ x = .int (lo + i), fun i _ => n <= i⟩
theorem turn_list {P : Program} {w : World} {K : PySem.W.Frag} {tg : Expr} (a it : Addr) : Turn P w K tg (Itl K a) [it] it (fun i h => h.IsListIter it a i) where
 mem := by simp
 obj := fun i h st b hb => by
  have e : b = it := by simpa using hb
  subst e
  obtain ⟨o, e, c, d⟩ := st
  exact ⟨o, e, fun v z => by rw [d] at z; cases z⟩
 keep := fun i h h' st k => st.at fun o e => k it (by simp) o e
 item := by
  intro X hP hw hK hc i pins s σ H E I hf st hg
  subst hP hw hK
  obtain ⟨xs, x, hq, hx⟩ := hg
  obtain ⟨its, rv, p, hz⟩ := I.list hq
  obtain ⟨u, hu, ru⟩ := rv.get hx
  obtain ⟨f0, f1, f2, f3, f4, f5⟩ := hf it (by simp)
  refine wpAny_pyNext_list_item st p.isList (x := u) (by simpa using hu) fun h' st' sb => ?_
  have I1 : Inv X pins σ H { s with heap := h' } := I.turned (t' := s.toks) (fun b o hb e => (sb.2 b hb).trans e) f0 f1 f3 f4 f5
  obtain ⟨o, e, c, d⟩ := id st'
  exact ⟨u, rfl, go_of (s := { s with heap := h' }) e c d (by decide) ⟨x, H, I1, ru, ⟨rfl, fun ys hy => by rw [I.list_inj hy hq]; exact hx⟩, st', fun b hb => (hf b hb).1⟩⟩
 done := by
  intro X hP hw hK hc i pins s σ H E I hf st hg
  subst hP hw hK
  obtain ⟨xs, hq, hx⟩ := hg
  obtain ⟨its, rv, p, hz⟩ := I.list hq
  obtain ⟨f0, f1, f2, f3, f4, f5⟩ := hf it (by simp)
  have hl := rv.length
  exact wpAny_pyNext_list_end (I.ok.hd hc) st p.isList (by simp; omega) fun h' eb => ⟨rfl, I.turned (t' := s.toks) (fun b o hb e => eb b o hb e) f0 f1 f3 f4 f5⟩
 self := fun _ _ _ _ _ st h => wpAny_pyIter_listiter st h
theorem turn_tuple {P : Program} {w : World} {K : PySem.W.Frag} {tg : Expr} (a it : Addr) : Turn P w K tg (Itt K a) [it] it (fun i h => h.IsTupleIter it a i) where
 mem := by simp
 obj := fun i h st b hb => by
  have e : b = it := by simpa using hb
  subst e
  obtain ⟨o, e, c, d⟩ := st
  exact ⟨o, e, fun v z => by rw [d] at z; cases z⟩
 keep := fun i h h' st k => st.at fun o e => k it (by simp) o e
 item := by
  intro X hP hw hK hc i pins s σ H E I hf st hg
  subst hP hw hK
  obtain ⟨xs, x, hq, hx⟩ := hg
  obtain ⟨its, rv, p, hz⟩ := I.tuple hq
  obtain ⟨u, hu, ru⟩ := rv.get hx
  obtain ⟨f0, f1, f2, f3, f4, f5⟩ := hf it (by simp)
  refine wpAny_pyNext_tuple_item st (show s.heap.IsTuple a its.toArray from p) (x := u) (by simpa using hu) fun h' st' sb => ?_
  have I1 : Inv X pins σ H { s with heap := h' } := I.turned (t' := s.toks) (fun b o hb e => (sb.2 b hb).trans e) f0 f1 f3 f4 f5
  obtain ⟨o, e, c, d⟩ := id st'
  exact ⟨u, rfl, go_of (s := { s with heap := h' }) e c d (by decide) ⟨x, H, I1, ru, ⟨rfl, fun ys hy => by rw [I.tuple_inj hy hq]; exact hx⟩, st', fun b hb => (hf b hb).1⟩⟩
 done := by
  intro X hP hw hK hc i pins s σ H E I hf st hg
  subst hP hw hK
  obtain ⟨xs, hq, hx⟩ := hg
  obtain ⟨its, rv, p, hz⟩ := I.tuple hq
  obtain ⟨f0, f1, f2, f3, f4, f5⟩ := hf it (by simp)
  have hl := rv.length
  exact wpAny_pyNext_tuple_end (I.ok.hd hc) st (show s.heap.IsTuple a its.toArray from p) (by simp; omega) fun h' eb => ⟨rfl, I.turned (t' := s.toks) (fun b o hb e => eb b o hb e) f0 f1 f3 f4 f5⟩
 self := fun _ _ _ _ _ st h => wpAny_pyIter_tupleiter st h
theorem turn_range {P : Program} {w : World} {K : PySem.W.Frag} {tg : Expr} (it : Addr) (lo : Int) (n : Nat) : Turn P w K tg (Itr lo n) [it] it (fun i h => IsRangeIter h it (lo + (i : Nat) * 1) ((n : Int) - (i : Nat)) 1) where
 mem := by simp
 obj := fun i h st b hb => by
  have e : b = it := by simpa using hb
  subst e
  exact ⟨_, st, fun v z => by
   have z' : Data.fields _ = Data.cell v := z
   cases z'⟩
 keep := fun i h h' st k => k it (by simp) _ st
 item := by
  intro X hP hw hK hc i pins s σ H E I hf st hg
  subst hP hw hK
  obtain ⟨f0, f1, f2, f3, f4, f5⟩ := hf it (by simp)
  have W := Walks.range (prog := X.prog) (w := X.w) (I.ok.hd hc) it lo 1 n
  refine W.item i s _ _ hg st fun v h' tk hv st' kk => ?_
  obtain ⟨t, rfl⟩ := hv
  have I1 : Inv X pins σ H { s with heap := h', toks := tk } := I.turned (fun b o hb e => kk b o (by simpa using hb) e) f0 f1 f3 f4 f5
  refine ⟨_, rfl, go_of (s := { s with heap := h', toks := tk }) (n := "range_iterator") st' rfl rfl (by decide) ⟨.int (lo + i), H, I1, ⟨t, ?_⟩, ⟨rfl, rfl⟩, st', fun b hb => (hf b hb).1⟩⟩
  rw [Int.mul_one]
 done := by
  intro X hP hw hK hc i pins s σ H E I hf st hg
  subst hP hw hK
  obtain ⟨f0, f1, f2, f3, f4, f5⟩ := hf it (by simp)
  exact wpAny_pyNext_range_end (I.ok.hd hc) st (by have : n <= i := hg; omega) fun h' eb => ⟨rfl, I.turned (t' := s.toks) (fun b o hb e => eb b o hb e) f0 f1 f3 f4 f5⟩
 self := fun _ _ _ _ _ st h => wpAny_pyIter_rangeiter st h
end L2
namespace L2
open PySem PySem.Spec PyProof.Rows
section
variable {X : Cx} {tg : Expr}
def iList (K : PySem.W.Frag) (tl : TE) : TI := fun σ H R => tl σ H fun x H1 => ∃ a, x = .ref a /\ (∃ xs, SqL K H1 a xs) /\ R (Itl K a) H1
def iTup (K : PySem.W.Frag) (tl : TE) : TI := fun σ H R => tl σ H fun x H1 => ∃ a, x = .ref a /\ (∃ xs, SqT K H1 a xs) /\ R (Itt K a) H1
theorem pi_list {l : Expr} {tl : TE} (hl : PE X l tl) : PI X tg l (iList X.K tl) := by
 intro pins s σ H R I h
 refine thn (hl pins s σ H _ I h) fun v s1 ⟨x, H1, I1, r1, q1⟩ => ?_
 obtain ⟨a, e, ⟨xs, hq⟩, q⟩ := q1
 subst e
 cases r1
 obtain ⟨its, rv, p, hz⟩ := I1.list hq
 refine wpAny_pyIter_list p.isList ?_
 refine ⟨s1.heap.objs.size, [s1.heap.objs.size], _, _, H1, rfl, I1.kept (t' := s1.toks) fun b o e => Heap.get?_push_of_some _ e, turn_list a _, ⟨_, Heap.get?_push_size _ rfl, rfl, rfl⟩, fun b hb => ?_, q⟩
 have e : b = s1.heap.objs.size := by simpa using hb
 subst e
 exact I1.fpOk (Nat.le_refl _) (I1.hok.fresh (Nat.le_refl _))
theorem pi_tup {l : Expr} {tl : TE} (hl : PE X l tl) : PI X tg l (iTup X.K tl) := by
 intro pins s σ H R I h
 refine thn (hl pins s σ H _ I h) fun v s1 ⟨x, H1, I1, r1, q1⟩ => ?_
 obtain ⟨a, e, ⟨xs, hq⟩, q⟩ := q1
 subst e
 cases r1
 obtain ⟨its, rv, p, hz⟩ := I1.tuple hq
 refine wpAny_pyIter_tuple (show s1.heap.IsTuple a its.toArray from p) ?_
 refine ⟨s1.heap.objs.size, [s1.heap.objs.size], _, _, H1, rfl, I1.kept (t' := s1.toks) fun b o e => Heap.get?_push_of_some _ e, turn_tuple a _, ⟨_, Heap.get?_push_size _ rfl, rfl, rfl⟩, fun b hb => ?_, q⟩
 have e : b = s1.heap.objs.size := by simpa using hb
 subst e
 exact I1.fpOk (Nat.le_refl _) (I1.hok.fresh (Nat.le_refl _))
theorem range_it {pins : List (Addr × Obj)} {σ : St} {H : Hp} {s : Shared} {R : It -> Hp -> Prop} {E : Value -> Shared -> Prop} {lo hi : Int} {t u v : Tok} {tk : Nat} (I : Inv X pins σ H s) (h1 : -(2 ^ 62) <= lo) (h2 : lo < 2 ^ 62) (h3 : -(2 ^ 62) <= hi) (h4 : hi < 2 ^ 62)
  (q : R (Itr lo (hi - lo).toNat) H) : wpAny (model X.prog X.w) X.A (pyIter (.ref s.heap.objs.size)) (PIE X pins σ tg R) E { s with heap := s.heap.push { cls := .type "range", data := .fields #[.int lo t, .int hi u, .int 1 v] }, toks := tk } := by
 refine wpAny_pyIter_range (IsRange.new ..) (small_one h1 h2 h3 h4) ?_
 have I1 : Inv X pins σ H { s with heap := s.heap.push { cls := .type "range", data := .fields #[.int lo t, .int hi u, .int 1 v] }, toks := tk } := I.kept fun b o e => Heap.get?_push_of_some _ e
 refine ⟨(s.heap.push { cls := .type "range", data := .fields #[.int lo t, .int hi u, .int 1 v] }).objs.size, [(s.heap.push { cls := .type "range", data := .fields #[.int lo t, .int hi u, .int 1 v] }).objs.size], _, _, H, rfl,
  I1.kept (t' := tk) fun b o e => Heap.get?_push_of_some _ e, turn_range _ lo (hi - lo).toNat, ?_, fun b hb => ?_, q⟩
 ·have e1 : lo + ((0 : Nat) : Int) * 1 = lo := by simp
  have e2 : (((hi - lo).toNat : Nat) : Int) - ((0 : Nat) : Int) = Builtin.Range.rangeSize lo hi 1 := by rw [rangeSize_one]; split <;> omega
  show IsRangeIter _ _ (lo + ((0 : Nat) : Int) * 1) ((((hi - lo).toNat : Nat) : Int) - ((0 : Nat) : Int)) 1
  rw [e1, e2]
  exact Heap.get?_push_size _ rfl
 ·have e : b = (s.heap.push { cls := .type "range", data := .fields #[.int lo t, .int hi u, .int 1 v] }).objs.size := by simpa using hb
  subst e
  exact I1.fpOk (Nat.le_refl _) (I1.hok.fresh (Nat.le_refl _))
def iRng1 (ta : TA) : TI := fun σ H R => ta σ H fun vs H1 => ∃ j : Int, vs = [.int j] /\ -(2 ^ 62) <= j /\ j < 2 ^ 62 /\ R (Itr 0 j.toNat) H1
theorem pi_range1 {a : Expr} {ta : TA} {p pos : Pos} (hg : Gl X "range") (hm : X.mg "range" = none) (ha : PA X [a] ta) (hs : starEach [a] X.env = [(false, eval a X.env)] := by rfl) : PI X tg (.Call (.Name "range" p) [a] [] pos) (iRng1 ta) := by
 intro pins s σ H R I h
 refine Call_ (ld_blt I hg hm boot_range (PyProof.Rows.callWith_type1 (thn (ha pos pins s σ H _ I h) fun us s1 ⟨vs, H1, I1, r1, q1⟩ => ?_) hs rfl))
 obtain ⟨j, e, q1, q2, q⟩ := q1
 subst e
 cases r1 with
 | cons r rr =>
  cases rr
  obtain ⟨t, rfl⟩ := r
  exact call_range_1 (range_it I1 (by omega) (by omega) q1 q2 (by simpa using q))
def tFor (wi : TI) (g : TG) (tb : TS) : TS := fun D σ H => wi σ H fun J H1 => ∃ W : Nat -> Nat -> St -> Hp -> Prop, (∃ m, W 0 m σ H1) /\ ∀ i m σ H, W i m σ H →
 (J.stop i H /\ D.nx σ H) \/ (J.go i H /\ ∃ N : St -> Hp -> Prop, (∀ σ' H', N σ' H' -> ∃ m', m' < m /\ W (i + 1) m' σ' H') /\ ∀ x H', J.yld i H x H' -> g x σ H' fun σ2 H2 => tb { D with nx := N, ct := N, bk := D.nx } σ2 H2)
def pinsAt (fp : List Addr) (h : Heap) : List (Addr × Obj) := fp.filterMap fun b => (h.get? b).map fun o => (b, o)
theorem mem_pinsAt {fp : List Addr} {h : Heap} {b : Addr} {o : Obj} (hb : b ∈ fp) (e : h.get? b = some o) : (b, o) ∈ pinsAt fp h := List.mem_filterMap.mpr ⟨b, hb, by rw [e]; rfl⟩
theorem of_pinsAt {fp : List Addr} {h : Heap} {p : Addr × Obj} (hp : p ∈ pinsAt fp h) : p.1 ∈ fp /\ h.get? p.1 = some p.2 := by
 obtain ⟨b, hb, e⟩ := List.mem_filterMap.mp hp
 cases q : h.get? b with
 | none => rw [q] at e; cases e
 | some o =>
  rw [q] at e
  have e' : (b, o) = p := Option.some.inj e
  subst e'
  exact ⟨hb, q⟩
theorem Inv.pinned {pins : List (Addr × Obj)} {σ : St} {H : Hp} {s : Shared} {fp : List Addr} (I : Inv X pins σ H s) (hf : ∀ b ∈ fp, FpOk X pins H b) (ho : ∀ b ∈ fp, ∃ o, s.heap.get? b = some o /\ ∀ v, o.data ≠ .cell v) : Inv X (pins ++ pinsAt fp s.heap) σ H s :=
 I.pins_of fun p hp => (List.mem_append.mp hp).elim (fun z => I.pin p (List.mem_append_right _ z)) fun z => by
  obtain ⟨hb, e⟩ := of_pinsAt z
  obtain ⟨f0, f1, f2, _⟩ := hf p.1 hb
  obtain ⟨o, e', d⟩ := ho p.1 hb
  rw [e] at e'; cases e'
  exact ⟨e, f0, f1, f2, d⟩
theorem Inv.unpinned {pins pl : List (Addr × Obj)} {σ : St} {H : Hp} {s : Shared} (I : Inv X (pins ++ pl) σ H s) : Inv X pins σ H s := I.pins_of fun p hp => I.pin p (List.mem_append_right _ (List.mem_append_left _ hp))
theorem ps_for {iter : Expr} {body : List Stmt} {wi : TI} {g : TG} {tb : TS} {pos : Pos} (hp : PassesOwn (model X.prog X.w) X.A X.env X.xe) (hc : X.calm = true) (hi : PI X tg iter wi) (hg : PG X tg g) (hb : PSs X body tb)
  (hs : ∀ x, foldedSetIterable iter X.env x = pure x := by intro _; rfl) : PS X (.For tg iter body [] pos) (tFor wi g tb) := by
 intro pins s σ H D I h
 refine wpAny_For (thn (hi pins s σ H _ I h) fun v s1 h1 => thn h1 fun itv s2 h2 => ?_) hs
 obtain ⟨it, fp, tn, J, H2, e, I2, T, st2, f2, W, ⟨m0, w0⟩, turn⟩ := h2
 subst e
 have stat : ∀ {H' : Hp}, (∀ b ∈ fp, H' b = none) -> ∀ b ∈ fp, FpOk X pins H' b := fun hn b hb => ⟨hn b hb, (f2 b hb).2⟩
 refine codeAny_forLoop_any (fun n s' => ∃ i σ' H', Inv X pins σ' H' s' /\ tn i s'.heap /\ (∀ b ∈ fp, H' b = none) /\ W i n σ' H') ?_ m0 ⟨0, σ, H2, I2, st2, fun b hb => (f2 b hb).1, w0⟩
 rintro n s3 ⟨i, σ3, H3, I3, st3, fr3, w3⟩
 rcases turn i n σ3 H3 w3 with ⟨stop, qn⟩ | ⟨go, N, hN, step⟩
 ·refine wpAny_passesOwn hp (thn (T.done X rfl rfl rfl hc i pins s3 σ3 H3 X.xe I3 (stat fr3) st3 stop) fun r s4 ⟨hr, I4⟩ => ?_)
  subst hr
  exact wpAny_execs_nil ⟨σ3, H3, I4, qn⟩
 ·refine wpAny_passesOwn hp (thn (T.item X rfl rfl rfl hc i pins s3 σ3 H3 X.xe I3 (stat fr3) st3 go) fun r s4 ⟨u, hr, h4⟩ => ?_)
  subst hr
  refine wpAny_passesOwn hp (thn h4 fun _ s5 ⟨x, H5, I5, r5, y5, st5, fr5⟩ => ?_)
  have I5' := I5.pinned (stat fr5) (T.obj _ _ st5)
  refine wpAny_passesOwn hp (thn (hg _ s5 σ3 H5 x u _ I5' r5 (step x H5 y5)) fun _ s6 ⟨σ6, H6, I6, q6⟩ => ?_)
  refine wpAny_passesOwn hp (thn (hb _ s6 σ6 H6 _ I6 q6) fun f s7 q7 => ?_)
  have again : ∀ {σ7 : St} {H7 : Hp}, Inv X (pins ++ pinsAt fp s5.heap) σ7 H7 s7 -> N σ7 H7 -> ∃ m, m < n /\ ∃ i σ' H', Inv X pins σ' H' s7 /\ tn i s7.heap /\ (∀ b ∈ fp, H' b = none) /\ W i m σ' H' := fun {σ7 H7} I7 n7 => by
   obtain ⟨m', hm, w7⟩ := hN σ7 H7 n7
   refine ⟨m', hm, i + 1, σ7, H7, I7.unpinned, T.keep _ _ _ st5 fun b hb o e => (I7.pin (b, o) (List.mem_append_right _ (List.mem_append_right _ (mem_pinsAt hb e)))).1, fun b hb => ?_, w7⟩
   obtain ⟨o, e, d⟩ := T.obj _ _ st5 b hb
   exact (I7.pin (b, o) (List.mem_append_right _ (List.mem_append_right _ (mem_pinsAt hb e)))).2.1
  cases f with
  | next => obtain ⟨σ7, H7, I7, n7⟩ := q7; exact again I7 n7
  | cont => obtain ⟨σ7, H7, I7, n7⟩ := q7; exact again I7 n7
  | brk => obtain ⟨σ7, H7, I7, q7⟩ := q7; exact ⟨σ7, H7, I7.unpinned, q7⟩
  | ret v => obtain ⟨x7, σ7, H7, I7, r7, q7⟩ := q7; exact ⟨x7, σ7, H7, I7.unpinned, r7, q7⟩
end
theorem for_list {K : PySem.W.Frag} {a : Addr} {xs : List V} {g : TG} {tb : TS} {D : Ends} {σ : St} {H : Hp} (Pv : Nat -> St -> Hp -> Prop) (h0 : Pv 0 σ H) (hl : ∀ i σ H, i <= xs.length -> Pv i σ H -> SqL K H a xs)
  (hs : ∀ i x σ H, xs[i]? = some x -> Pv i σ H -> g x σ H fun σ2 H2 => tb { D with nx := Pv (i + 1), ct := Pv (i + 1), bk := D.nx } σ2 H2) (hd : ∀ σ H, Pv xs.length σ H -> D.nx σ H) :
  ∃ W : Nat -> Nat -> St -> Hp -> Prop, (∃ m, W 0 m σ H) /\ ∀ i m σ H, W i m σ H →
   ((Itl K a).stop i H /\ D.nx σ H) \/ ((Itl K a).go i H /\ ∃ N : St -> Hp -> Prop, (∀ σ' H', N σ' H' -> ∃ m', m' < m /\ W (i + 1) m' σ' H') /\ ∀ x H', (Itl K a).yld i H x H' -> g x σ H' fun σ2 H2 => tb { D with nx := N, ct := N, bk := D.nx } σ2 H2) := by
 refine ⟨fun i m σ H => m = xs.length - i /\ i <= xs.length /\ Pv i σ H, ⟨xs.length, by simp, Nat.zero_le _, h0⟩, ?_⟩
 rintro i m σ H ⟨rfl, hi, p⟩
 have q := hl i σ H hi p
 by_cases hlt : i < xs.length
 ·refine .inr ⟨⟨xs, xs[i], q, by simp [hlt]⟩, Pv (i + 1), fun σ' H' p' => ⟨xs.length - (i + 1), by omega, rfl, hlt, p'⟩, fun x H' y => ?_⟩
  obtain ⟨e, y⟩ := y
  subst e
  exact hs i x σ _ (y xs q) p
 ·have e : i = xs.length := by omega
  subst e
  exact .inl ⟨⟨xs, q, Nat.le_refl _⟩, hd σ H p⟩
theorem for_range {lo : Int} {n : Nat} {g : TG} {tb : TS} {D : Ends} {σ : St} {H : Hp} (Pv : Nat -> St -> Hp -> Prop) (h0 : Pv 0 σ H)
  (hs : ∀ i σ H, i < n -> Pv i σ H -> g (.int (lo + i)) σ H fun σ2 H2 => tb { D with nx := Pv (i + 1), ct := Pv (i + 1), bk := D.nx } σ2 H2) (hd : ∀ σ H, Pv n σ H -> D.nx σ H) :
  ∃ W : Nat -> Nat -> St -> Hp -> Prop, (∃ m, W 0 m σ H) /\ ∀ i m σ H, W i m σ H →
   ((Itr lo n).stop i H /\ D.nx σ H) \/ ((Itr lo n).go i H /\ ∃ N : St -> Hp -> Prop, (∀ σ' H', N σ' H' -> ∃ m', m' < m /\ W (i + 1) m' σ' H') /\ ∀ x H', (Itr lo n).yld i H x H' -> g x σ H' fun σ2 H2 => tb { D with nx := N, ct := N, bk := D.nx } σ2 H2) := by
 refine ⟨fun i m σ H => m = n - i /\ i <= n /\ Pv i σ H, ⟨n, by simp, Nat.zero_le _, h0⟩, ?_⟩
 rintro i m σ H ⟨rfl, hi, p⟩
 by_cases hlt : i < n
 ·refine .inr ⟨hlt, Pv (i + 1), fun σ' H' p' => ⟨n - (i + 1), by omega, rfl, hlt, p'⟩, fun x H' y => ?_⟩
  obtain ⟨e, y⟩ := y
  subst e y
  exact hs i σ _ hlt p
 ·have e : i = n := by omega
  subst e
  exact .inl ⟨Nat.le_refl _, hd σ H p⟩
theorem while_by {c : TT} {tb : TS} {D : Ends} {σ : St} {H : Hp} (Pv : St -> Hp -> Prop) (μ : St -> Hp -> Nat) (h0 : Pv σ H)
  (hs : ∀ σ H, Pv σ H -> c σ H fun b H1 => if b = true then tb { D with nx := fun σ' H' => Pv σ' H' /\ μ σ' H' < μ σ H, ct := fun σ' H' => Pv σ' H' /\ μ σ' H' < μ σ H, bk := D.nx } σ H1 else D.nx σ H1)
  (mono : ∀ σ H Q Q', (∀ b H1, Q b H1 -> Q' b H1) -> c σ H Q -> c σ H Q') : tWhile c tb D σ H := by
 refine ⟨fun m σ H => m = μ σ H /\ Pv σ H, ⟨_, rfl, h0⟩, ?_⟩
 rintro m σ H ⟨rfl, p⟩
 refine mono σ H _ _ (fun b H1 q => ?_) (hs σ H p)
 cases b with
 | true => exact ⟨_, fun σ' H' ⟨p', l⟩ => ⟨_, l, rfl, p'⟩, q⟩
 | false => exact q
end L2
namespace L2
open PySem PySem.Spec PyProof.Rows
abbrev R2 := V -> V -> Hp -> VK -> Prop
def OpR (X : Cx) (f : Value -> Value -> Sem Value) (r : R2) : Prop :=
 ∀ (pins : List (Addr × Obj)) (s : Shared) (σ : St) (H : Hp) (x y : V) (v u : Value) (Q : VK), Inv X pins σ H s -> RelV x v -> RelV y u -> r x y H Q →
  wpAny (model X.prog X.w) X.A (f v u) (EP X pins σ Q) X.xe s
def CallR (X : Cx) (f : Value) (r : List V -> Hp -> VK -> Prop) : Prop :=
 ∀ (pins : List (Addr × Obj)) (s : Shared) (σ : St) (H : Hp) (xs : List V) (us : List Value) (Q : VK), Inv X pins σ H s -> Vals xs us -> r xs H Q →
  wpAny (model X.prog X.w) X.A (call f us) (EP X pins σ Q) X.xe s
def tOp (r : R2) (ta tb : TE) : TE := fun σ H Q => ta σ H fun x H1 => tb σ H1 fun y H2 => r x y H2 Q
def rI (C : Int -> Int -> Prop) (g : Int -> Int -> V) : R2 := fun x y H Q => ∃ i j, x = .int i /\ y = .int j /\ C i j /\ Q (g i j) H
def rI0 (g : Int -> Int -> V) : R2 := fun x y H Q => ∃ i j, x = .int i /\ y = .int j /\ Q (g i j) H
section
variable {X : Cx} {a b c : Expr} {ta tb tc : TE} {pos : Pos}
theorem binT (ha : PE X a ta) (hb : PE X b tb) {pins : List (Addr × Obj)} {s : Shared} {σ : St} {H : Hp} {R : V -> V -> Hp -> Prop} (I : Inv X pins σ H s)
  (h : ta σ H fun x H1 => tb σ H1 fun y H2 => R x y H2) {Q : Value -> Shared -> Prop} {f : Value -> Value -> Sem Value}
  (hf : ∀ v u s2 x y H2, Inv X pins σ H2 s2 -> RelV x v -> RelV y u -> R x y H2 -> wpAny (model X.prog X.w) X.A (f v u) Q X.xe s2) :
  wpAny (model X.prog X.w) X.A (eval a X.env) (fun v s₁ => wpAny (model X.prog X.w) X.A (eval b X.env) (fun u s₂ => wpAny (model X.prog X.w) X.A (f v u) Q X.xe s₂) X.xe s₁) X.xe s := by
 refine thn (ha pins s σ H _ I h) fun v s1 ⟨x, H1, I1, r1, q1⟩ => ?_
 refine thn (hb pins s1 σ H1 _ I1 q1) fun u s2 ⟨y, H2, I2, r2, q2⟩ => ?_
 exact hf v u s2 x y H2 I2 r1 r2 q2
theorem pe_op {op : Operator} {r : R2} (ho : OpR X (binaryOp op) r) (ha : PE X a ta) (hb : PE X b tb) : PE X (.BinOp a op b pos) (tOp r ta tb) := by
 intro pins s σ H Q I h
 exact wpAny_BinOp (binT ha hb I h fun v u s2 x y H2 I2 rx ry q => ho pins s2 σ H2 x y v u Q I2 rx ry q)
theorem opI {f : Value -> Value -> Sem Value} {C : Int -> Int -> Prop} {g : Int -> Int -> Int}
  (rule : ∀ (i j : Int) (t u : Tok) (s : Shared) (Q : Value -> Shared -> Prop) (E : Value -> Shared -> Prop), C i j -> Q (.int (g i j) s.toks) { s with toks := s.toks + 1 } -> wpAny (model X.prog X.w) X.A (f (.int i t) (.int j u)) Q E s) :
  OpR X f (rI C fun i j => .int (g i j)) := by
 intro pins s σ H x y v u Q I rx ry h
 obtain ⟨i, j, rfl, rfl, hc, q⟩ := h
 obtain ⟨t, rfl⟩ := rx
 obtain ⟨t', rfl⟩ := ry
 exact rule i j t t' s _ _ hc ⟨.int (g i j), H, I.tok _, ⟨_, rfl⟩, q⟩
theorem opI0 {f : Value -> Value -> Sem Value} {g : Int -> Int -> Int}
  (rule : ∀ (i j : Int) (t u : Tok) (s : Shared) (Q : Value -> Shared -> Prop) (E : Value -> Shared -> Prop), Q (.int (g i j) s.toks) { s with toks := s.toks + 1 } -> wpAny (model X.prog X.w) X.A (f (.int i t) (.int j u)) Q E s) :
  OpR X f (rI0 fun i j => .int (g i j)) := by
 intro pins s σ H x y v u Q I rx ry h
 obtain ⟨i, j, rfl, rfl, q⟩ := h
 obtain ⟨t, rfl⟩ := rx
 obtain ⟨t', rfl⟩ := ry
 exact rule i j t t' s _ _ ⟨.int (g i j), H, I.tok _, ⟨_, rfl⟩, q⟩
theorem opB0 {f : Value -> Value -> Sem Value} {g : Int -> Int -> Bool}
  (rule : ∀ (i j : Int) (t u : Tok) (s : Shared) (Q : Value -> Shared -> Prop) (E : Value -> Shared -> Prop), Q (.bool (g i j)) s -> wpAny (model X.prog X.w) X.A (f (.int i t) (.int j u)) Q E s) :
  OpR X f (rI0 fun i j => .bl (g i j)) := by
 intro pins s σ H x y v u Q I rx ry h
 obtain ⟨i, j, rfl, rfl, q⟩ := h
 obtain ⟨t, rfl⟩ := rx
 obtain ⟨t', rfl⟩ := ry
 exact rule i j t t' s _ _ ⟨.bl (g i j), H, I, rfl, q⟩
def CDiv (i j : Int) : Prop := 0 < j /\ j < 1073741824
def CPow (i j : Int) : Prop := 0 <= j /\ j <= 1000000 /\ i.natAbs < 2 ^ 64
def CMul (i j : Int) : Prop := (-(2 ^ 64) < i /\ i < 2 ^ 64) \/ (-(2 ^ 64) < j /\ j < 2 ^ 64)
theorem CMul.ok {i j : Int} (h : CMul i j) : IntMulOk i j := by
 rcases h with ⟨h1, h2⟩ | ⟨h1, h2⟩
 ·exact .of_left (intBits_le_64 h1 h2)
 ·exact .of_right (intBits_le_64 h1 h2)
theorem op_add : OpR X (binaryOp .Add) (rI0 fun i j => .int (i + j)) := opI0 fun _ _ _ _ _ _ _ q => add_int q
theorem op_sub : OpR X (binaryOp .Sub) (rI0 fun i j => .int (i - j)) := opI0 fun _ _ _ _ _ _ _ q => sub_int q
theorem op_mul : OpR X (binaryOp .Mult) (rI CMul fun i j => .int (i * j)) := opI fun _ _ _ _ _ _ _ hc q => mul_int q hc.ok
theorem op_fdiv : OpR X (binaryOp .FloorDiv) (rI CDiv fun i j => .int (i / j)) := opI fun i j _ _ _ _ _ hc q => by
 have h1 : (0 : Int) < j := hc.1
 have h2 : j < 1073741824 := hc.2
 exact floordiv_int (by omega) (by rw [Int.fdiv_eq_ediv_of_nonneg i (by omega)]; exact q) (.inl (PyProof.noPylong_small (by omega)))
theorem op_mod : OpR X (binaryOp .Mod) (rI (fun _ j => 0 < j) fun i j => .int (i % j)) := opI fun i j _ _ _ _ _ hc q => by
 have h1 : (0 : Int) < j := hc
 exact mod_int' (by omega) (by rw [Int.fmod_eq_emod_of_nonneg i (by omega)]; exact q)
theorem op_pow : OpR X (binaryOp .Pow) (rI CPow fun i j => .int (i ^ j.toNat)) := opI fun _ _ _ _ _ _ _ hc q => pow_int_small hc.1 hc.2.1 hc.2.2 q
end
def scal : V -> V -> Bool
 | .non, .non => true | .non, .int _ => true | .int _, .non => true | .non, .bl _ => true | .bl _, .non => true | .non, .str _ => true | .str _, .non => true
 | .int _, .int _ => true | .bl _, .bl _ => true | .str _, .str _ => true | .byt _, .byt _ => true
 | .int _, .str _ => true | .str _, .int _ => true | .bl _, .str _ => true | .str _, .bl _ => true
 | _, _ => false
def rEq : R2 := fun x y H Q => scal x y = true /\ Q (.bl (decide (x = y))) H
def rNe : R2 := fun x y H Q => scal x y = true /\ Q (.bl (!decide (x = y))) H
theorem dec_int {i j : Int} : decide (V.int i = V.int j) = (i == j) := by
 rw [Bool.eq_iff_iff]
 simp
theorem dec_bl {i j : Bool} : decide (V.bl i = V.bl j) = (i == j) := by
 rw [Bool.eq_iff_iff]
 simp
theorem dec_str {i j : Str} : decide (V.str i = V.str j) = (i == j) := by
 rw [Bool.eq_iff_iff]
 simp
theorem dec_byt {i j : Array UInt8} : decide (V.byt i = V.byt j) = (i.toList == j.toList) := by
 rw [Bool.eq_iff_iff]
 cases i
 cases j
 simp
section
variable {X : Cx} {a b c : Expr} {ta tb tc : TE} {pos : Pos}
theorem fin_bl {pins : List (Addr × Obj)} {σ : St} {H : Hp} {s : Shared} {Q : VK} {k k' : Bool} (I : Inv X pins σ H s) (q : Q (.bl k) H) (e : k = k') : EP X pins σ Q (.bool k') s := by
 subst e
 exact ⟨.bl k, H, I, rfl, q⟩
theorem op_eq : OpR X (compareOp .Eq) rEq := by
 intro pins s σ H x y v u Q I rx ry h
 obtain ⟨hs, q⟩ := h
 cases x with
 | non =>
  cases rx
  cases y with
  | non => cases ry; exact PySem.EqNone.eq_none_none (fin_bl I q (by simp))
  | bl j => cases ry; exact PySem.EqNone.eq_none_bool (fin_bl I q (by simp))
  | int j => obtain ⟨t', rfl⟩ := ry; exact PySem.EqNone.eq_none_int (fin_bl I q (by simp))
  | str j => obtain ⟨t', rfl⟩ := ry; exact PySem.EqNone.eq_none_str (fin_bl I q (by simp))
  | _ => exact absurd (show false = true from hs) Bool.false_ne_true
 | bl i =>
  cases rx
  cases y with
  | non => cases ry; exact PySem.EqNone.eq_bool_none (fin_bl I q (by simp))
  | bl j => cases ry; exact eq_bool (fin_bl I q dec_bl)
  | str j => obtain ⟨t', rfl⟩ := ry; exact PySem.EqMixed.eq_bool_str (fin_bl I q (by simp))
  | _ => exact absurd (show false = true from hs) Bool.false_ne_true
 | int i =>
  obtain ⟨t, rfl⟩ := rx
  cases y with
  | non => cases ry; exact PySem.EqNone.eq_int_none (fin_bl I q (by simp))
  | int j => obtain ⟨t', rfl⟩ := ry; exact eq_int (fin_bl I q dec_int)
  | str j => obtain ⟨t', rfl⟩ := ry; exact PySem.EqMixed.eq_int_str (fin_bl I q (by simp))
  | _ => exact absurd (show false = true from hs) Bool.false_ne_true
 | str i =>
  obtain ⟨t, rfl⟩ := rx
  cases y with
  | non => cases ry; exact PySem.EqNone.eq_str_none (fin_bl I q (by simp))
  | bl j => cases ry; exact PySem.EqMixed.eq_str_bool (fin_bl I q (by simp))
  | int j => obtain ⟨t', rfl⟩ := ry; exact PySem.EqMixed.eq_str_int (fin_bl I q (by simp))
  | str j => obtain ⟨t', rfl⟩ := ry; exact eq_str (fin_bl I q dec_str)
  | _ => exact absurd (show false = true from hs) Bool.false_ne_true
 | byt i =>
  obtain ⟨t, rfl⟩ := rx
  cases y with
  | byt j => obtain ⟨t', rfl⟩ := ry; exact PySem.W.eq_bytes (fin_bl I q dec_byt)
  | _ => exact absurd (show false = true from hs) Bool.false_ne_true
 | _ => cases y <;> exact absurd (show false = true from hs) Bool.false_ne_true
theorem op_ne : OpR X (compareOp .NotEq) rNe := by
 intro pins s σ H x y v u Q I rx ry h
 obtain ⟨hs, q⟩ := h
 cases x with
 | non =>
  cases rx
  cases y with
  | non => cases ry; exact PySem.EqNone.ne_none_none (fin_bl I q (by simp))
  | bl j => cases ry; exact PySem.EqNone.ne_none_bool (fin_bl I q (by simp))
  | int j => obtain ⟨t', rfl⟩ := ry; exact PySem.EqNone.ne_none_int (fin_bl I q (by simp))
  | str j => obtain ⟨t', rfl⟩ := ry; exact PySem.EqNone.ne_none_str (fin_bl I q (by simp))
  | _ => exact absurd (show false = true from hs) Bool.false_ne_true
 | bl i =>
  cases rx
  cases y with
  | non => cases ry; exact PySem.EqNone.ne_bool_none (fin_bl I q (by simp))
  | bl j => cases ry; exact ne_bool (fin_bl I q (congrArg not dec_bl))
  | str j => obtain ⟨t', rfl⟩ := ry; exact PySem.EqMixed.ne_bool_str (fin_bl I q (by simp))
  | _ => exact absurd (show false = true from hs) Bool.false_ne_true
 | int i =>
  obtain ⟨t, rfl⟩ := rx
  cases y with
  | non => cases ry; exact PySem.EqNone.ne_int_none (fin_bl I q (by simp))
  | int j => obtain ⟨t', rfl⟩ := ry; exact ne_int (fin_bl I q (congrArg not dec_int))
  | str j => obtain ⟨t', rfl⟩ := ry; exact PySem.EqMixed.ne_int_str (fin_bl I q (by simp))
  | _ => exact absurd (show false = true from hs) Bool.false_ne_true
 | str i =>
  obtain ⟨t, rfl⟩ := rx
  cases y with
  | non => cases ry; exact PySem.EqNone.ne_str_none (fin_bl I q (by simp))
  | bl j => cases ry; exact PySem.EqMixed.ne_str_bool (fin_bl I q (by simp))
  | int j => obtain ⟨t', rfl⟩ := ry; exact PySem.EqMixed.ne_str_int (fin_bl I q (by simp))
  | str j => obtain ⟨t', rfl⟩ := ry; exact ne_str (fin_bl I q (congrArg not dec_str))
  | _ => exact absurd (show false = true from hs) Bool.false_ne_true
 | byt i =>
  obtain ⟨t, rfl⟩ := rx
  cases y with
  | byt j => obtain ⟨t', rfl⟩ := ry; exact PySem.W.ne_bytes (fin_bl I q (congrArg not dec_byt))
  | _ => exact absurd (show false = true from hs) Bool.false_ne_true
 | _ => cases y <;> exact absurd (show false = true from hs) Bool.false_ne_true
theorem op_lt : OpR X (compareOp .Lt) (rI0 fun i j => .bl (decide (i < j))) := opB0 fun _ _ _ _ _ _ _ q => lt_int q
theorem op_gt : OpR X (compareOp .Gt) (rI0 fun i j => .bl (decide (j < i))) := opB0 fun _ _ _ _ _ _ _ q => gt_int q
theorem op_ge : OpR X (compareOp .GtE) (rI0 fun i j => .bl (decide (j <= i))) := opB0 fun _ _ _ _ _ _ _ q => ge_int q
theorem op_in_str : OpR X (compareOp .In) (fun x y H Q => ∃ i j, x = .str i /\ y = .str j /\ Q (.bl (!(Builtin.Str.occurrences j i 0 j.length 1).isEmpty)) H) := by
 intro pins s σ H x y v u Q I rx ry h
 obtain ⟨i, j, rfl, rfl, q⟩ := h
 obtain ⟨t, rfl⟩ := rx
 obtain ⟨t', rfl⟩ := ry
 exact in_str (fin_bl I q rfl)
theorem op_isN : OpR X (compareOp .Is) (fun x y H Q => y = .non /\ Q (.bl (decide (x = .non))) H) := by
 intro pins s σ H x y v u Q I rx ry h
 obtain ⟨rfl, q⟩ := h
 cases ry
 refine is_none_gen (fin_bl I q ?_)
 cases x <;> first
  | (cases rx; rfl)
  | (obtain ⟨t, rfl⟩ := rx; rfl)
theorem nomark (b : Expr) {op : CmpOp} (h : op ≠ .In := by decide) (h2 : op ≠ .NotIn := by decide) : behindInMarks op b = false := by
 have e1 : (op == CmpOp.In) = false := by cases op <;> first | rfl | exact absurd rfl h
 have e2 : (op == CmpOp.NotIn) = false := by cases op <;> first | rfl | exact absurd rfl h2
 cases b <;> simp [behindInMarks, e1, e2]
theorem pe_cmpR {op : CmpOp} {r : R2} (ho : OpR X (compareOp op) r) (ha : PE X a ta) (hb : PE X b tb) (hm : behindInMarks op b = false) : PE X (.Compare a [op] [b] pos) (tOp r ta tb) := by
 intro pins s σ H Q I h
 exact wpAny_Compare1 (binT ha hb I h fun v u s2 x y H2 I2 rx ry q => ho pins s2 σ H2 x y v u Q I2 rx ry q) hm
def tTest (t : TE) : TT := fun σ H Q => t σ H fun x H' => ∃ k, x = .bl k /\ Q k H'
theorem pt_cmpR {op : CmpOp} {r : R2} (ho : OpR X (compareOp op) r) (ha : PE X a ta) (hb : PE X b tb) (hm : behindInMarks op b = false) : PT X (.Compare a [op] [b] pos) (tTest (tOp r ta tb)) := by
 intro pins s σ H Q I h
 refine wpAny_isTrue_Compare1 (thn (ha pins s σ H _ I h) fun v s1 ⟨x, H1, I1, r1, q1⟩ => thn (hb pins s1 σ H1 _ I1 q1) fun u s2 ⟨y, H2, I2, r2, q2⟩ =>
  thn (ho pins s2 σ H2 x y v u _ I2 r1 r2 q2) fun c s3 ⟨z, H3, I3, r3, k, e, q3⟩ => ?_) hm
 subst e
 cases r3
 exact wpAny_truthy_bool ⟨H3, I3, q3⟩
theorem line63 : (sizeLine : Nat) < 2 ^ 63 := by rw [sizeLine_eq]; decide
theorem vals1 {x : V} {us : List Value} (r : Vals [x] us) : ∃ u, us = [u] /\ RelV x u := by
 cases r with
 | cons r1 r2 => cases r2; exact ⟨_, rfl, r1⟩
theorem vals2 {x y : V} {us : List Value} (r : Vals [x, y] us) : ∃ u w', us = [u, w'] /\ RelV x u /\ RelV y w' := by
 cases r with
 | cons r1 r2 =>
  cases r2 with
  | cons r3 r4 => cases r4; exact ⟨_, _, rfl, r1, r3⟩
theorem call_min2 (hc : X.calm = true) : CallR X (.builtin "min") (fun xs H Q => ∃ i j, xs = [.int i, .int j] /\ Q (.int (if j < i then j else i)) H) := by
 intro pins s σ H xs us Q I r h
 obtain ⟨i, j, rfl, q⟩ := h
 obtain ⟨u, w', rfl, ⟨t, rfl⟩, ⟨t', rfl⟩⟩ := vals2 r
 refine min_two_ints (I.ok.hd hc) fun h' tk k => ⟨_, H, I.kept k, ?_, q⟩
 by_cases hj : j < i
 ·rw [if_pos hj, if_pos hj]; exact ⟨_, rfl⟩
 ·rw [if_neg hj, if_neg hj]; exact ⟨_, rfl⟩
theorem call_str_int : CallR X (.type "str") (fun xs H Q => ∃ i, xs = [.int i] /\ i.natAbs.log2 < 1920 /\ Q (.str (toString i)) H) := by
 intro pins s σ H xs us Q I r h
 obtain ⟨i, rfl, hz, q⟩ := h
 obtain ⟨u, rfl, t, rfl⟩ := vals1 r
 exact PySem.P.str_of_int hz ⟨.str _, H, I.tok _, ⟨_, rfl⟩, q⟩
end
end L2
namespace L2
open PySem PySem.Spec PyProof.Rows
structure ObjM (h : Heap) (x dx C : Addr) (mA : Str -> Option Value) : Prop where
 obj : h.get? x = some (PySem.W.instObj C dx)
 ns : h.Ns1 dx mA
 ne : dx ≠ x
theorem lookIn_ns {h : Heap} {dx : Addr} {mA : Str -> Option Value} (n : h.Ns1 dx mA) : ∃ od, h.get? dx = some od /\ ∀ name, PySem.W.lookIn name od = some (mA name) := by
 obtain ⟨o, es, ep, ho, hd, hk, _, hm⟩ := n
 refine ⟨o, ho, fun name => ?_⟩
 have e := hm name
 unfold nsFind findBy at e
 rw [<- Array.find?_toList] at e
 unfold PySem.W.lookIn
 rw [hd]
 dsimp only
 split
 ·rename_i y q
  rw [q] at e
  exact congrArg some e
 ·rename_i q
  rw [q] at e
  have a : es.toList.any (·.refKey) = false := by
   rw [List.any_eq_false]
   intro y hy
   obtain ⟨z, t, hkey⟩ := hk y (Array.mem_toList_iff.mp hy)
   simp [DictEntry.refKey, hkey]
  have a' : ¬ es.toList.any (·.refKey) = true := by rw [a]; exact Bool.false_ne_true
  rw [if_neg a']
  exact congrArg some e
theorem ObjM.look {h : Heap} {x dx C : Addr} {mA : Str -> Option Value} (I : ObjM h x dx C mA) : ∃ od, PySem.W.InstAt h x (PySem.W.instObj C dx) C (some od) /\ ∀ name, PySem.W.lookIn name od = some (mA name) :=
 let ⟨od, ho, hl⟩ := lookIn_ns I.ns
 ⟨od, ⟨I.obj, rfl, rfl, ho⟩, hl⟩
section
variable {prog : Program} {w : World} {A : Around} {E : Value -> Shared -> Prop} {s : Shared} {K : PySem.W.Frag} {x dx C f : Addr} {mA : Str -> Option Value} {name : Str} {v : Value}
end
section
variable {P : Program} {w : World} {H H' : Hp} {h h' : Heap} {a C dx : Addr} {fs fs' : List (Str × V)}
theorem ins_get (hok : HOk P w H h) (e : H a = some (.ins C dx fs)) : ∃ mA, ObjM h a dx C mA /\ (∀ f, RelO (fs.lookup f) (mA f)) /\ PySem.Within mA (fs.map (·.1)) /\ fs.length <= 1000 /\ H dx = some (.own a) := by
 obtain ⟨d, z, ne, ob, mA, n, r, q⟩ := (show ObjOk P w H h a (.ins C dx fs) from hok a _ e)
 exact ⟨mA, ⟨ob, n, ne⟩, r, q, z, d⟩
end
structure Cls (K : PySem.W.Frag) (C : Addr) : Prop where
 pg : PySem.W.plainGet K C Str.empty = true
 hd : PySem.W.hasDictIn K C = true
 po : PySem.W.plainOver K C = true
 sa : PySem.W.findIn K (.ref C) "__setattr__" = some (some (.builtin "object.__setattr__"))
theorem Cls.get {K : PySem.W.Frag} {C : Addr} (c : Cls K C) (f : Str) : PySem.W.plainGet K C f = true := c.pg
section
variable {X : Cx} {pins : List (Addr × Obj)} {σ : St} {H : Hp} {s : Shared} {a C dx : Addr} {fs : List (Str × V)} {f : Str} {v : V} {A : Around} {E : Value -> Shared -> Prop}
end
section
variable {X : Cx} {o e value : Expr} {f : Str} {pos pos' tpos : Pos} {ta tv : TE}
end
section
variable {X : Cx} {pins : List (Addr × Obj)} {σ : St} {H : Hp} {s : Shared} {A : Around} {E : Value -> Shared -> Prop} {Q : Value -> Shared -> Prop} {c : Value} {b : Bool}
inductive TyOf (K : PySem.W.Frag) (H : Hp) : V -> Value -> Prop where
 | non : TyOf K H .non (.type "NoneType")
 | bl (x : Bool) : TyOf K H (.bl x) (.type "bool")
 | int (i : Int) : TyOf K H (.int i) (.type "int")
 | str (x : Str) : TyOf K H (.str x) (.type "str")
 | flt (x : UInt64) : TyOf K H (.flt x) (.type "float")
 | lst {a : Addr} {xs : List V} (e : H a = some (.lst xs)) : TyOf K H (.ref a) (.type "list")
 | frz {a : Addr} {o : Obj} {xs : List V} (e : H a = some (.frz o (.lst xs))) : TyOf K H (.ref a) (.type "list")
 | tup {a : Addr} {xs : List V} (e : H a = some (.tup xs)) : TyOf K H (.ref a) (.type "tuple")
 | dK {a : Addr} {kvs : List (Key × V)} (e : H a = some (.dK kvs)) : TyOf K H (.ref a) (.type "dict")
 | dT {a : Addr} {kvs : List (List Key × V)} (e : H a = some (.dT kvs)) : TyOf K H (.ref a) (.type "dict")
 | ins {a C dx : Addr} {fs : List (Str × V)} (e : H a = some (.ins C dx fs)) (cl : Cls K C) (ha : PySem.W.findIn K (.ref C) "__class__" = some (some (.builtin "object.__class__")))
   (hn : PySem.W.specialIn K (.builtin "object.__class__") "__get__" = some (some (.builtin "getset_descriptor.__get__"))) (htk : PySem.W.takesIn K (.builtin "object.__class__") = some true)
   (hm : PySem.W.mroIn K C (.type "object") = some true) : TyOf K H (.ref a) (.ref C)
theorem isinst_ok {x : V} {u t : Value} (I : Inv X pins σ H s) (rx : RelV x u) (ty : TyOf X.K H x t) (e : PySem.W.kitOne X.K t c = some b) (h : ∀ tk, Q (.bool b) { s with toks := tk }) :
  wpAny (model X.prog X.w) A (call (.builtin "isinstance") [u, c]) Q E s := by
 cases ty with
 | non => cases (show u = Value.none from rx); exact PySem.W.kia_one PySem.W.kitx_none I.kIn True.intro e (fun z => nomatch z) h
 | bl y => cases (show u = Value.bool y from rx); exact PySem.W.kia_one PySem.W.kitx_bool I.kIn True.intro e (fun z => nomatch z) h
 | int i => obtain ⟨t, q⟩ := (show ∃ t, u = Value.int i t from rx); cases q; exact PySem.W.kia_one PySem.W.kitx_int I.kIn True.intro e (fun z => nomatch z) h
 | str y => obtain ⟨t, q⟩ := (show ∃ t, u = Value.str y t from rx); cases q; exact PySem.W.kia_one PySem.W.kitx_str I.kIn True.intro e (fun z => nomatch z) h
 | flt y => obtain ⟨t, q⟩ := (show ∃ t, u = Value.float y t from rx); cases q; exact PySem.W.kia_one PySem.W.kitx_float I.kIn True.intro e (fun z => nomatch z) h
 | @lst a xs ea =>
  cases (show u = Value.ref a from rx)
  obtain ⟨_, _, n, _, h1⟩ := (show ObjOk X.prog X.w H s.heap a (.lst xs) from I.hok a _ ea)
  exact PySem.W.kia_one PySem.W.kitx_list I.kIn ⟨_, h1, rfl⟩ e (fun z => nomatch z) h
 | @frz a ob xs ea =>
  cases (show u = Value.ref a from rx)
  obtain ⟨_, _, _, n, _, h1⟩ := (show ObjOk X.prog X.w H s.heap a (.frz ob (.lst xs)) from I.hok a _ ea)
  exact PySem.W.kia_one PySem.W.kitx_list I.kIn ⟨_, h1, rfl⟩ e (fun z => nomatch z) h
 | @tup a xs ea =>
  cases (show u = Value.ref a from rx)
  obtain ⟨_, _, _, p⟩ := (show ObjOk X.prog X.w H s.heap a (.tup xs) from I.hok a _ ea)
  obtain ⟨o, h1, h2, _⟩ := p
  exact PySem.W.kia_one PySem.W.kitx_tuple I.kIn ⟨o, h1, h2.1⟩ e (fun z => nomatch z) h
 | @dK a kvs ea =>
  cases (show u = Value.ref a from rx)
  obtain ⟨_, _, vs, _, p⟩ := (show ObjOk X.prog X.w H s.heap a (.dK kvs) from I.hok a _ ea)
  obtain ⟨o, es, ep, h1, h2, _⟩ := p
  exact PySem.W.kia_one PySem.W.kitx_dict I.kIn ⟨o, h1, h2.1⟩ e (fun z => nomatch z) h
 | @dT a kvs ea =>
  cases (show u = Value.ref a from rx)
  obtain ⟨_, _, xs, _, o, es, ep, h1, h2, _⟩ := (show ObjOk X.prog X.w H s.heap a (.dT kvs) from I.hok a _ ea)
  exact PySem.W.kia_one PySem.W.kitx_dict I.kIn ⟨o, h1, h2.1⟩ e (fun z => nomatch z) h
 | @ins a C dx fs ea cl ha hn htk hm =>
  cases (show u = Value.ref a from rx)
  obtain ⟨mA, O, _⟩ := ins_get I.hok ea
  obtain ⟨od, J, _⟩ := O.look
  exact PySem.W.kia_one (PySem.W.kitx_own (cl.get _) cl.hd ha hn htk hm) I.kIn J e (fun z => nomatch z) h
end
end L2
namespace L2
open PySem PySem.Spec PyProof.Rows
structure Room (k : Nat) (A : Around) : Prop where
 hd : A.handled = none
 dp : A.depth + 3 * k + 5 < recursionLimit
 un : A.units + 16 * k + 200 < cLine
theorem Room.mono {j k : Nat} {A : Around} (r : Room k A) (h : j <= k) : Room j A := ⟨r.hd, by have := r.dp; omega, by have := r.un; omega⟩
theorem Room.deeper {k : Nat} {A : Around} (r : Room (k + 1) A) (env : Env) : Room k (A.deeper env) :=
 ⟨r.hd, by have := r.dp; show A.depth + 1 + 3 * k + 5 < _; omega, by have := r.un; show A.units + 3 + 16 * k + 200 < _; omega⟩
theorem Room.depth {k : Nat} {A : Around} (r : Room k A) : A.depth < recursionLimit := by have := r.dp; omega
def tNil : TA := fun _ H Q => Q [] H
def tCons (ta : TE) (tr : TA) : TA := fun σ H Q => ta σ H fun x H1 => tr σ H1 fun xs H2 => Q (x :: xs) H2
section
variable {X : Cx} {e : Expr} {es : List Expr} {te : TE} {t : TA} {pos : Pos}
theorem pa_nil : PA X [] tNil := fun _ _ _ _ H Q I h => Calls.spliced_nil ⟨[], H, I, .nil, h⟩
theorem pa_cons (ha : PE X e te) (hr : PA X es t) (hs : starEach (e :: es) X.env = (false, eval e X.env) :: starEach es X.env := by rfl) : PA X (e :: es) (tCons te t) := by
 intro pos pins s σ H Q I h
 rw [hs]
 show wpAny _ _ (spliced ((false, eval e X.env) :: backTo pos (starEach es X.env))) _ _ s
 refine Calls.spliced_cons (thn (ha pins s σ H _ I h) fun u s1 ⟨x, H1, I1, r1, q1⟩ => ?_)
 exact thn (hr pos pins s1 σ H1 _ I1 q1) fun us s2 ⟨xs, H2, I2, r2, q2⟩ => ⟨x :: xs, H2, I2, .cons r1 r2, q2⟩
def tTup (t : TA) : TE := fun σ H Q => t σ H fun xs H1 => xs.length <= sizeLine /\ ∀ p, H1 p = none -> Q (.ref p) (upd H1 p (.tup xs))
def tLst (t : TA) : TE := fun σ H Q => t σ H fun xs H1 => xs.length <= sizeLine /\ ∀ p, H1 p = none -> Q (.ref p) (upd H1 p (.lst xs))
theorem pe_tup {x1} (h : PA X es t) : PE X (.Tuple es x1 pos) (tTup t) := by
 intro pins s σ H Q I hq
 refine wpAny_Tuple_spliced (thn (h pos pins s σ H _ I hq) fun us s1 ⟨xs, H1, I1, r, z, q⟩ => ⟨by rw [<- r.length]; exact z, ?_⟩)
 have hf : H1 s1.heap.objs.size = none := I1.hok.fresh (Nat.le_refl _)
 refine ⟨.ref s1.heap.objs.size, upd H1 s1.heap.objs.size (.tup xs), I1.laid (t' := s1.toks) (fun b u e => Heap.get?_push_of_some _ e) (Nat.le_refl _) ?_, rfl, q _ hf⟩
 exact ⟨z, us, r, ⟨_, Heap.get?_push_size _ rfl, ⟨rfl, rfl⟩, _, rfl⟩⟩
theorem pe_lst (h : PA X es t) : PE X (.List es pos) (tLst t) := by
 intro pins s σ H Q I hq
 refine wpAny_List_spliced (thn (h pos pins s σ H _ I hq) fun us s1 ⟨xs, H1, I1, r, z, q⟩ => ⟨by rw [<- r.length]; exact z, ?_⟩)
 have hf : H1 s1.heap.objs.size = none := I1.hok.fresh (Nat.le_refl _)
 refine ⟨.ref s1.heap.objs.size, upd H1 s1.heap.objs.size (.lst xs), I1.laid (t' := s1.toks) (fun b u e => Heap.get?_push_of_some _ e) (Nat.le_refl _) ?_, rfl, q _ hf⟩
 exact ⟨z, us, 0, r, Heap.get?_push_size _ rfl⟩
end
abbrev Sp := List V -> Hp -> VK -> XK -> Prop
abbrev CXT := List Env -> Hp -> Shared -> XK -> Value -> Shared -> Prop
structure Env0 (P : Program) (w : World) (K : PySem.W.Frag) (mg : Str -> Option Value) (base : Heap) (A : Around) (outer : List Env) (s : Shared) (H : Hp) : Prop where
 frames : A.frames = some outer
 mod : Mod K mg base
 bs : ∀ b o, base.get? b = some o -> s.heap.get? b = some o /\ H b = none
 bsz : base.objs.size <= s.heap.objs.size
 funs : s.heap.FunFrames base outer
 frf : ∀ b ∈ frs outer, H b = none
 hok : HOk P w H s.heap
 bare : AllBare s.gens
def CE (outer : List Env) (P : Program) (w : World) (H : Hp) (s : Shared) (Q : VK) (u : Value) (s' : Shared) : Prop :=
 ∃ v H', s'.os = s.os /\ AllBare s'.gens /\ Un (frs outer) [] H H' s.heap s'.heap /\ HOk P w H' s'.heap /\ RelV v u /\ Q v H'
def CR (CX : CXT) (outer : List Env) (P : Program) (w : World) (H : Hp) (s : Shared) (Q : VK) (E : XK) (r : Result) (s' : Shared) : Prop :=
 match r with
 | .ok (.ret u) => CE outer P w H s Q u s'
 | .ok _ => False
 | .error e => CX outer H s E e s'
structure FnOk (P : Program) (w : World) (K : PySem.W.Frag) (mg : Str -> Option Value) (base : Heap) (CX : CXT) (k : Nat) (f : Addr) (fd : FuncData) (ps : List Str) (sp : Sp) : Prop where
 len : ∀ vs H Q E, sp vs H Q E -> vs.length = ps.length
 run : ∀ (A : Around) (outer : List Env) (s : Shared) (H : Hp) (args : Args) (us : List Value) (vs : List V) (Q : VK) (E : XK), Room k A -> Env0 P w K mg base A outer s H -> BindsTo s fd args (ps.zip us) -> Vals vs us -> sp vs H Q E →
  codeAny (model P w) A (.call (.ref f) args) (CR CX outer P w H s Q E) s
section
variable {X : Cx} {pins : List (Addr × Obj)} {σ : St} {H : Hp} {s s' : Shared}
theorem Inv.env0 (I : Inv X pins σ H s) : Env0 X.prog X.w X.K X.mg X.base X.A X.stack s H :=
 ⟨I.ok.frames, I.ok.mod, I.bs, Nat.le_trans I.ok.bsz I.sz, I.stack, I.stkFree, I.hok, I.bare⟩
theorem Inv.after {Q : VK} {u : Value} (I : Inv X pins σ H s) (h : CE X.stack X.prog X.w H s Q u s') : EP X pins σ Q u s' := by
 obtain ⟨v, H', os, bare, un, hok, r, q⟩ := h
 obtain ⟨hh, g, d, t, os'⟩ := s'
 obtain rfl : os' = s.os := os
 exact ⟨v, H', I.call (h' := hh) (g' := g) (d' := d) (t' := t) (ch := []) un hok bare (fun b z => absurd z (by simp)), r, q⟩
end
def tCall (sp : Sp) (dvs : List V) (E : XK) (t : TA) : TE := fun σ H Q => t σ H fun vs H1 => sp (vs ++ dvs) H1 Q E
def Binds (K : PySem.W.Frag) (fd : FuncData) (ps : List Str) (ds : List Value) : Prop :=
 ∀ (s : Shared) (us : List Value), K.In s.heap -> (us ++ ds).length = ps.length -> BindsTo s fd ⟨us, []⟩ (ps.zip (us ++ ds))
theorem Binds.all {K : PySem.W.Frag} {fd : FuncData} {ps : List Str} (h : ∀ us : List Value, us.length = ps.length -> bindArgs fd ⟨us, []⟩ = pure (ps.zip us)) : Binds K fd ps [] := fun s us _ hl => by
 rw [List.append_nil] at hl ⊢
 exact .of_eq (h us hl)
def Passes (CX : CXT) (X : Cx) (E : XK) : Prop := ∀ (pins : List (Addr × Obj)) (σ : St) (H : Hp) (s : Shared) (e : Value) (s' : Shared), Inv X pins σ H s -> CX X.stack H s E e s' -> X.xe e s'
section
variable {X : Cx} {CX : CXT} {k : Nat} {f C : Addr} {fd : FuncData} {ps : List Str} {sp : Sp} {dvs : List V} {ds : List Value} {E : XK} {x m : Str} {p pos apos : Pos} {e o : Expr} {es : List Expr} {ta : TE} {t : TA}
theorem run_fn {pins : List (Addr × Obj)} {σ : St} {H : Hp} {s : Shared} {Q : VK} {us : List Value} {vs : List V} (F : FnOk X.prog X.w X.K X.mg X.base CX k f fd ps sp) (hr : Room k X.A) (hb : Binds X.K fd ps ds) (hd : Vals dvs ds) (hx : Passes CX X E)
  (I : Inv X pins σ H s) (r : Vals vs us) (h : sp (vs ++ dvs) H Q E) : wpAny (model X.prog X.w) X.A (call (.ref f) us) (EP X pins σ Q) X.xe s := by
 have r2 : Vals (vs ++ dvs) (us ++ ds) := r.append hd
 have hl : (us ++ ds).length = ps.length := by rw [<- r2.length]; exact F.len _ _ _ _ h
 refine wpAny_call (codeAny_mono (F.run X.A X.stack s H ⟨us, []⟩ (us ++ ds) (vs ++ dvs) Q E hr I.env0 (hb s us I.kIn hl) r2 h) fun r s' hq => ?_)
 cases r with
 | error e => exact hx pins σ H s e s' I hq
 | ok fl =>
  cases fl with
  | ret u => exact I.after hq
  | next => exact False.elim hq
  | brk => exact False.elim hq
  | cont => exact False.elim hq
theorem pe_call (F : FnOk X.prog X.w X.K X.mg X.base CX k f fd ps sp) (hr : Room k X.A) (hg : Gl X x) (hm : X.mg x = some (.ref f)) (hk : PySem.W.keepIn X.K (.ref f) = true) (hb : Binds X.K fd ps ds) (hd : Vals dvs ds) (hx : Passes CX X E)
  (ha : PA X (e :: es) t) (hdb : (x == ("__debug__" : Str)) = false := by decide) (he : starEach (e :: es) X.env = (false, eval e X.env) :: starEach es X.env := by rfl) (hpl : (backTo pos (starEach es X.env)).any (·.1) = false := by rfl) :
  PE X (.Call (.Name x p) (e :: es) [] pos) (tCall sp dvs E t) := by
 intro pins s σ H Q I h
 refine wpAny_Call_Name_kw (ld_glob I hg hm ?_ hdb)
 refine PySem.W.callWith_K (h₀ := X.base) I.ok.mod.kin hk (thn (ha pos pins s σ H _ I h) fun us s1 ⟨vs, H1, I1, r, q⟩ => ⟨I1.kIn, ?_⟩) he hpl
 exact run_fn F hr hb hd hx I1 r q
end
section
variable {X : Cx} {CX : CXT} {k : Nat} {f C : Addr} {fd : FuncData} {ps ks : List Str} {sp : Sp} {E : XK} {x m : Str} {p pos apos kpos : Pos} {e o : Expr} {es : List Expr} {kws : List Keyword} {te ta : TE} {t tk : TA} {nm : Option Str}
variable {g : List Value -> List Value -> List Value} {gV : List V -> List V -> List V}
end
structure FnScope (N P : List Str) (sc : Scope) : Prop where
 kind : sc.kind = .function
 co : sc.isCoroutine = false
 gen : sc.isGenerator = false
 nd : N.Nodup
 pre : N.take P.length = P
 par : ∀ x ∈ P, sc.names.lookup x = some .local \/ sc.names.lookup x = some .cell
 nofree : ∀ y ∈ sc.names, y.2 ≠ .free
theorem bindL_out {kindOf : Str -> Option NameKind} {x : Str} : ∀ {binds : List (Str × Value)} {m : Str -> Option Value}, (∀ v, (x, v) ∉ binds) -> bindL kindOf binds m x = m x
 | [], _, _ => rfl
 | (n, v) :: r, m, h => by
  unfold bindL
  rw [bindL_out fun w hw => h w (List.mem_cons_of_mem _ hw)]
  split
  ·have : x ≠ n := by rintro rfl; exact h v List.mem_cons_self
   simp [this]
  ·rfl
theorem bindC_out {kindOf : Str -> Option NameKind} {x : Str} : ∀ {binds : List (Str × Value)} {m : Str -> Option Value}, (∀ v, (x, v) ∉ binds) -> bindC kindOf binds m x = m x
 | [], _, _ => rfl
 | (n, v) :: r, m, h => by
  unfold bindC
  rw [bindC_out fun w hw => h w (List.mem_cons_of_mem _ hw)]
  split
  ·rfl
  ·have : x ≠ n := by rintro rfl; exact h v List.mem_cons_self
   simp [this]
theorem bindL_get {kindOf : Str -> Option NameKind} {x : Str} {v : Value} : ∀ {P : List Str} {vs : List Value} {i : Nat} {m : Str -> Option Value}, P.Nodup -> P[i]? = some x -> vs[i]? = some v -> kindOf x = some .local →
  bindL kindOf (P.zip vs) m x = some v
 | [], _, _, _, _, h, _, _ => by simp at h
 | _ :: _, [], _, _, _, _, h, _ => by simp at h
 | p :: P, w :: vs, 0, m, nd, h1, h2, hk => by
  simp at h1 h2; subst h1; subst h2
  show bindL kindOf ((p, w) :: P.zip vs) m p = _
  unfold bindL
  rw [bindL_out fun v hv => (List.nodup_cons.mp nd).1 (List.of_mem_zip hv).1, if_pos hk]
  simp
 | p :: P, w :: vs, i + 1, m, nd, h1, h2, hk => by
  show bindL kindOf ((p, w) :: P.zip vs) m x = _
  unfold bindL
  exact bindL_get (i := i) (List.nodup_cons.mp nd).2 (by simpa using h1) (by simpa using h2) hk
theorem bindC_get {kindOf : Str -> Option NameKind} {x : Str} {v : Value} : ∀ {P : List Str} {vs : List Value} {i : Nat} {m : Str -> Option Value}, P.Nodup -> P[i]? = some x -> vs[i]? = some v -> kindOf x ≠ some .local →
  bindC kindOf (P.zip vs) m x = some v
 | [], _, _, _, _, h, _, _ => by simp at h
 | _ :: _, [], _, _, _, _, h, _ => by simp at h
 | p :: P, w :: vs, 0, m, nd, h1, h2, hk => by
  simp at h1 h2; subst h1; subst h2
  show bindC kindOf ((p, w) :: P.zip vs) m p = _
  unfold bindC
  rw [bindC_out fun v hv => (List.nodup_cons.mp nd).1 (List.of_mem_zip hv).1, if_neg hk]
  simp
 | p :: P, w :: vs, i + 1, m, nd, h1, h2, hk => by
  show bindC kindOf ((p, w) :: P.zip vs) m x = _
  unfold bindC
  exact bindC_get (i := i) (List.nodup_cons.mp nd).2 (by simpa using h1) (by simpa using h2) hk
def start (N : List Str) (vs : List V) : St := vs.map some ++ List.replicate (N.length - vs.length) none
def cxOf (CX : CXT) (P : Program) (w : World) (K : PySem.W.Frag) (mg : Str -> Option Value) (base : Heap) (N : List Str) (qual : Str) (scope : Scope) (f : Addr) (cd : Value) (A : Around) (outer : List Env) (s : Shared) (H : Hp) (E : XK) : Cx where
 prog := P
 w := w
 K := K
 mg := mg
 base := base
 A := A.deeper (envOfC qual scope s.heap.objs.size f cd)
 N := N
 s₀ := s
 H₀ := H
 env := envOfC qual scope s.heap.objs.size f cd
 outer := outer
 stack := envOfC qual scope s.heap.objs.size f cd :: outer
 ex := []
 calm := true
 fn := fun _ => true
 pn := []
 xe := fun e s' => wpAny (model P w) (A.deeper (envOfC qual scope s.heap.objs.size f cd)) (leaving (envOfC qual scope s.heap.objs.size f cd) e) (fun _ s'' => CX outer H s E e s'') (fun e' s'' => CX outer H s E e' s'') s'
theorem cell_has {sc : Scope} {n : Nat} {x : Str} (h : sc.names.lookup x = some .cell) : ∃ c, (cellsFrom n sc.names []).lookup x = some c := by
 have q := PySem.W.cellsFrom_some sc.names n [] (.inl h)
 exact Option.isSome_iff_exists.mp q
theorem inv_start {CX : CXT} {P : Program} {w : World} {K : PySem.W.Frag} {mg : Str -> Option Value} {base : Heap} {N ps : List Str} {qual : Str} {scope : Scope} {f : Addr} {cd : Value} {A : Around} {outer : List Env} {s s1 : Shared} {H : Hp} {E : XK} {us : List Value} {vs : List V}
  (S : FnScope N ps scope) (hd : A.handled = none) (e0 : Env0 P w K mg base A outer s H) (hl : vs.length = ps.length) (r : Vals vs us)
  (x : InCallC s s.heap.objs.size (bindL (envOfC qual scope s.heap.objs.size f cd).kindOf (ps.zip us) fun _ => none) (cellsFrom (s.heap.objs.size + 1) scope.names []) (bindC (envOfC qual scope s.heap.objs.size f cd).kindOf (ps.zip us) fun _ => none) s1) :
  Inv (cxOf CX P w K mg base N qual scope f cd A outer s H E) [] (start N vs) H s1 := by
 have hpl : ps.length <= N.length := by have := congrArg List.length S.pre; rw [List.length_take] at this; omega
 obtain ⟨h1, tk, rfl, hk⟩ := x.done
 have noA : ∀ b : Addr, b ∉ (cxOf CX P w K mg base N qual scope f cd A outer s H E).ex := fun b z => absurd (show b ∈ ([] : List Addr) from z) (by simp)
 refine ⟨⟨e0.mod, S.kind, rfl, rfl, Nat.le_refl _, fun y z c h1 h2 => ?_, fun y hy => ?_, fun y c _ h => ?_, fun _ => hd, Around.frames_deeper e0.frames, .inr ⟨rfl, rfl⟩, fun b z => absurd z (noA b), e0.bs, e0.bsz, fun b _ _ => noA b, fun b z => absurd z (noA b), e0.funs, e0.frf⟩,
  rfl, e0.bare, Un.kept hk, ⟨_, x.toInCall.ns, fun i y v h1 h2 h3 => ?_⟩, fun y c h => ⟨_, x.cell y c h⟩, e0.hok.fresh (Nat.le_refl _), fun y c h => ?_, fun p hp => absurd (show p ∈ ([] : List (Addr × Obj)) from hp) (by simp), e0.hok.kept hk, ?_⟩
 ·exact name_of_addr x.apart (PySem.mem_of_lookup h1) (PySem.mem_of_lookup h2)
 ·have hy : scope.names.lookup y = some .cell \/ scope.names.lookup y = some .free := hy
  rcases hy with hy | hy
  ·exact cell_has hy
  ·exact absurd rfl (S.nofree _ (PySem.mem_of_lookup hy))
 ·exact Nat.le_of_lt (x.above y c (PySem.mem_of_lookup h))
 ·have hi : i < vs.length := by
   unfold start at h2
   by_cases hi : i < vs.length
   ·exact hi
   ·rw [List.getElem?_append_right (by simpa using hi)] at h2
    rw [List.getElem?_replicate] at h2
    split at h2 <;> cases h2
  have ha : vs[i]? = some v := by
   unfold start at h2
   rw [List.getElem?_append_left (by simpa using hi), List.getElem?_map] at h2
   cases e : vs[i]? with
   | none => rw [e] at h2; cases h2
   | some a => rw [e] at h2; cases h2; rfl
  obtain ⟨u, hu, rv⟩ := r.get ha
  have hp : ps[i]? = some y := by
   rw [<- S.pre, List.getElem?_take_of_lt (by omega)]; exact h1
  have ndP : ps.Nodup := by rw [<- S.pre]; exact S.nd.sublist (List.take_sublist _ _)
  refine ⟨u, rv, ?_⟩
  rcases S.par y (List.mem_of_getElem? hp) with k | k
  ·exact .inl ⟨k, bindL_get ndP hp hu k⟩
  ·obtain ⟨c, e⟩ := cell_has (n := s.heap.objs.size + 1) k
   refine .inr ⟨.inl k, c, e, ?_⟩
   have q := x.cell y c e
   rw [bindC_get ndP hp hu (by show scope.names.lookup y ≠ _; rw [k]; decide)] at q
   exact q
 ·exact e0.hok.fresh (Nat.le_of_lt (x.above y c (PySem.mem_of_lookup h)))
 ·unfold start
  show _ = N.length
  rw [List.length_append, List.length_map, List.length_replicate]
  omega
theorem fn_of {CX : CXT} {P : Program} {w : World} {K : PySem.W.Frag} {mg : Str -> Option Value} {base : Heap} {k : Nat} {f : Addr} {name qual : Str} {params : Arguments} {body : List Stmt} {scope : Scope} {dV kV doc pm cdv ct oc : Value} {an od : Option Addr}
  {osl : Array (Option Value)} {N ps : List Str} {sp : Sp} (lk : K.lookup f = some ⟨oc, od, .func (PySem.W.fnOf name qual params body scope dV kV doc pm an cdv ct), osl⟩) (hcd : PySem.W.codeIn K cdv qual = true) (S : FnScope N ps scope)
  (len : ∀ vs H Q E, sp vs H Q E -> vs.length = ps.length)
  (hbody : ∀ (A : Around) (outer : List Env) (s : Shared) (H : Hp) (vs : List V) (Q : VK) (E : XK), Room k (A.deeper (envOfC qual scope s.heap.objs.size f cdv)) -> sp vs H Q E →
   ∃ t, PSs (cxOf CX P w K mg base N qual scope f cdv A outer s H E) body t /\ t { nx := fun _ H' => Q .non H', rt := Q } (start N vs) H) :
  FnOk P w K mg base CX (k + 1) f (PySem.W.fnOf name qual params body scope dV kV doc pm an cdv ct) ps sp := by
 refine ⟨len, fun A outer s H args us vs Q E hr e0 hb r hsp => ?_⟩
 have hl := len _ _ _ _ hsp
 have KX : K.In s.heap := e0.mod.kin.keeps fun b o e => (e0.bs b o e).1
 have lim : s.heap.NoLimit := e0.mod.nolimit.keeps fun b o e => (e0.bs b o e).1
 have hkind : ∀ y ∈ ps.zip us, scope.names.lookup y.1 = some .local \/ (scope.names.lookup y.1 = some .cell /\ ((cellsFrom (s.heap.objs.size + 1) scope.names []).lookup y.1).isSome = true) := fun ⟨n, v⟩ hy => by
  rcases S.par n (List.of_mem_zip hy).1 with q | q
  ·exact .inl q
  ·exact .inr ⟨q, PySem.W.cellsFrom_some _ _ _ (.inl q)⟩
 refine codeAny_call_function hr.depth (KX _ _ lk) rfl S.co S.gen rfl (PySem.W.codeRec_of KX hcd) (hb _ _ _ _ ?_)
 refine wpAny_newFunctionEnv_cells S.kind hkind fun env he s1 x => ?_
 subst he
 refine ⟨lim.keeps x.toInCall.keep, codeAny_func ?_⟩
 obtain ⟨t, ht, hq⟩ := hbody A outer s H vs Q E (hr.deeper _) hsp
 have I : Inv (cxOf CX P w K mg base N qual scope f cdv A outer s H E) [] (start N vs) H s1 := inv_start S hr.hd e0 hl r x
 refine wpAny_mono (ht [] s1 (start N vs) H _ I hq) (fun fl s' hs => ?_) fun e s' hs => hs
 have fin : ∀ {σ' : St} {H' : Hp} {v : V} {u : Value}, Inv (cxOf CX P w K mg base N qual scope f cdv A outer s H E) [] σ' H' s' -> RelV v u -> Q v H' -> CE outer P w H s Q u s' :=
  fun {σ' H' v u} J rv q => ⟨v, H', J.os, J.bare, J.base, J.hok, rv, q⟩
 cases fl with
 | ret u =>
  obtain ⟨v, σ', H', J, rv, q⟩ := hs
  exact fin J rv q
 | next =>
  obtain ⟨σ', H', J, q⟩ := hs
  exact fin (v := V.non) (u := Value.none) J rfl q
 | brk =>
  obtain ⟨_, _, _, q⟩ := hs
  exact False.elim q
 | cont =>
  obtain ⟨_, _, _, q⟩ := hs
  exact False.elim q
end L2
namespace L2
open PySem PySem.Spec PyProof.Rows
section
variable {X : Cx} {x : Str} {p pos : Pos} {e : Expr} {es : List Expr} {t : TA} {id T : String} {r : List V -> Hp -> VK -> Prop}
def tCB (r : List V -> Hp -> VK -> Prop) (t : TA) : TE := fun σ H Q => t σ H fun vs H1 => r vs H1 Q
theorem pe_callB (hc : CallR X (.builtin id) r) (hg : Gl X x) (hm : X.mg x = none) (hv : bootBuiltins x = some (.builtin id)) (ha : PA X (e :: es) t) (hn : x ≠ "__name__" := by decide) (hdb : (x == ("__debug__" : Str)) = false := by decide)
  (he : starEach (e :: es) X.env = (false, eval e X.env) :: starEach es X.env := by rfl) (hpl : (backTo pos (starEach es X.env)).any (·.1) = false := by rfl) : PE X (.Call (.Name x p) (e :: es) [] pos) (tCB r t) := by
 intro pins s σ H Q I h
 refine wpAny_Call_Name_kw (ld_blt I hg hm hv ?_ hn hdb)
 exact PyProof.Rows.callWith_builtin1 (thn (ha pos pins s σ H _ I h) fun us s1 ⟨vs, H1, I1, r1, q1⟩ => hc pins s1 σ H1 vs us Q I1 r1 q1) he hpl
theorem pe_callTy (hc : CallR X (.type T) r) (hg : Gl X x) (hm : X.mg x = none) (hv : bootBuiltins x = some (.type T)) (ha : PA X (e :: es) t) (hn : x ≠ "__name__" := by decide) (hdb : (x == ("__debug__" : Str)) = false := by decide)
  (he : starEach (e :: es) X.env = (false, eval e X.env) :: starEach es X.env := by rfl) (hpl : (backTo pos (starEach es X.env)).any (·.1) = false := by rfl) : PE X (.Call (.Name x p) (e :: es) [] pos) (tCB r t) := by
 intro pins s σ H Q I h
 refine wpAny_Call_Name_kw (ld_blt I hg hm hv ?_ hn hdb)
 exact PyProof.Rows.callWith_type1 (thn (ha pos pins s σ H _ I h) fun us s1 ⟨vs, H1, I1, r1, q1⟩ => hc pins s1 σ H1 vs us Q I1 r1 q1) he hpl
end
end L2
namespace HT
open PySem PyProof.Rows
section
open PySem.SeqAt
open PySem.AutoSeq1 (wpAny_loadPart')
open PySem.MeetsSeq PySem.MeetsSeq2 PySem.MeetsSeq3
end
section
variable {prog : Program} {w : World} {A : Around} {E : Value -> Shared -> Prop} {s : Shared}
theorem cat_tup {t b : Addr} {vs ws : List Value} {Q : Value -> Shared -> Prop} (ht : IsTup s.heap t vs.toArray) (hb : IsTup s.heap b ws.toArray) (hv : vs ≠ [])
  (h1 : ws = [] -> Q (.ref t) s) (h2 : ws ≠ [] -> Q (.ref s.heap.objs.size) { s with heap := s.heap.push { cls := .type "tuple", data := .seq (vs ++ ws).toArray } })
  (hsz : vs.length + ws.length <= sizeLine) : wpAny (model prog w) A (binaryOp .Add (.ref t) (.ref b)) Q E s := by
 obtain ⟨⟨cls, dd, data, sl⟩, ho, hc, n, hd⟩ := id ht
 obtain ⟨⟨cls2, dd2, data2, sl2⟩, ho2, hc2, n2, hd2⟩ := id hb
 simp only at hc hd hc2 hd2
 subst hc hd hc2 hd2
 have e : vs.toArray ++ ws.toArray = (vs ++ ws).toArray := by simp
 by_cases hw : ws = []
 ·exact concat_meets ⟨_, ho, rfl⟩ ⟨_, ho2, rfl⟩ noFill_tuple_add seq_tuple_add PySem.F.slot_tuple_add PySem.F.entry_tuple_add (PySem.F.args_tuple_add_2 _ _)
   (tuple_addW1 t b vs.toArray ws.toArray n n2 dd dd2 sl sl2 (by simpa using hv) (by simp [hw])) ⟨ho, ho2, h1 hw⟩
 ·refine concat_meets ⟨_, ho, rfl⟩ ⟨_, ho2, rfl⟩ noFill_tuple_add seq_tuple_add PySem.F.slot_tuple_add PySem.F.entry_tuple_add (PySem.F.args_tuple_add_2 _ _)
   (tuple_addW2 t b vs.toArray ws.toArray n n2 dd dd2 sl sl2 (by simpa using hv) (by simpa using hw) (by rw [List.size_toArray, List.size_toArray]; exact hsz)) ⟨ho, ho2, ?_⟩
  rw [e]
  exact h2 hw
def sIx (n d : Nat) : Option Int -> Nat
 | none => d
 | some v => if v < 0 then (v + (n : Int)).toNat else min v.toNat n
theorem sIx_nat (n d k : Nat) : sIx n d (some (k : Int)) = min k n := by
 show (if (k : Int) < 0 then ((k : Int) + (n : Int)).toNat else min (k : Int).toNat n) = min k n
 rw [if_neg (by omega), Int.toNat_natCast]
theorem sIx_le (n d : Nat) (hd : d <= n) (o : Option Int) : sIx n d o <= n := by
 cases o with
 | none => exact hd
 | some v =>
  show (if v < 0 then (v + (n : Int)).toNat else min v.toNat n) <= n
  by_cases hv : v < 0
  ·rw [if_pos hv]; omega
  ·rw [if_neg hv]; exact Nat.min_le_right _ _
theorem clip_eq (v : Int) (n d : Nat) : (if v < 0 then max (v + (n : Int)) 0 else min v (n : Int)) = ((sIx n d (some v) : Nat) : Int) := by
 show (if v < 0 then max (v + (n : Int)) 0 else min v (n : Int)) = (((if v < 0 then (v + (n : Int)).toNat else min v.toNat n) : Nat) : Int)
 by_cases hv : v < 0
 ·simp only [if_pos hv]; omega
 ·simp only [if_neg hv]; omega
theorem adjust_gen (lo hi : Option Int) (n : Nat) : Builtin.Slice.sliceAdjust lo hi 1 (n : Int) = (((sIx n 0 lo : Nat) : Int), ((sIx n n hi : Nat) : Int)) := by
 have h1 : ¬ ((1 : Int) < 0) := by omega
 unfold Builtin.Slice.sliceAdjust
 simp only [h1, if_false]
 refine Prod.ext ?_ ?_
 ·cases lo with
  | none => rfl
  | some v => exact clip_eq v n 0
 ·cases hi with
  | none => rfl
  | some v => exact clip_eq v n n
theorem places_gen (i j : Nat) : Builtin.Slice.slicePlaces (i : Int) (j : Int) 1 = j - i := by
 unfold Builtin.Slice.slicePlaces
 have h1 : (1 : Int) > 0 := by omega
 simp only [h1, if_true, Int.ediv_one]
 split <;> omega
theorem slicePart_ {v : Value} {o : Option Int} {Q : Option Int -> Shared -> Prop} (p : IsPart v o) (h : Q o s) : wpAny (model prog w) A (Builtin.Slice.slicePartIndex v) Q E s := by
 cases p with
 | none => exact slicePart_none h
 | int i t => exact slicePart_int h
theorem sliceApplied_gen {sl : Addr} {vl vu : Value} {lo hi : Option Int} {n : Nat} {Q : Int × Int × Nat -> Shared -> Prop} (hs : s.heap.IsSliceOf sl vl vu .none) (pl : IsPart vl lo) (pu : IsPart vu hi)
  (h : Q (((sIx n 0 lo : Nat) : Int), 1, sIx n n hi - sIx n 0 lo) s) : wpAny (model prog w) A (Builtin.Slice.sliceApplied (.ref sl) (pure (n : Int))) Q E s := by
 obtain ⟨os, hos, hcs, hds⟩ := id hs
 unfold Builtin.Slice.sliceApplied Builtin.Slice.sliceFields
 refine wpAny_bind (wpAny_bind (wpAny_field hos hds (x := vl) rfl (wpAny_bind (wpAny_field hos hds (x := vu) rfl (wpAny_bind (wpAny_field hos hds (x := .none) rfl (wpAny_pure ?_)))))))
 refine wpAny_bind (slicePart_none ?_)
 show wpAny _ _ (if ((1 : Int) == 0) = true then _ else _) _ _ s
 rw [if_neg (by decide)]
 refine wpAny_bind (slicePart_ pl (wpAny_bind (slicePart_ pu (wpAny_bind (wpAny_pure ?_)))))
 show wpAny _ _ (match Builtin.Slice.sliceAdjust lo hi 1 (n : Int) with | (lo, hi) => pure (lo, (1 : Int), Builtin.Slice.slicePlaces lo hi 1)) _ _ s
 rw [adjust_gen lo hi n]
 show wpAny _ _ (pure (((sIx n 0 lo : Nat) : Int), (1 : Int), Builtin.Slice.slicePlaces ((sIx n 0 lo : Nat) : Int) ((sIx n n hi : Nat) : Int) 1)) _ _ s
 rw [places_gen]
 exact wpAny_pure h
theorem pick_gen (xs : Array Value) (i k : Nat) : ((List.range k).filterMap fun (m : Nat) => xs[((i : Int) + (m : Int) * 1).toNat]?).toArray = ((xs.toList.drop i).take k).toArray := by
 have e : (fun (m : Nat) => xs[((i : Int) + (m : Int) * 1).toNat]?) = fun m => xs[i + m]? := by
  funext m
  have : ((i : Int) + (m : Int) * 1).toNat = i + m := by omega
  rw [this]
 rw [e]
 have := pick_run xs i k
 rw [List.filterMap_map] at this
 have e2 : ((fun x => xs[x]?) ∘ fun x => i + x) = fun m => xs[i + m]? := rfl
 rw [e2] at this
 rw [this]
theorem getItem_tuple_cut {t sl : Addr} {items : Array Value} {vl vu : Value} {lo hi : Option Int} {Q : Value -> Shared -> Prop} (ht : IsTup s.heap t items) (hs : s.heap.IsSliceOf sl vl vu .none) (pl : IsPart vl lo) (pu : IsPart vu hi)
  (hw : ¬ (sIx items.size 0 lo = 0 /\ sIx items.size items.size hi = items.size))
  (h : Q (.ref s.heap.objs.size) { s with heap := s.heap.push { cls := .type "tuple", data := .seq ((items.toList.drop (sIx items.size 0 lo)).take (sIx items.size items.size hi - sIx items.size 0 lo)).toArray } })
  (hsz : items.size <= sizeLine) : wpAny (model prog w) A (getItem (.ref t) (.ref sl)) Q E s := by
 have htake : sizeOk (.seq ((items.toList.drop (sIx items.size 0 lo)).take (sIx items.size items.size hi - sIx items.size 0 lo)).toArray) := by
  show ((items.toList.drop (sIx items.size 0 lo)).take (sIx items.size items.size hi - sIx items.size 0 lo)).toArray.size <= sizeLine
  rw [List.size_toArray, List.length_take, List.length_drop, Array.length_toList]
  omega
 have hj : sIx items.size items.size hi <= items.size := sIx_le _ _ (Nat.le_refl _) hi
 obtain ⟨os, hos, hcs, hds⟩ := id hs
 have hTs : s.TypeIs (.ref sl) "slice" := ⟨os, hos, hcs⟩
 unfold getItem
 try with_reducible refine wpAny_holding ?_
 first | refine wpAny_bind (wpAny_pure ?_) | skip
 refine wpAny_bind (wpAny_sequenceKey ht.typeIs (by decide) ?_)
 refine wpAny_bind (wpAny_callSpecial?_slot (name := Str.ofString "__getitem__") ht.typeIs PyProof.Rows.slot_tuple_getitem
  (wpAny_call_entry PyProof.Rows.slot_tuple_getitem ht.typeIs entry_tuple_getitem ?_ (args_tuple_getitem _ _)))
 show wpAny _ _ (Builtin.Tuple.tupleItemsOf (.ref t) >>= _) _ _ s
 refine wpAny_bind (tupleItemsOf_ ht ?_)
 refine wpAny_bind (wpAny_typeOf hTs ?_)
 rw [if_pos (by decide)]
 refine wpAny_bind (sliceApplied_gen hs pl pu ?_)
 have hno : ¬ ((((sIx items.size 0 lo : Nat) : Int) == 0 && (1 : Int) == 1 && (sIx items.size items.size hi - sIx items.size 0 lo) == items.size) = true) := by
  intro q
  rw [Bool.and_eq_true, Bool.and_eq_true] at q
  have q1 : ((sIx items.size 0 lo : Nat) : Int) = 0 := eq_of_beq q.1.1
  have q2 : sIx items.size items.size hi - sIx items.size 0 lo = items.size := eq_of_beq q.2
  exact hw ⟨by omega, by omega⟩
 show wpAny _ _ (if (((sIx items.size 0 lo : Nat) : Int) == 0 && (1 : Int) == 1 && (sIx items.size items.size hi - sIx items.size 0 lo) == items.size) = true then _ else _) _ _ s
 rw [if_neg hno, pick_gen]
 first
  | exact wpAny_bind (m := Builtin.Tuple.tupleExact _) (wpAny_newObj_type (wpAny_pure ⟨_, rfl, wpAny_pure h⟩) htake)
  | exact wpAny_bind (m := Builtin.Tuple.tupleExact _) (wpAny_newObj_type (wpAny_bind (wpAny_pure (wpAny_pure ⟨_, rfl, wpAny_pure h⟩))) htake)
  | exact wpAny_bind (wpAny_bind (m := Builtin.Tuple.tupleExact _) (wpAny_newObj_type (wpAny_pure (wpAny_pure ⟨_, rfl, wpAny_pure h⟩)) htake))
  | exact wpAny_bind (wpAny_bind (m := Builtin.Tuple.tupleExact _) (wpAny_newObj_type (wpAny_pure ⟨_, rfl, wpAny_pure h⟩) htake))
end
end HT
namespace L2
open PySem PySem.Spec PyProof.Rows
abbrev TO := St -> Hp -> (Option Int -> Hp -> Prop) -> Prop
def PO (X : Cx) (e : Option Expr) (t : TO) : Prop :=
 ∀ (pins : List (Addr × Obj)) (s : Shared) (σ : St) (H : Hp) (Q : Option Int -> Hp -> Prop), Inv X pins σ H s -> t σ H Q →
  wpAny (model X.prog X.w) X.A (evalPart e X.env) (fun u s' => ∃ o H', Inv X pins σ H' s' /\ IsPart u o /\ Q o H') X.xe s
def tNoPart : TO := fun _ H Q => Q none H
def tPart (t : TE) : TO := fun σ H Q => t σ H fun x H1 => ∃ i, x = .int i /\ Q (some i) H1
section
variable {X : Cx} {e : Expr} {te : TE} {lo hi : Option Expr} {tl th : TO} {pos p2 : Pos}
theorem po_none : PO X none tNoPart := by
 intro pins s σ H Q I h
 rw [evalPart_none]
 exact wpAny_pure ⟨none, H, I, .none, h⟩
theorem po_some (h : PE X e te) : PO X (some e) (tPart te) := by
 intro pins s σ H Q I hw
 rw [evalPart_some]
 refine thn (h pins s σ H _ I hw) fun u s1 ⟨x, H1, I1, r1, q1⟩ => ?_
 obtain ⟨i, rfl, q⟩ := q1
 obtain ⟨t, rfl⟩ := r1
 exact ⟨some i, H1, I1, .int i t, q⟩
def SlR (X : Cx) (r : V -> Option Int -> Option Int -> Hp -> VK -> Prop) : Prop :=
 ∀ (pins : List (Addr × Obj)) (s : Shared) (σ : St) (H : Hp) (x : V) (v vl vu : Value) (lo hi : Option Int) (sl : Addr) (Q : VK), Inv X pins σ H s -> RelV x v -> s.heap.IsSliceOf sl vl vu .none -> IsPart vl lo -> IsPart vu hi -> r x lo hi H Q →
  ∃ T id, typeLookup (.type T) "__getitem__" = pure (some (.builtin id)) /\ s.TypeIs v T /\ wpAny (model X.prog X.w) X.A (getItem v (.ref sl)) (EP X pins σ Q) X.xe s
def tSl (r : V -> Option Int -> Option Int -> Hp -> VK -> Prop) (te : TE) (tl th : TO) : TE := fun σ H Q => te σ H fun x H1 => tl σ H1 fun l H2 => th σ H2 fun u H3 => r x l u H3 Q
theorem pe_slice {r : V -> Option Int -> Option Int -> Hp -> VK -> Prop} (hr : SlR X r) (he : PE X e te) (hl : PO X lo tl) (hu : PO X hi th) : PE X (.Subscript e (.Slice lo hi none p2) pos) (tSl r te tl th) := by
 intro pins s σ H Q I h
 refine Subscript_ (thn (he pins s σ H _ I h) fun v s1 ⟨x, H1, I1, r1, q1⟩ => ?_)
 refine wpAny_Slice (thn (hl pins s1 σ H1 _ I1 q1) fun vl s2 ⟨l, H2, I2, pl, q2⟩ => thn (hu pins s2 σ H2 _ I2 q2) fun vu s3 ⟨u, H3, I3, pu, q3⟩ => ?_)
 rw [evalPart_none]
 refine wpAny_pure ?_
 have I4 : Inv X pins σ H3 { s3 with heap := s3.heap.push { cls := .type "slice", data := .fields #[vl, vu, .none] } } := I3.kept (t' := s3.toks) fun b ob q => Heap.get?_push_of_some _ q
 obtain ⟨T, id, hT, ht, hg⟩ := hr pins { s3 with heap := s3.heap.push { cls := .type "slice", data := .fields #[vl, vu, .none] } } σ H3 x v vl vu l u s3.heap.objs.size Q I4 r1 (Heap.IsSliceOf.new ..) pl pu q3
 show wpAny (model X.prog X.w) X.A (subscriptTail e (.Slice lo hi none p2) v (.ref s3.heap.objs.size)) (EP X pins σ Q) X.xe { s3 with heap := s3.heap.push { cls := .type "slice", data := .fields #[vl, vu, .none] } }
 exact tail_any (ops := [.ref s3.heap.objs.size, v]) ht hT hg (by with_unfolding_all rfl)
def cutV (xs : List V) (lo hi : Option Int) : List V := (xs.drop (HT.sIx xs.length 0 lo)).take (HT.sIx xs.length xs.length hi - HT.sIx xs.length 0 lo)
theorem cutV_length (xs : List V) (lo hi : Option Int) : (cutV xs lo hi).length <= xs.length := by
 unfold cutV
 rw [List.length_take, List.length_drop]
 omega
def rSlT (K : PySem.W.Frag) : V -> Option Int -> Option Int -> Hp -> VK -> Prop := fun x lo hi H Q => ∃ a xs, x = .ref a /\ SqT K H a xs ∧
 ¬ (HT.sIx xs.length 0 lo = 0 /\ HT.sIx xs.length xs.length hi = xs.length) /\ ∀ p, H p = none -> Q (.ref p) (upd H p (.tup (cutV xs lo hi)))
theorem sl_tup : SlR X (rSlT X.K) := by
 intro pins s σ H x v vl vu lo hi sl Q I rx hs pl pu h
 obtain ⟨a, xs, rfl, hx, hw, q⟩ := h
 cases rx
 obtain ⟨its, r, ht, hz⟩ := I.tuple hx
 have hlen : its.toArray.size = xs.length := by rw [List.size_toArray]; exact r.length.symm
 refine ⟨"tuple", _, PyProof.Rows.slot_tuple_getitem.lookup, ht.typeIs, ?_⟩
 refine HT.getItem_tuple_cut ht hs pl pu (by rw [hlen]; exact hw) ?_ (by rw [hlen]; exact hz)
 rw [hlen]
 refine ⟨.ref s.heap.objs.size, _, I.laid (t' := s.toks) (o := .tup (cutV xs lo hi)) (fun b ob q => Heap.get?_push_of_some _ q) (Nat.le_refl _) ?_, rfl, q _ (I.hok.fresh (Nat.le_refl _))⟩
 exact ⟨Nat.le_trans (cutV_length xs lo hi) hz, _, (r.drop (HT.sIx xs.length 0 lo)).take (HT.sIx xs.length xs.length hi - HT.sIx xs.length 0 lo), IsTupD.new _ _⟩
def rCatT (K : PySem.W.Frag) : R2 := fun x y H Q => ∃ a b xs ys, x = .ref a /\ y = .ref b /\ SqT K H a xs /\ SqT K H b ys /\ xs ≠ [] /\ xs.length + ys.length <= sizeLine ∧
 (ys = [] -> Q (.ref a) H) /\ (ys ≠ [] -> ∀ p, H p = none -> Q (.ref p) (upd H p (.tup (xs ++ ys))))
theorem Vals.nil_iff {xs : List V} {us : List Value} (r : Vals xs us) : us = [] ↔ xs = [] := by
 cases r with
 | nil => simp
 | cons _ _ => simp
theorem op_catT : OpR X (binaryOp .Add) (rCatT X.K) := by
 intro pins s σ H x y v u Q I rx ry h
 obtain ⟨a, b, xs, ys, rfl, rfl, ha, hb, hx, hz, q1, q2⟩ := h
 cases rx
 cases ry
 obtain ⟨its, r1, p1, _⟩ := I.tuple ha
 obtain ⟨its2, r2, p2, _⟩ := I.tuple hb
 refine HT.cat_tup p1 p2 (fun z => hx (r1.nil_iff.mp z)) (fun z => ⟨.ref a, H, I, rfl, q1 (r2.nil_iff.mp z)⟩) (fun z => ?_) (by rw [<- r1.length, <- r2.length]; exact hz)
 refine ⟨.ref s.heap.objs.size, _, I.laid (t' := s.toks) (o := .tup (xs ++ ys)) (fun b ob q => Heap.get?_push_of_some _ q) (Nat.le_refl _) ?_, rfl, q2 (fun w => z (r2.nil_iff.mpr w)) _ (I.hok.fresh (Nat.le_refl _))⟩
 exact ⟨by rw [List.length_append]; exact hz, _, r1.append r2, IsTupD.new _ _⟩
end
end L2
namespace L2
open PySem PySem.Spec PyProof.Rows
def ixN (n : Nat) (i : Int) : Option Nat := if 0 <= i then (if i < n then some i.toNat else none) else if -(n : Int) <= i then some (i + n).toNat else none
def atI {α : Type} (xs : List α) (i : Int) : Option α := (ixN xs.length i).bind fun j => xs[j]?
theorem ixN_seq {n : Nat} {i : Int} {j : Nat} (h : ixN n i = some j) : seqIndex? i n = some j /\ j < n /\ -(n : Int) <= i /\ i < n := by
 unfold ixN at h
 by_cases h0 : 0 <= i
 ·rw [if_pos h0] at h
  by_cases h1 : i < n
  ·rw [if_pos h1] at h
   have e : i.toNat = j := Option.some.inj h
   exact ⟨by rw [seqIndex_of h0 h1, e], by omega, by omega, h1⟩
  ·rw [if_neg h1] at h; cases h
 ·rw [if_neg h0] at h
  by_cases h1 : -(n : Int) <= i
  ·rw [if_pos h1] at h
   have e : (i + n).toNat = j := Option.some.inj h
   exact ⟨by rw [seqIndex_neg (by omega) h1, e], by omega, h1, by omega⟩
  ·rw [if_neg h1] at h; cases h
theorem atI_get {α : Type} {xs : List α} {i : Int} {v : α} (h : atI xs i = some v) : ∃ j, seqIndex? i xs.length = some j /\ xs[j]? = some v /\ j < xs.length /\ -(xs.length : Int) <= i /\ i < xs.length := by
 unfold atI at h
 cases e : ixN xs.length i with
 | none => rw [e] at h; cases h
 | some j =>
  rw [e] at h
  obtain ⟨h1, h2, h3, h4⟩ := ixN_seq e
  exact ⟨j, h1, h, h2, h3, h4⟩
theorem atI_nat {α : Type} {xs : List α} {j : Nat} {v : α} (h : xs[j]? = some v) : atI xs (j : Int) = some v := by
 have hj : j < xs.length := (List.getElem?_eq_some_iff.mp h).1
 have e : ixN xs.length (j : Int) = some j := by
  unfold ixN
  rw [if_pos (by omega), if_pos (by omega)]; simp
 unfold atI; rw [e]; exact h
def PlainIx (b : Expr) : Prop := ∀ o i, subscripted b false o i = operate [o, i] (getItem o i)
def IxR (X : Cx) (r : R2) : Prop :=
 ∀ (value slice : Expr) (pins : List (Addr × Obj)) (s : Shared) (σ : St) (H : Hp) (x y : V) (v u : Value) (Q : VK), Inv X pins σ H s -> RelV x v -> RelV y u -> r x y H Q →
  subscripted slice false v u = operate [v, u] (getItem v u) -> wpAny (model X.prog X.w) X.A (subscriptTail value slice v u) (EP X pins σ Q) X.xe s
def MtR (X : Cx) (id : String) (r : V -> List V -> Hp -> VK -> Prop) : Prop :=
 ∀ (pins : List (Addr × Obj)) (s : Shared) (σ : St) (H : Hp) (x : V) (xs : List V) (v : Value) (us : List Value) (Q : VK), Inv X pins σ H s -> RelV x v -> Vals xs us -> r x xs H Q →
  wpAny (model X.prog X.w) X.A (call (.builtin id) (v :: us)) (EP X pins σ Q) X.xe s
section
variable {X : Cx} {a b : Expr} {ta tb : TE} {pos : Pos}
theorem pe_ix {r : R2} (hr : IxR X r) (ha : PE X a ta) (hb : PE X b tb) (hs : PlainIx b) : PE X (.Subscript a b pos) (tOp r ta tb) := by
 intro pins s σ H Q I h
 exact Subscript_ (binT ha hb I h fun v u s2 x y H2 I2 rx ry q => hr a b pins s2 σ H2 x y v u Q I2 rx ry q (hs _ _))
def rIxL (K : PySem.W.Frag) : R2 := fun x y H Q => ∃ p xs i v, x = .ref p /\ y = .int i /\ SqL K H p xs /\ atI xs i = some v /\ Q v H
def rIxT (K : PySem.W.Frag) : R2 := fun x y H Q => ∃ p xs i v, x = .ref p /\ y = .int i /\ SqT K H p xs /\ atI xs i = some v /\ Q v H
theorem ix_list : IxR X (rIxL X.K) := by
 intro value slice pins s σ H x y v u Q I rx ry h hs
 obtain ⟨p, xs, i, z, rfl, rfl, hq, he, q⟩ := h
 cases rx
 obtain ⟨t, rfl⟩ := ry
 obtain ⟨its, r, pl, hz⟩ := I.list hq
 obtain ⟨j, h1, h2, h3, h4, h5⟩ := atI_get he
 obtain ⟨w, ew, rw'⟩ := r.get h2
 have hl := r.length
 have hn := line63
 have fin : EP X pins σ Q w s := ⟨z, H, I, rw', q⟩
 by_cases h0 : 0 <= i
 ·have hj : i.toNat = j := by
   rw [seqIndex_of h0 h5] at h1
   exact Option.some.inj h1
  exact item_listR pl.isList h0 (by omega) (by rw [hj]; simpa using ew) fin hs
 ·have hj : (i + (its.toArray.size : Int)).toNat = j := by
   rw [seqIndex_neg (by omega) h4] at h1
   rw [List.size_toArray, <- hl]
   exact Option.some.inj h1
  exact subscriptTail_builtinR (x := w) pl.isList.typeIs slot_list_getitem.lookup
   (wpAny_getItem_list_neg (Q := fun r s' => r = w /\ EP X pins σ Q r s') pl.isList (by omega) (by rw [List.size_toArray] <;> omega) (by omega) (by rw [hj]; simpa using ew) ⟨rfl, fin⟩) hs
theorem ix_tup : IxR X (rIxT X.K) := by
 intro value slice pins s σ H x y v u Q I rx ry h hs
 obtain ⟨p, xs, i, z, rfl, rfl, hq, he, q⟩ := h
 cases rx
 obtain ⟨t, rfl⟩ := ry
 obtain ⟨its, r, pl, hz⟩ := I.tuple hq
 obtain ⟨j, h1, h2, h3, h4, h5⟩ := atI_get he
 obtain ⟨w, ew, rw'⟩ := r.get h2
 have hl := r.length
 have hn := line63
 have fin : EP X pins σ Q w s := ⟨z, H, I, rw', q⟩
 exact subscriptTail_builtinR (x := w) pl.typeIs slot_tuple_getitem.lookup
  (getItem_tuple (j := j) (Q := fun r s' => r = w /\ EP X pins σ Q r s') pl (by omega) (by omega) (by rw [List.size_toArray, <- hl]; exact h1) (by simpa using ew) ⟨rfl, fin⟩) hs
theorem mapSeq_set (its : List Value) (n j : Nat) (u : Value) : Obj.mapSeq (·.setIfInBounds j u) { cls := .type "list", data := .seq its.toArray n } = { cls := .type "list", data := .seq (its.set j u).toArray n } := by
 simp [Obj.mapSeq]
theorem Inv.lst {pins : List (Addr × Obj)} {σ : St} {H : Hp} {s : Shared} {p : Addr} {xs : List V} (I : Inv X pins σ H s) (h : H p = some (.lst xs)) :
  ∃ (its : List Value) (n : Nat), Vals xs its /\ s.heap.get? p = some { cls := .type "list", data := .seq its.toArray n } /\ xs.length <= sizeLine := by
 obtain ⟨z, its, n, r, e⟩ := I.hok p _ h
 exact ⟨its, n, r, e, z⟩
theorem Inv.lstUpd {pins : List (Addr × Obj)} {σ : St} {H : Hp} {s : Shared} {p : Addr} {xs ys : List V} {its its' : List Value} {n n' : Nat} {f : Obj -> Obj} (I : Inv X pins σ H s) (h : H p = some (.lst xs))
  (ho : s.heap.get? p = some { cls := .type "list", data := .seq its.toArray n }) (hf : f { cls := .type "list", data := .seq its.toArray n } = { cls := .type "list", data := .seq its'.toArray n' }) (r : Vals ys its') (hz : ys.length <= sizeLine) (t : Nat) :
  Inv X pins σ (upd H p (.lst ys)) { s with heap := s.heap.update p f, toks := t } := by
 have e : (s.heap.update p f).get? p = some { cls := .type "list", data := .seq its'.toArray n' } := by
  rw [Heap.get?_update_self f ho (by rw [hf] <;> rfl), hf]
 refine I.write (x := p) (e := p) (by rw [h]; trivial) (.inl rfl) (fun b u hb q => (Heap.get?_update_other _ _ (Ne.symm hb)).trans q) ⟨_, e⟩ ?_
 exact ⟨hz, its', n', r, e⟩
def rSetL : V -> V -> V -> Hp -> (Hp -> Prop) -> Prop := fun o i v H Q => ∃ p xs k j, o = .ref p /\ i = .int k /\ H p = some (.lst xs) /\ ixN xs.length k = some j /\ Q (upd H p (.lst (xs.set j v)))
theorem set_list : PSet X rSetL := by
 intro pins s σ H o i v ov iv u Q I ro ri rv h
 obtain ⟨p, xs, k, j, rfl, rfl, hp, hj, q⟩ := h
 cases ro
 obtain ⟨t, rfl⟩ := ri
 obtain ⟨its, n, r, ho, hz⟩ := I.lst hp
 obtain ⟨h1, h2, h3, h4⟩ := ixN_seq hj
 have hl := r.length
 have hn := line63
 have I' : Inv X pins σ (upd H p (.lst (xs.set j v))) { s with heap := s.heap.update p (Obj.mapSeq (·.setIfInBounds j u)) } :=
  I.lstUpd hp ho (mapSeq_set its n j u) (r.set rv j) (by rw [List.length_set]; exact hz) s.toks
 by_cases h0 : 0 <= k
 ·have hk : k.toNat = j := by
   rw [seqIndex_of h0 h4] at h1
   exact Option.some.inj h1
  exact PySem.W.ki_setAt ho h0 (by omega) (by rw [List.size_toArray, <- hl]; exact h4) (by rw [hk]; exact ⟨_, I', q⟩)
 ·have hk : (k + (its.toArray.size : Int)).toNat = j := by
   rw [seqIndex_neg (by omega) h3] at h1
   rw [List.size_toArray, <- hl]
   exact Option.some.inj h1
  exact PySem.W.ki_setBack ho (by omega) (by rw [List.size_toArray, <- hl]; exact h3) (by omega) (by rw [hk]; exact ⟨_, I', q⟩)
theorem slice_bounds (lo hi : Option Int) (n : Nat) : (sliceBounds lo hi none n).1 = ((HT.sIx n 0 lo : Nat) : Int) /\ (sliceBounds lo hi none n).2.1 = ((HT.sIx n n hi : Nat) : Int) /\ (sliceBounds lo hi none n).2.2 = 1 := by
 refine ⟨?_, ?_, rfl⟩
 ·cases lo with
  | none => simp [sliceBounds, HT.sIx]
  | some i =>
   simp only [sliceBounds, HT.sIx, Option.getD_none, show (1 : Int) > 0 by decide, if_true]
   by_cases h : i < 0
   ·simp only [h, if_true] <;> omega
   ·simp only [h, if_false] <;> omega
 ·cases hi with
  | none => simp [sliceBounds, HT.sIx]
  | some i =>
   simp only [sliceBounds, HT.sIx, Option.getD_none, show (1 : Int) > 0 by decide, if_true]
   by_cases h : i < 0
   ·simp only [h, if_true] <;> omega
   ·simp only [h, if_false] <;> omega
theorem slicePick_cut (its : List Value) (lo hi : Option Int) : slicePick its.toArray lo hi none = ((its.drop (HT.sIx its.length 0 lo)).take (HT.sIx its.length its.length hi - HT.sIx its.length 0 lo)).toArray := by
 obtain ⟨h1, h2, h3⟩ := slice_bounds lo hi its.toArray.size
 unfold slicePick
 rw [h1, h2, h3]
 simp only [sliceRange_one, pick_run, List.size_toArray] <;> rfl
def rSlL (K : PySem.W.Frag) : V -> Option Int -> Option Int -> Hp -> VK -> Prop := fun x lo hi H Q => ∃ a xs, x = .ref a /\ SqL K H a xs /\ ∀ p, H p = none -> Q (.ref p) (upd H p (.lst (cutV xs lo hi)))
theorem sl_list : SlR X (rSlL X.K) := by
 intro pins s σ H x v vl vu lo hi sl Q I rx hs pl pu h
 obtain ⟨a, xs, rfl, hx, q⟩ := h
 cases rx
 obtain ⟨its, r, ht, hz⟩ := I.list hx
 have hlen := r.length
 refine ⟨"list", _, slot_list_getitem.lookup, ht.isList.typeIs, ?_⟩
 refine wpAny_getItem_list_slice ht.isList hs pl pu .none (by simp) ?_ (by rw [List.size_toArray] <;> omega)
 rw [slicePick_cut, <- hlen]
 refine ⟨.ref s.heap.objs.size, _, I.laid (t' := s.toks) (o := .lst (cutV xs lo hi)) (fun b ob q => Heap.get?_push_of_some _ q) (Nat.le_refl _) ?_, rfl, q _ (I.hok.fresh (Nat.le_refl _))⟩
 exact ⟨Nat.le_trans (cutV_length xs lo hi) hz, _, 0, (r.drop (HT.sIx xs.length 0 lo)).take (HT.sIx xs.length xs.length hi - HT.sIx xs.length 0 lo), Heap.get?_push_size _ rfl⟩
theorem call_len_seq : CallR X (.builtin "len") (fun xs H Q => ∃ p ys, xs = [.ref p] /\ (SqL X.K H p ys \/ SqT X.K H p ys) /\ Q (.int ys.length) H) := by
 intro pins s σ H xs us Q I r h
 obtain ⟨p, ys, rfl, hq, q⟩ := h
 obtain ⟨u, rfl, rx⟩ := vals1 r
 cases rx
 have hn := line63
 rcases hq with hq | hq
 ·obtain ⟨its, r', pl, hz⟩ := I.list hq
  have hlen := r'.length
  exact Calls.call_len_list pl.isList (by simp only [List.size_toArray] <;> omega) ⟨.int ys.length, H, I.tok _, ⟨s.toks + 1, by rw [List.size_toArray, hlen]⟩, q⟩
 ·obtain ⟨its, r', pl, hz⟩ := I.tuple hq
  have hlen := r'.length
  exact len_tuple pl (by simp only [List.size_toArray] <;> omega) ⟨.int ys.length, H, I.tok _, ⟨s.toks + 1, by rw [List.size_toArray, hlen]⟩, q⟩
theorem call_len_str : CallR X (.builtin "len") (fun xs H Q => ∃ z, xs = [.str z] /\ z.length <= sizeLine /\ Q (.int z.length) H) := by
 intro pins s σ H xs us Q I r h
 obtain ⟨z, rfl, hz, q⟩ := h
 obtain ⟨u, rfl, t, rfl⟩ := vals1 r
 have hn := line63
 exact len_str (by omega) ⟨.int z.length, H, I.tok _, ⟨_, rfl⟩, q⟩
theorem call_list_of : CallR X (.type "list") (fun xs H Q => ∃ p ys, xs = [.ref p] /\ (SqL X.K H p ys \/ SqT X.K H p ys) /\ ∀ l, H l = none -> Q (.ref l) (upd H l (.lst ys))) := by
 intro pins s σ H xs us Q I r h
 obtain ⟨p, ys, rfl, hq, q⟩ := h
 obtain ⟨u, rfl, rx⟩ := vals1 r
 cases rx
 have fin : ∀ (its : List Value), Vals ys its -> ys.length <= sizeLine -> ∀ (h' : Heap) (c' : Nat), (∀ b o', s.heap.get? b = some o' -> h'.get? b = some o') →
   h'.get? s.heap.objs.size = some { cls := .type "list", dict := none, data := .seq its.toArray c', slots := #[] } -> EP X pins σ Q (.ref s.heap.objs.size) { s with heap := h' } := fun its r' hz h' c' kp e =>
  ⟨.ref s.heap.objs.size, _, I.laid (t' := s.toks) kp (Nat.le_refl _) (show ObjOk X.prog X.w _ h' _ (.lst ys) from ⟨hz, its, c', r', e⟩), rfl, q _ (I.hok.fresh (Nat.le_refl _))⟩
 rcases hq with hq | hq
 ·obtain ⟨its, r', pl, hz⟩ := I.list hq
  have hlen := r'.length
  obtain ⟨o, ho, hc, n, hd⟩ := pl.isList
  exact call_list_seq p (.inl rfl) ho hc hd (fun h' c' kp e => fin its r' hz h' c' kp e) (by simp only [List.size_toArray] <;> omega)
 ·obtain ⟨its, r', pl, hz⟩ := I.tuple hq
  have hlen := r'.length
  obtain ⟨o, ho, hc, n, hd⟩ := pl
  exact call_list_seq p (.inr rfl) ho hc hd (fun h' c' kp e => fin its r' hz h' c' kp e) (by simp only [List.size_toArray] <;> omega)
theorem call_tuple_of : CallR X (.type "tuple") (fun xs H Q => ∃ p ys, xs = [.ref p] /\ ((SqL X.K H p ys /\ ∀ l, H l = none -> Q (.ref l) (upd H l (.tup ys))) \/ (SqT X.K H p ys /\ Q (.ref p) H))) := by
 intro pins s σ H xs us Q I r h
 obtain ⟨p, ys, rfl, h⟩ := h
 obtain ⟨u, rfl, rx⟩ := vals1 r
 cases rx
 rcases h with ⟨hq, q⟩ | ⟨hq, q⟩
 ·obtain ⟨its, r', pl, hz⟩ := I.list hq
  have hlen := r'.length
  refine call_tuple_list pl.isList (fun h' kp => ?_) (by simp only [List.size_toArray] <;> omega)
  have I1 : Inv X pins σ H { s with heap := h' } := I.kept (t' := s.toks) kp
  have I2 : Inv X pins σ (upd H h'.objs.size (.tup ys)) { s with heap := h'.push { cls := .type "tuple", data := .seq its.toArray } } :=
   I1.laid (t' := s.toks) (fun b o e => Heap.get?_push_of_some _ e) (Nat.le_refl _) (show ObjOk X.prog X.w _ _ _ (.tup ys) from ⟨hz, its, r', IsTupD.new _ _⟩)
  exact ⟨.ref h'.objs.size, _, I2, rfl, q _ (I1.hok.fresh (Nat.le_refl _))⟩
 ·obtain ⟨its, r', pl, hz⟩ := I.tuple hq
  exact call_tuple_same pl ⟨.ref p, H, I, rfl, q⟩
def tyV (K : PySem.W.Frag) (T : String) (x : V) (H : Hp) : Prop := match x with
 | .str _ => T = "str"
 | .int _ => T = "int"
 | .ref p => (T = "list" /\ ∃ xs, SqL K H p xs) \/ (T = "tuple" /\ ∃ o, K.lookup p = some o /\ o.cls = .type "tuple" /\ o.dict = none) ∨
   (T = "dict" /\ ((∃ kvs, H p = some (.dK kvs)) \/ ∃ kvs, H p = some (.dT kvs))) \/ (T = "set" /\ ∃ S n, H p = some (.set S n))
 | _ => False
theorem tyV_is {pins : List (Addr × Obj)} {σ : St} {H : Hp} {s : Shared} {T : String} {x : V} {v : Value} (I : Inv X pins σ H s) (r : RelV x v) (ty : tyV X.K T x H) :
  s.TypeIs v T /\ ∀ a, v = .ref a -> ∃ ob, s.heap.get? a = some ob /\ ob.dict = none := by
 cases x with
 | str z =>
  obtain ⟨t, rfl⟩ := r
  cases (show T = "str" from ty)
  exact ⟨typeIs_str s z t, fun _ e => nomatch e⟩
 | int i =>
  obtain ⟨t, rfl⟩ := r
  cases (show T = "int" from ty)
  exact ⟨typeIs_int s i t, fun _ e => nomatch e⟩
 | ref p =>
  cases r
  rcases ty with ⟨rfl, xs, hq⟩ | ⟨rfl, o, hk, hc, hd⟩ | ⟨rfl, hk⟩ | ⟨rfl, S, n, hk⟩
  ·obtain ⟨its, _, pl, _⟩ := I.list hq
   refine ⟨pl.isList.typeIs, fun a e => ?_⟩
   cases e
   obtain ⟨o, n, e, c, hd, _⟩ := pl
   exact ⟨o, e, hd⟩
  ·refine ⟨⟨o, I.kIn p o hk, hc⟩, fun a e => ?_⟩
   cases e
   exact ⟨o, I.kIn _ o hk, hd⟩
  ·have z : ∃ o, s.heap.get? p = some o /\ o.ExactDict := by
    rcases hk with ⟨kvs, hk⟩ | ⟨kvs, hk⟩
    ·obtain ⟨_, _, _, _, o, _, _, e, ex, _⟩ := I.hok p _ hk
     exact ⟨o, e, ex⟩
    ·obtain ⟨_, _, _, _, o, _, _, e, ex, _⟩ := I.hok p _ hk
     exact ⟨o, e, ex⟩
   obtain ⟨o, e, ex⟩ := z
   refine ⟨⟨o, e, ex.1⟩, fun a e2 => ?_⟩
   cases e2
   exact ⟨o, e, ex.2.1⟩
  ·obtain ⟨o, _, _, _, e, ex, _⟩ := I.hok p _ hk
   refine ⟨⟨o, e, ex.1⟩, fun a e2 => ?_⟩
   cases e2
   exact ⟨o, e, ex.2.1⟩
 | _ => exact False.elim ty
def tBM (K : PySem.W.Frag) (T : String) (r : V -> List V -> Hp -> VK -> Prop) (to : TE) (t : TA) : TE := fun σ H Q => to σ H fun x H1 => tyV K T x H1 /\ t σ H1 fun xs H2 => r x xs H2 Q
variable {o e : Expr} {es : List Expr} {to : TE} {t : TA} {name : Str} {apos cpos : Pos} {T id : String} {r : V -> List V -> Hp -> VK -> Prop}
theorem pe_bm (pa : PlainAttrs T) (slot : Slot T name id) (hty : typeOf (.builtin id) = pure (.type "method_descriptor")) (hm : MtR X id r) (ho : PE X o to) (ha : PA X (e :: es) t)
  (hbase : attributeBase o name X.env (eval o X.env) = eval o X.env := by rfl)
  (hfew : ((backTo cpos (starEach (e :: es) X.env)).all (fun x => !x.1) && (backToKw cpos (keywordEach [] X.env)).all (fun x => x.1.isSome)
   && decide ((e :: es).length + ([] : List Keyword).length + (if ([] : List Keyword).isEmpty then 0 else 1) < 30)) = true := by rfl)
  (hline : (apos.endLine == cpos.line) = true := by rfl) (hs : starEach (e :: es) X.env = (false, eval e X.env) :: starEach es X.env := by rfl) (hplain : (backTo cpos (starEach es X.env)).any (·.1) = false := by rfl) :
  PE X (.Call (.Attribute o name apos) (e :: es) [] cpos) (tBM X.K T r to t) := by
 intro pins s σ H Q I h
 refine wpAny_Call_method_late hbase hfew hline rfl (thn (ho pins s σ H _ I h) fun v s1 ⟨x, H1, I1, r1, ty, q1⟩ => ?_)
 obtain ⟨h1, h2⟩ := tyV_is I1 r1 ty
 refine ⟨T, id, pa, slot, hty, h1, h2, ?_⟩
 have hA := ha cpos pins s1 σ H1 _ I1 q1
 rw [hs] at hA ⊢
 refine Calls.callWith_builtin (by show (false || (backTo cpos (starEach es X.env)).any (·.1)) = false; rw [hplain] <;> rfl) (Calls.evalArgs_plain ?_)
 exact thn hA fun us s2 ⟨vs, H2, I2, r2, q2⟩ => hm pins s2 σ H2 x vs v us Q I2 r1 r2 q2
end
end L2
namespace L2
open PySem PySem.Spec PyProof.Rows
def MtM (X : Cx) (id : String) (r : V -> List V -> Hp -> VK -> Prop) : Prop :=
 ∀ (pins : List (Addr × Obj)) (s : Shared) (σ : St) (H : Hp) (x : V) (xs : List V) (v : Value) (us : List Value) (Q : VK), Inv X pins σ H s -> RelV x v -> Vals xs us -> r x xs H Q →
  wpAny (model X.prog X.w) X.A (call (.builtin id) (v :: us)) (EP X pins σ Q) X.xe s
theorem Vals.one : ∀ {x : V} {us : List Value}, Vals [x] us -> ∃ u, us = [u] /\ RelV x u
 | _, _, .cons r .nil => ⟨_, rfl, r⟩
section
variable {X : Cx} {pins : List (Addr × Obj)} {σ : St} {H : Hp} {s : Shared} {l b : Addr} {xs ys zs : List V}
theorem Inv.lset {its its' : List Value} {n : Nat} {f : Array Value -> Array Value} {t' : Nat} (I : Inv X pins σ H s) (hH : H l = some (.lst xs))
  (e : s.heap.get? l = some { cls := .type "list", data := .seq its.toArray n }) (hf : f its.toArray = its'.toArray) (hv : Vals ys its') (hz : ys.length <= sizeLine) :
  Inv X pins σ (upd H l (.lst ys)) { s with heap := s.heap.update l (Obj.mapSeq f), toks := t' } := by
 have q := PySem.IsL.update e f
 rw [hf] at q
 refine I.write (x := l) (e := l) (by rw [hH]; exact trivial) (.inl rfl) (fun b' u hb hu => (Heap.get?_update_other s.heap (Obj.mapSeq f) (Ne.symm hb)).trans hu) ⟨_, q⟩ ?_
 exact ⟨hz, its', _, hv, q⟩
theorem Inv.lnew {its : List Value} {t' : Nat} (I : Inv X pins σ H s) (hv : Vals ys its) (hz : ys.length <= sizeLine) :
  Inv X pins σ (upd H s.heap.objs.size (.lst ys)) { s with heap := s.heap.push { cls := .type "list", data := .seq its.toArray }, toks := t' } :=
 I.laid (fun _ _ q => Heap.get?_push_of_some _ q) (Nat.le_refl _) ⟨hz, its, 0, hv, Heap.get?_push_size _ rfl⟩
theorem Inv.fresh (I : Inv X pins σ H s) : H s.heap.objs.size = none := I.hok.fresh (Nat.le_refl _)
theorem Inv.lstM (I : Inv X pins σ H s) (hH : H l = some (.lst xs)) : xs.length <= sizeLine /\ ∃ (its : List Value) (n : Nat), Vals xs its /\ xs.length = its.length /\ s.heap.get? l = some { cls := .type "list", data := .seq its.toArray n } := by
 obtain ⟨z, its, n, r, e⟩ := I.hok l _ hH
 exact ⟨z, its, n, r, r.length, e⟩
theorem notLongL {n : Nat} (h : n <= sizeLine) : Builtin.List.listTooLong n = false := by
 unfold Builtin.List.listTooLong
 exact decide_eq_false (by omega)
end
section
variable {X : Cx}
def rAppend : V -> List V -> Hp -> VK -> Prop := fun x vs H Q => ∃ l xs y, x = .ref l /\ vs = [y] /\ H l = some (.lst xs) /\ xs.length < sizeLine /\ Q .non (upd H l (.lst (xs ++ [y])))
theorem mt_append : MtM X "list.append" rAppend := by
 intro pins s σ H x vs v us Q I rx rv h
 obtain ⟨l, xs, y, rfl, rfl, hH, hz, q⟩ := h
 cases rx
 obtain ⟨u, rfl, ru⟩ := rv.one
 obtain ⟨z, its, n, r, hl, e⟩ := I.lstM hH
 refine call_meets F.slot_list_append ⟨_, e, rfl⟩ F.entry_list_append (F.args_list_append_2 _ _) (PySem.list_append l its.toArray n u (by rw [List.size_toArray]; omega)) ⟨e, ?_⟩
 refine ⟨.non, _, I.lset (its' := its ++ [u]) hH e (by simp) (r.append (.cons ru .nil)) ?_, rfl, q⟩
 rw [List.length_append, List.length_singleton]
 omega
def rExtend : V -> List V -> Hp -> VK -> Prop := fun x vs H Q => ∃ l b xs zs, x = .ref l /\ vs = [.ref b] /\ H l = some (.lst xs) /\ H b = some (.lst zs) /\ xs.length + zs.length <= sizeLine /\ Q .non (upd H l (.lst (xs ++ zs)))
theorem mt_extend : MtM X "list.extend" rExtend := by
 intro pins s σ H x vs v us Q I rx rv h
 obtain ⟨l, b, xs, zs, rfl, rfl, hH, hB, hz, q⟩ := h
 cases rx
 obtain ⟨u, rfl, ru⟩ := rv.one
 cases ru
 obtain ⟨z, its, n, r, hl, e⟩ := I.lstM hH
 obtain ⟨z2, its2, n2, r2, hl2, e2⟩ := I.lstM hB
 have hsz : its.toArray.size + its2.toArray.size <= sizeLine := by rw [List.size_toArray, List.size_toArray]; omega
 have hlong : ¬ (!its.toArray.isEmpty && Builtin.List.listTooLong (its.toArray.size + its2.toArray.size)) = true := by
  rw [notLongL hsz, Bool.and_false]
  exact Bool.false_ne_true
 refine call_meets F.slot_list_extend ⟨_, e, rfl⟩ F.entry_list_extend (F.args_list_extend_2 _ _)
  (AutoSeq1.list_extend_list_list_0 l its.toArray n b its2.toArray n2 hlong (by rw [List.size_toArray]; omega) (by omega)) ⟨e, e2, ?_⟩
 refine ⟨.non, _, I.lset (its' := its ++ its2) hH e (by simp) (r.append r2) ?_, rfl, q⟩
 rw [List.length_append]
 omega
end
section
variable {prog : Program} {w : World} {A : Around} {E : Value -> Shared -> Prop} {s : Shared}
end
section
variable {X : Cx}
end
end L2
namespace Att
open PySem PySem.W PySem.Calls PyProof.Rows
theorem ints_of_wellAll {P : Params} {h : Heap} : ∀ (ns : List Int) (vs : List Value), WellAll P h vs (ns.map WData.int) -> IntsAre vs ns := by
 intro ns
 induction ns with
 | nil =>
  intro vs w
  rw [List.map_nil] at w
  cases w
  exact .nil
 | cons n ns ih =>
  intro vs w
  rw [List.map_cons] at w
  cases w with
  | cons a b =>
   cases a
   exact .cons _ _ (ih _ b)
theorem script_of {l : OpenLaw} {n : Nat} (hn : l.most = some n) {P : Params} {h : Heap} {args : List WData} {vals : List Value}
  (hpre : l.row.toRowW.claim.pre args = true) (hwl : WellAll P h vals args) :
  ∃ a vs ns, vals = [Value.ref a] /\ args = [WData.list (ns.map WData.int)] /\ h.get? a = some { cls := .type "list", data := .seq vs.toArray } /\ IntsAre vs ns /\ ns.length <= n := by
 have hsh : WShape.hasAll [] args [.list .int] = true := (pre_splitW hpre).1
 have hc : l.pre.holds [] { args := args } = true := (pre_splitW hpre).2
 obtain ⟨d, r, rfl, h1, h2⟩ := hasAllW_cons hsh
 obtain rfl := hasAllW_nil h2
 obtain ⟨xs, rfl, h3⟩ := hasW_list h1
 obtain ⟨ns, rfl⟩ := items_int h3
 have hlen : ns.length <= n := by
  unfold OpenLaw.pre at hc
  have h4 : (WTm.not (.lt (.lit (.int (n : Int))) (.len (.arg 0)))).holds [] { args := [.list (ns.map .int)] } = true := by
   have h4 := (holds_andW hc).1
   rw [hn] at h4
   exact h4
  have h5 := condW_of h4 (w_not (w_lt w_lit (w_len_list (w_arg rfl))))
  rw [List.length_map] at h5
  refine Nat.le_of_not_lt fun q => ?_
  have q' : (n : Int) < ((ns.length : Nat) : Int) := by omega
  first
   | (rw [decide_eq_true q'] at h5; exact absurd h5 (by decide))
   | (simp at h5; omega)
 cases hwl with
 | cons w1 w2 =>
  cases w2
  cases w1 with
  | list ho hall => exact ⟨_, _, ns, rfl, rfl, ho, ints_of_wellAll ns _ hall, hlen⟩
theorem post_true (l : OpenLaw) (args : List WData) : l.row.toRowW.claim.post args (.bool true) args = true :=
 postW_of (r := l.row.toRowW) (X := (true == true))
  (show WShape.has [] (.bool true) .bool = true by first | rfl | decide | simp [WShape.has, WShape.arms, WShape.armsAll])
  (show (WTm.eq .res (.lit (.bool true))).value [] { args := args, res := some (.bool true), after := args } = some (.bool (true == true)) from w_eq_bool (w_res rfl) w_lit) rfl
theorem attach_call {l : OpenLaw} {n : Nat} {q : Program} {loose : List Str} {XP : (Str -> Option Value) -> Heap -> Prop} {YP : World -> Heap -> Prop} {d : DefRec}
  (hn : l.most = some n) (hdf : d.params.defaults = [])
  (call : ∀ (w : World) (s₀ s₁ : Shared) (mg mb : Str -> Option Value) (fa : Addr) (o : Obj) (pm cd doc : Value) (a : Addr) (vs : List Value) (ns : List Int),
   Ground q loose [] XP w s₀ mg mb s₁.heap -> YP w s₁.heap →
   s₁.heap.get? fa = some o -> o.data = .func (docDef d.name d.params d.body d.scope pm cd doc) -> s₁.heap.CodeRec cd d.name -> mg d.name = some (.ref fa) →
   s₁.heap.get? a = some { cls := .type "list", data := .seq vs.toArray } -> IntsAre vs ns -> ns.length <= n -> s₁.gens = #[] →
   codeAny (model l.prog w) callerA (.call (.ref fa) ⟨[.ref a], []⟩) (fun r s' => r = .ok (.ret (.bool true)) /\ OldK s₁.heap s'.heap /\ s'.os = s₁.os /\ AllBare s'.gens) s₁) :
  WalkO q loose XP YP l.row.toRowW d [] (fun f vs => PySem.call f vs) := by
 intro w s₀ s₁ mg mb G Y fa o pm cd doc dV kV ho hd hcd hD hmg hg args vals as hpre hlay hrd hwl hlo
 obtain rfl : dV = .none := Dflts.none hD hdf
 obtain rfl : kV = .none := Dflts.noKw hD
 obtain ⟨a, vs, ns, rfl, rfl, hobj, hints, hlen⟩ := script_of hn hpre hwl
 refine enter_call (codeAny_mono (call w s₀ s₁ mg mb fa o pm cd doc a vs ns G Y ho (fd_plain hd) hcd hmg hobj hints hlen hg) fun r s' hq => ?_)
 obtain ⟨rfl, h2, h3, h4⟩ := hq
 exact ⟨.inl ⟨.bool true, .bool true, [], rfl, fun _ => rfl, .bool true, post_true l _, fun _ => ⟨List.Pairwise.nil, fun _ hm => (nomatch hm)⟩⟩, h2, h3, h4⟩
section
variable {prog : Program} {w : World} {A : Around} {E : Value -> Shared -> Prop} {s : Shared} {K : Frag}
def ledger (h : Heap) (L d : Addr) : List (Addr × Obj) := (List.range h.objs.size).filterMap fun a => if a = L \/ a = d then none else (h.get? a).map fun o => (a, o)
end
end Att
namespace L2
open PySem PySem.Spec PyProof.Rows
theorem vals_ints : ∀ {vs : List Value} {ns : List Int}, IntsAre vs ns -> Vals (ns.map V.int) vs
 | _, _, .nil => .nil
 | _, _, .cons n t h => .cons ⟨t, rfl⟩ (vals_ints h)
def Only (H : Hp) : Prop := ∀ b, H b = none \/ ∃ o xs, H b = some (.frz o (.lst xs))
theorem law_call {P : Program} {w : World} {K : PySem.W.Frag} {mg mb : Str -> Option Value} {CX : CXT} {k : Nat} {fa a : Addr} {fd : FuncData} {x : Str} {sp : Sp} {s₁ : Shared} {vs : List Value} {ns : List Int}
  (KX : K.In s₁.heap) (hns : s₁.heap.Ns mainGlobals mg) (hb : s₁.heap.Ns builtinsNs mb) (hbb : ∀ x : Str, x ≠ "__name__" -> mb x = bootBuiltins x) (hlim : s₁.heap.NoLimit) (hg : s₁.gens = #[])
  (ha : s₁.heap.get? a = some { cls := .type "list", data := .seq vs.toArray }) (hi : IntsAre vs ns) (hl : ns.length <= sizeLine) (hr : Room k callerA)
  (F : ∀ base : Heap, K.In base -> base.Ns mainGlobals mg -> FnOk P w K mg base CX k fa fd [x] sp) (hbind : ∀ (s : Shared) (u : Value), BindsTo s fd ⟨[u], []⟩ [(x, u)])
  (hsp : ∀ H : Hp, Only H -> SqL K H a (ns.map V.int) -> sp [.ref a] H (fun v _ => v = .bl true) fun _ _ _ => False)
  (hCX : ∀ H e s', CX [] H s₁ (fun _ _ _ => False) e s' -> False) :
  codeAny (model P w) callerA (.call (.ref fa) ⟨[.ref a], []⟩) (fun r s' => r = .ok (.ret (.bool true)) /\ OldK s₁.heap s'.heap /\ s'.os = s₁.os /\ AllBare s'.gens) s₁ := by
 have rv := vals_ints hi
 have lenV := hi.length
 have core : ∀ H : Hp, Only H -> SqL K H a (ns.map V.int) -> HOk P w H s₁.heap -> (∀ b, H b ≠ none -> b = a) -> (H a ≠ none -> K.lookup a = none) →
   codeAny (model P w) callerA (.call (.ref fa) ⟨[.ref a], []⟩) (fun r s' => r = .ok (.ret (.bool true)) /\ OldK s₁.heap s'.heap /\ s'.os = s₁.os /\ AllBare s'.gens) s₁ := by
  intro H hO hS hok hA hK
  have base_of : ∀ {b : Addr} {o : Obj}, s₁.heap.get? b = some o -> H b = none -> (hidT s₁.heap H).get? b = some o := fun e n => hidT_get e n
  have noA : ∀ {b : Addr} {o : Obj} {es : Array DictEntry} {ep : Nat}, s₁.heap.get? b = some o -> o.data = .dict es ep -> H b = none := fun {b o es ep} e d => by
   cases q : H b with
   | none => rfl
   | some u =>
    have e' : b = a := hA b (by rw [q]; simp)
    subst e'
    rw [ha] at e; cases e
    have d' : Data.seq vs.toArray _ = Data.dict es ep := d
    cases d'
  have nsK : ∀ {b : Addr} {m : Str -> Option Value}, s₁.heap.Ns b m -> (hidT s₁.heap H).Ns b m := fun {b m} ⟨o, es, ep, e, d, r⟩ => ⟨o, es, ep, base_of e (noA e d), d, r⟩
  have hKb : K.In (hidT s₁.heap H) := fun b o e => base_of (KX b o e) (by
   cases q : H b with
   | none => rfl
   | some u =>
    have e' : b = a := hA b (by rw [q]; simp)
    subst e'
    rw [hK (by rw [q]; simp)] at e; cases e)
  have hM : Mod K mg (hidT s₁.heap H) := ⟨hKb, nsK hns, ⟨mb, nsK hb, hbb⟩, let ⟨mc, h1, h2⟩ := hlim; ⟨mc, nsK h1, h2⟩⟩
  have e0 : Env0 P w K mg (hidT s₁.heap H) callerA [] s₁ H := ⟨rfl, hM, fun b o e => of_hidT e, Nat.le_of_eq (hidT_size _ _), trivial, fun b hb => absurd (show b ∈ ([] : List Addr) from hb) (by simp), hok, .of_eq hg⟩
  refine codeAny_mono ((F _ hKb (nsK hns)).run callerA [] s₁ H ⟨[.ref a], []⟩ [.ref a] [.ref a] _ _ hr e0 (hbind s₁ (.ref a)) (.cons rfl .nil) (hsp H hO hS)) fun r s' h => ?_
  cases r with
  | error e => exact (hCX H e s' h).elim
  | ok fl =>
   cases fl with
   | next => exact False.elim h
   | brk => exact False.elim h
   | cont => exact False.elim h
   | ret u =>
    obtain ⟨v, H', os, bare, un, hok', r', q⟩ := h
    have q' : v = .bl true := q
    subst q'
    obtain rfl : u = Value.bool true := r'
    refine ⟨rfl, OldK.of_keep fun b o e => ?_, os, bare⟩
    cases q : H b with
    | none => exact un.keep b o e q (by intro z; exact absurd (show b ∈ ([] : List Addr) from z) (by simp)) (by simp)
    | some u =>
     rcases hO b with z | ⟨ob, xs, z⟩
     ·rw [q] at z; cases z
     ·have z2 := un.frzs b ob _ z
      obtain ⟨e1, _⟩ := hok b _ z
      obtain ⟨e2, _⟩ := hok' b _ z2
      rw [e] at e1; cases e1
      exact e2
 cases hk : K.lookup a with
 | some o =>
  have e := KX a o hk
  rw [ha] at e
  cases e
  refine core (fun _ => none) (fun _ => .inl rfl) (.inr ⟨_, vs.toArray, _, hk, rfl, rfl, rfl, by rw [List.size_toArray, lenV]; exact hl, by simpa using rv⟩) (fun b u z => by have z' : (none : Option HO) = some u := z; cases z') (fun b z => absurd rfl z) fun z => absurd rfl z
 | none =>
  refine core (fun b => if b = a then some (.frz { cls := .type "list", data := .seq vs.toArray } (.lst (ns.map V.int))) else none) (fun b => ?_) (.inl (.inr ⟨{ cls := .type "list", data := .seq vs.toArray }, if_pos rfl⟩)) (fun b u z => ?_) (fun b z => ?_) fun _ => hk
  ·by_cases hb : b = a
   ·exact .inr ⟨_, _, if_pos hb⟩
   ·exact .inl (if_neg hb)
  ·by_cases hb : b = a
   ·have z' := (if_pos hb).symm.trans z
    cases z'
    subst hb
    exact ⟨ha, by rw [List.length_map]; exact hl, vs, _, rv, ha⟩
   ·have z' := (if_neg hb).symm.trans z
    cases z'
  ·by_cases hb : b = a
   ·exact hb
   ·exact absurd (if_neg hb) z
end L2
namespace L2
open PySem PySem.Spec PyProof.Rows
theorem walk_of {l : PySem.W.OpenLaw} {n k : Nat} {q : Program} {loose : List Str} {XP : (Str -> Option Value) -> Heap -> Prop} {YP : World -> Heap -> Prop} {d : DefRec} {K : Params -> PySem.W.Frag} {CX : World -> CXT} {sp : World -> Sp} {x : Str}
  (hn : l.most = some n) (hn2 : n <= sizeLine) (hdf : d.params.defaults = []) (hr : Room k callerA)
  (hY : ∀ (w : World) (h : Heap), YP w h -> (K w.params).In h)
  (F : ∀ (w : World) (mg : Str -> Option Value) (fa : Addr) (h : Heap), (K w.params).In h -> h.Ns mainGlobals mg -> mg d.name = some (.ref fa) →
   ∃ fd : FuncData, (∀ (s : Shared) (u : Value), BindsTo s fd ⟨[u], []⟩ [(x, u)]) ∧
    ∀ base : Heap, (K w.params).In base -> base.Ns mainGlobals mg -> FnOk l.prog w (K w.params) mg base (CX w) k fa fd [x] (sp w))
  (hsp : ∀ (w : World) (H : Hp) (a : Addr) (ns : List Int), ns.length <= n -> Only H -> SqL (K w.params) H a (ns.map V.int) -> sp w [.ref a] H (fun v _ => v = .bl true) fun _ _ _ => False)
  (hCX : ∀ (w : World) (H : Hp) (s : Shared) (e : Value) (s' : Shared), CX w [] H s (fun _ _ _ => False) e s' -> False) :
  PySem.W.WalkO q loose XP YP l.row.toRowW d [] (fun f vs => PySem.call f vs) := by
 refine Att.attach_call hn hdf fun w s₀ s₁ mg mb fa o pm cd doc a vs ns G Y ho hd hcd hmg hobj hints hlen hg => ?_
 have KX := hY w _ Y
 obtain ⟨fd, hb, hF⟩ := F w mg fa _ KX G.T.g hmg
 exact law_call KX G.T.g G.T.b G.T.builtins G.T.nolimit hg hobj hints (Nat.le_trans hlen hn2) hr hF hb (fun H hO hS => hsp w H a ns hlen hO hS) fun H e s' => hCX w H s₁ e s'
end L2
namespace L2
open PySem PySem.Spec PyProof.Rows
def defArgs (s : Stmt) : Arguments := match s with
 | .FunctionDef _ a _ _ _ _ _ _ _ _ => a
 | _ => { posonlyargs := [], args := [], vararg := none, kwonlyargs := [], kw_defaults := [], kwarg := none, defaults := [] }
def defBody (s : Stmt) : List Stmt := match s with
 | .FunctionDef _ _ b _ _ _ _ _ _ _ => b
 | _ => []
def defScope (s : Stmt) : Scope := match s with
 | .FunctionDef _ _ _ _ _ _ sc _ _ _ => sc
 | _ => { kind := .function, names := [], isGenerator := false, isCoroutine := false }
abbrev CX0 : CXT := fun _ _ _ _ _ _ => False
abbrev E0 : XK := fun _ _ _ => False
theorem pass0 {X : Cx} : Passes CX0 X E0 := fun _ _ _ _ _ _ _ h => h.elim
structure Fun (K : PySem.W.Frag) (x qual : Str) (st : Stmt) (f : Addr) (fd : FuncData) : Prop where
 ex : ∃ (oc : Value) (od : Option Addr) (kV doc pm : Value) (an : Option Addr) (cdv ct : Value) (osl : Array (Option Value)),
  fd = PySem.W.fnOf x qual (defArgs st) (defBody st) (defScope st) .none kV doc pm an cdv ct /\ K.lookup f = some ⟨oc, od, .func fd, osl⟩ /\ PySem.W.codeIn K cdv qual = true
 kp : PySem.W.keepIn K (.ref f) = true
section
variable {P : Program} {w : World} {K : PySem.W.Frag} {mg : Str -> Option Value} {base : Heap}
theorem Fun.ok {x qual : Str} {st : Stmt} {f : Addr} {fd : FuncData} {N ps : List Str} {k : Nat} {sp : Sp} (F : Fun K x qual st f fd) (S : FnScope N ps (defScope st)) (len : ∀ vs H Q E, sp vs H Q E -> vs.length = ps.length)
  (hbody : ∀ (cdv : Value) (A : Around) (outer : List Env) (s : Shared) (H : Hp) (vs : List V) (Q : VK) (E : XK), Room k (A.deeper (envOfC qual (defScope st) s.heap.objs.size f cdv)) -> sp vs H Q E →
   ∃ t, PSs (cxOf CX0 P w K mg base N qual (defScope st) f cdv A outer s H E).nox (defBody st) t /\ t { nx := fun _ H' => Q .non H', rt := Q } (start N vs) H) : FnOk P w K mg base CX0 (k + 1) f fd ps sp := by
 obtain ⟨oc, od, kV, doc, pm, an, cdv, ct, osl, rfl, lk, hcd⟩ := F.ex
 refine fn_of lk hcd S len fun A outer s H vs Q E hr hsp => ?_
 obtain ⟨t, h, q⟩ := hbody cdv A outer s H vs Q E hr hsp
 exact ⟨t, h.nox, q⟩
theorem Fun.binds {x qual : Str} {st : Stmt} {f : Addr} {fd : FuncData} {ps : List Str} (F : Fun K x qual st f fd)
  (h : ∀ (kV doc pm : Value) (an : Option Addr) (cdv ct : Value) (us : List Value), us.length = ps.length -> bindArgs (PySem.W.fnOf x qual (defArgs st) (defBody st) (defScope st) .none kV doc pm an cdv ct) ⟨us, []⟩ = pure (ps.zip us)) : Binds K fd ps [] := by
 obtain ⟨oc, od, kV, doc, pm, an, cdv, ct, osl, rfl, lk, hcd⟩ := F.ex
 exact .all (h kV doc pm an cdv ct)
theorem fun_mk {x qual : Str} {st : Stmt} {f : Addr} {oc : Value} {od an : Option Addr} {osl : Array (Option Value)} {kV doc pm cdv ct : Value} (l : K.lookup f = some ⟨oc, od, .func (PySem.W.fnOf x qual (defArgs st) (defBody st) (defScope st) .none kV doc pm an cdv ct), osl⟩)
  (c : PySem.W.codeIn K cdv qual = true) (k : PySem.W.keepIn K (.ref f) = true) : Fun K x qual st f (PySem.W.fnOf x qual (defArgs st) (defBody st) (defScope st) .none kV doc pm an cdv ct) := ⟨⟨oc, od, kV, doc, pm, an, cdv, ct, osl, rfl, l, c⟩, k⟩
end
theorem small1000 {n : Nat} (h : n <= 1000) : n < sizeLine := Nat.lt_of_le_of_lt h (by decide)
section
variable {X : Cx}
theorem pv (i : Nat) {x : Str} {pos : Pos} (hN : X.N[i]? = some x := by rfl) (hv : Vis X.env.scope x := by first | exact Or.inl rfl | exact Or.inr (Or.inl rfl) | exact Or.inr (Or.inr rfl)) (hd : (x == ("__debug__" : Str)) = false := by decide)
  (hcd : (x == ("__classdict__" : Str)) = false := by decide) : PE X (.Name x pos) (tVar i) := pe_var hN hv hd hcd
end
theorem iteF {A B : Prop} (h : B) : if false = true then A else B := by
 rw [if_neg Bool.false_ne_true]
 exact h
theorem iteT {A B : Prop} (h : A) : if true = true then A else B := by
 rw [if_pos rfl]
 exact h
theorem ite2 {c A B : Prop} [Decidable c] (h1 : c -> A) (h2 : ¬ c -> B) : if c then A else B := by
 by_cases h : c
 ·rw [if_pos h]
  exact h1 h
 ·rw [if_neg h]
  exact h2 h
def Same (H H' : Hp) : Prop := ∀ b o, H b = some o -> H' b = some o
theorem Same.refl (H : Hp) : Same H H := fun _ _ h => h
theorem Same.trans {H H1 H2 : Hp} (a : Same H H1) (b : Same H1 H2) : Same H H2 := fun c o h => b c o (a c o h)
theorem Same.free {H H' : Hp} (e : Same H H') {l : Addr} (h : H' l = Option.none) : H l = Option.none := by
 cases q : H l with
 | none => rfl
 | some o =>
  rw [e l o q] at h
  cases h
end L2
set_option Elab.async false
set_option linter.all false
set_option maxRecDepth 100000
set_option maxHeartbeats 4000000
namespace L2
open PySem PySem.Spec PyProof.Rows
def compB (on : List (Str × NameKind)) (N : List Str) (sc : Scope) (N' : List Str) (ix : List (Option Nat)) : Bool :=
 decide (sc.kind = .function) &&
 sc.names.all (fun y => match y.2 with
  | .local => decide (sc.names.lookup y.1 = some .local)
  | .cell => false
  | .free => decide (on.lookup y.1 = some .cell) || decide (on.lookup y.1 = some .free)
  | _ => true) &&
 decide (ix.length = N'.length) &&
 (ix.zip N').all (fun p => match p.1 with
  | none => true
  | some j => decide (N[j]? = some p.2) && decide (sc.names.lookup p.2 = some .free))
theorem mem_of_look {ns : List (Str × NameKind)} {y : Str} {k : NameKind} (h : ns.lookup y = some k) : (y, k) ∈ ns := PySem.mem_of_lookup h
structure CompOk (on : List (Str × NameKind)) (N : List Str) (sc : Scope) (N' : List Str) (ix : List (Option Nat)) : Prop where
 kind : sc.kind = .function
 locs : ∀ y ∈ sc.names, y.2 = .local -> sc.names.lookup y.1 = some .local
 nocell : ∀ y ∈ sc.names, y.2 ≠ .cell
 frees : ∀ y ∈ sc.names, y.2 = .free -> on.lookup y.1 = some .cell \/ on.lookup y.1 = some .free
 len : ix.length = N'.length
 slot : ∀ (i j : Nat) (y : Str), ix[i]? = some (some j) -> N'[i]? = some y -> N[j]? = some y /\ sc.names.lookup y = some .free
theorem CompOk.of {on : List (Str × NameKind)} {N : List Str} {sc : Scope} {N' : List Str} {ix : List (Option Nat)} (h : compB on N sc N' ix = true) : CompOk on N sc N' ix := by
 unfold compB at h
 rw [Bool.and_eq_true, Bool.and_eq_true, Bool.and_eq_true] at h
 obtain ⟨⟨⟨h1, h2⟩, h3⟩, h4⟩ := h
 rw [List.all_eq_true] at h2 h4
 refine ⟨of_decide_eq_true h1, fun y hy e => ?_, fun y hy e => ?_, fun y hy e => ?_, of_decide_eq_true h3, fun i j y e1 e2 => ?_⟩
 ·have q := h2 y hy
  rw [e] at q
  exact of_decide_eq_true q
 ·have q := h2 y hy
  rw [e] at q
  cases q
 ·have q := h2 y hy
  rw [e] at q
  exact ((Bool.or_eq_true _ _).mp q).imp of_decide_eq_true of_decide_eq_true
 ·have q := h4 (some j, y) (List.mem_of_getElem? (i := i) (by rw [List.getElem?_zip_eq_some]; exact ⟨e1, e2⟩))
  dsimp only at q
  rw [Bool.and_eq_true] at q
  exact ⟨of_decide_eq_true q.1, of_decide_eq_true q.2⟩
theorem forIn_folds {α β : Type} (f : α -> β -> β) (b : α -> β -> Sem (ForInStep β)) : ∀ (l : List α) (c : β), (∀ x ∈ l, ∀ d, b x d = pure (.yield (f x d))) -> forIn l c b = pure (l.foldl (fun d x => f x d) c)
 | [], c, _ => rfl
 | x :: l, c, h => by
  rw [List.forIn_cons, h x List.mem_cons_self, pure_bind]
  exact forIn_folds f b l (f x c) fun y hy => h y (List.mem_cons_of_mem _ hy)
def cellsFor (env : Env) (l : List (Str × NameKind)) (c : List (Str × Addr)) : List (Str × Addr) :=
 l.foldl (fun d y => if y.2 = .free then (y.1, (env.cells.lookup y.1).getD 0) :: d else d) c
theorem closure_eq {sc : Scope} {env : Env} (h : ∀ y ∈ sc.names, y.2 = .free -> ∃ c, env.cells.lookup y.1 = some c) : closureFor sc env = pure (cellsFor env sc.names []) := by
 simp only [closureFor]
 unfold cellsFor
 rw [forIn_folds (fun y d => if y.2 = .free then (y.1, (env.cells.lookup y.1).getD 0) :: d else d)]
 ·rfl
 ·rintro ⟨n, k⟩ hy d
  by_cases hk : k = .free
  ·subst hk
   obtain ⟨c, e⟩ := h _ hy rfl
   have e' : env.cells.lookup n = some c := e
   simp only [beq_self_eq_true, if_true, cellOf, e', Option.getD_some]
   rfl
  ·have hb : (k == NameKind.free) = false := by simpa using hk
   simp only [hb, Bool.false_eq_true, if_false, hk]
theorem cellsFor_mem {env : Env} {y : Str} {c : Addr} : ∀ (l : List (Str × NameKind)) (d : List (Str × Addr)), (∀ z ∈ l, z.2 = .free -> ∃ c, env.cells.lookup z.1 = some c) -> (cellsFor env l d).lookup y = some c →
  d.lookup y = some c \/ env.cells.lookup y = some c
 | [], d, _, h => .inl h
 | (n, k) :: l, d, hf, h => by
  have h' : (cellsFor env l (if k = .free then (n, (env.cells.lookup n).getD 0) :: d else d)).lookup y = some c := h
  have ih := cellsFor_mem l _ (fun z hz => hf z (List.mem_cons_of_mem _ hz)) h'
  by_cases hk : k = .free
  ·subst hk
   rw [if_pos rfl] at ih
   rcases ih with q | q
   ·rw [List.lookup_cons] at q
    cases hx : (y == n) with
    | true =>
     rw [hx] at q
     obtain ⟨c', e⟩ := hf (n, .free) List.mem_cons_self rfl
     have e' : env.cells.lookup n = some c' := e
     have q' : some ((env.cells.lookup n).getD 0) = some c := q
     rw [e'] at q'
     have en : y = n := eq_of_beq hx
     rw [en, e']
     exact .inr q'
    | false =>
     rw [hx] at q
     exact .inl q
   ·exact .inr q
  ·rw [if_neg hk] at ih
   exact ih
theorem cellsFor_has {env : Env} {y : Str} : ∀ (l : List (Str × NameKind)) (d : List (Str × Addr)), ((y, NameKind.free) ∈ l \/ ∃ c, d.lookup y = some c) -> ∃ c, (cellsFor env l d).lookup y = some c
 | [], d, h => by
  rcases h with h | h
  ·cases h
  ·exact h
 | (n, k) :: l, d, h => by
  show ∃ c, (cellsFor env l (if k = .free then (n, (env.cells.lookup n).getD 0) :: d else d)).lookup y = some c
  refine cellsFor_has l _ ?_
  have old : (∃ c, d.lookup y = some c) -> ∃ c, (if k = .free then (n, (env.cells.lookup n).getD 0) :: d else d).lookup y = some c := fun ⟨c, e⟩ => by
   by_cases hk : k = .free
   ·rw [if_pos hk, List.lookup_cons]
    cases hx : (y == n) with
    | true => exact ⟨_, rfl⟩
    | false => exact ⟨c, e⟩
   ·rw [if_neg hk]; exact ⟨c, e⟩
  rcases h with h | h
  ·rcases List.mem_cons.mp h with q | q
   ·cases q
    rw [if_pos rfl, List.lookup_cons, beq_self_eq_true]
    exact .inr ⟨_, rfl⟩
   ·exact .inl q
  ·exact .inr (old h)
theorem look_map {c : Str -> NameKind -> Bool} {y : Str} : ∀ l : List (Str × NameKind), (l.map fun z => if c z.1 z.2 = true then (z.1, NameKind.cell) else (z.1, z.2)).lookup y = (l.lookup y).map fun k => if c y k = true then NameKind.cell else k
 | [] => rfl
 | (n, k) :: l => by
  have ih := look_map (c := c) (y := y) l
  rw [List.map_cons]
  have e : (if c n k = true then (n, NameKind.cell) else (n, k)) = (n, if c n k = true then NameKind.cell else k) := by split <;> rfl
  show List.lookup y ((if c n k = true then (n, NameKind.cell) else (n, k)) :: _) = _
  rw [e, List.lookup_cons, List.lookup_cons]
  cases hx : (y == n) with
  | true =>
   have en : y = n := eq_of_beq hx
   subst en
   rfl
  | false => exact ih
def blk (X : Cx) (sc : Scope) (cl : List (Str × Addr)) (C : Addr) (N' : List Str) (s : Shared) (H : Hp) (fp : List Addr) : Cx :=
 { X with N := N', s₀ := s, H₀ := H, env := compEnvC sc cl C X.env, outer := X.stack, ex := fp, fn := fun _ => false, pn := [], xe := fun _ _ => False }
def PF (X : Cx) (ifs : List Expr) (t : TT) : Prop :=
  ∀ (pins : List (Addr × Obj)) (s : Shared) (σ : St) (H : Hp) (Q : Bool -> Hp -> Prop), Inv X pins σ H s -> t σ H Q →
    wpAny (model X.prog X.w) X.A (forIn ifs true fun c r => if r = true then do let ok ← isTrue c X.env (eval c X.env); pure (ForInStep.yield ok) else pure (ForInStep.yield r)) (TP X pins σ Q) X.xe s
theorem pf_nil {X : Cx} : PF X [] (fun _ H Q => Q true H) := fun _ _ _ H _ I h => wpAny_tests_nil ⟨H, I, h⟩
def inner (ix : List (Option Nat)) (σ : St) : St := ix.map fun o => match o with | none => none | some j => (σ[j]?).join
def CompW (J : It) (g : TG) (tc : TT) (te : TE) (τ : St) (Q : VK) (H1 : Hp) : Prop := ∃ W : Nat -> Nat -> St -> List V -> Hp -> Prop, (∃ m, W 0 m τ [] H1) /\ ∀ i m τ ys H, W i m τ ys H →
 (J.stop i H /\ ys.length <= sizeLine /\ ∀ l, H l = none -> Q (.ref l) (upd H l (.lst ys))) ∨
 (J.go i H /\ ∀ x H', J.yld i H x H' -> g x τ H' fun τ2 H2 => tc τ2 H2 fun b H3 => if b = true then te τ2 H3 fun y H4 => ys.length < sizeLine /\ ∃ m', m' < m /\ W (i + 1) m' τ2 (ys ++ [y]) H4 else ∃ m', m' < m /\ W (i + 1) m' τ2 ys H3)
def tComp (ix : List (Option Nat)) (wi : TI) (g : TG) (tc : TT) (te : TE) : TE := fun σ H Q => wi σ H fun J H1 => CompW J g tc te (inner ix σ) Q H1
section
variable {X : Cx} {sc : Scope} {N' : List Str} {ix : List (Option Nat)} {pins : List (Addr × Obj)} {σ : St} {H : Hp} {s : Shared}
theorem blk_ok (I : Inv X pins σ H s) (K : CompOk X.env.scope.names X.N sc N' ix) {C : Addr} {fp : List Addr} (hC : s.heap.objs.size <= C) (f : ∀ b ∈ fp, FpOk X pins H b) (fl : ∀ b ∈ fp, b < s.heap.objs.size) :
  (blk X sc (cellsFor X.env sc.names []) C N' s H fp).Ok := by
 have hcl : ∀ y ∈ sc.names, y.2 = .free -> ∃ c, X.env.cells.lookup y.1 = some c := fun y hy e => I.ok.has y.1 (K.frees y hy e)
 have up : ∀ y c, (cellsFor X.env sc.names []).lookup y = some c -> X.env.cells.lookup y = some c := fun y c e => by
  rcases cellsFor_mem sc.names [] hcl e with q | q
  ·cases q
  ·exact q
 have nfs : ∀ b ∈ fp, b ∉ frs X.stack := fun b hb z => by
  rcases List.mem_cons.mp (I.stkSub b z) with q | q
  ·exact (f b hb).2.1 q
  ·exact (f b hb).2.2.1 q
 refine ⟨I.ok.mod, K.kind, I.ok.glob, I.ok.blt, hC, fun y z c h1 h2 => I.ok.inj y z c (up _ _ h1) (up _ _ h2), fun y hy => ?_, (fun y c h => nomatch h), I.ok.hd, I.ok.frames, .inl rfl, fun b hb => ?_, fun b o e => I.bs b o e, Nat.le_trans I.ok.bsz I.sz, fun b o e hb => ?_, nfs, I.stack, I.stkFree⟩
 ·have hy' : (relabel sc X.env).names.lookup y = some .cell \/ (relabel sc X.env).names.lookup y = some .free := hy
  have em := look_map (c := fun n k => k == .free && X.env.scope.kind == .function && X.env.kindOf n == some .cell) (y := y) sc.names
  have em' : (relabel sc X.env).names.lookup y = _ := em
  rw [em'] at hy'
  cases hq : sc.names.lookup y with
  | none => rw [hq] at hy'; rcases hy' with q | q <;> cases q
  | some k =>
   have km := mem_of_look hq
   have hk : k = .free := by
    rw [hq] at hy'
    simp only [Option.map_some, Option.some.injEq] at hy'
    by_cases hc : (k == .free && X.env.scope.kind == .function && X.env.kindOf y == some .cell) = true
    ·rw [Bool.and_eq_true, Bool.and_eq_true] at hc
     exact by simpa using hc.1.1
    ·rw [if_neg hc] at hy'
     rcases hy' with q | q
     ·exact absurd q (K.nocell _ km)
     ·exact q
   subst hk
   exact cellsFor_has sc.names [] (.inl km)
 ·exact ⟨Nat.ne_of_lt (Nat.lt_of_lt_of_le (fl b hb) hC), fun y c e => (f b hb).2.2.2.2.1 y c (up y c e)⟩
 ·rcases (f b hb).2.2.2.1 with q | q
  ·exact I.ok.noex b o e q
  ·exact absurd (Nat.lt_of_lt_of_le (Heap.lt_size e) (Nat.le_trans I.ok.bsz q)) (Nat.lt_irrefl _)
theorem blk_inv (I : Inv X pins σ H s) (K : CompOk X.env.scope.names X.N sc N' ix) {C : Addr} {fp : List Addr} (hC : s.heap.objs.size <= C) (f : ∀ b ∈ fp, FpOk X pins H b) (fl : ∀ b ∈ fp, b < s.heap.objs.size)
  {h1 : Heap} {t : Nat} {m : Str -> Option Value} (k : ∀ b o, s.heap.get? b = some o -> h1.get? b = some o) (ns : h1.Ns C m) :
  Inv (blk X sc (cellsFor X.env sc.names []) C N' s H fp) [] (inner ix σ) H { s with heap := h1, toks := t } := by
 have hcl : ∀ y ∈ sc.names, y.2 = .free -> ∃ c, X.env.cells.lookup y.1 = some c := fun y hy e => I.ok.has y.1 (K.frees y hy e)
 have up : ∀ y c, (cellsFor X.env sc.names []).lookup y = some c -> X.env.cells.lookup y = some c := fun y c e => by
  rcases cellsFor_mem sc.names [] hcl e with q | q
  ·cases q
  ·exact q
 refine ⟨blk_ok I K hC f fl, rfl, I.bare, Un.kept k, ⟨m, ns, fun i y v e1 e2 e3 => ?_⟩, fun y c e => ?_, I.hok.fresh hC, fun y c e => I.freeC y c (up y c e), (fun p hp => nomatch hp), I.hok.kept k, ?_⟩
 ·have e2' : (ix.map fun o => match o with | none => none | some j => (σ[j]?).join)[i]? = some (some v) := e2
  rw [List.getElem?_map] at e2'
  cases hi : ix[i]? with
  | none => rw [hi] at e2'; cases e2'
  | some o =>
   cases o with
   | none => rw [hi] at e2'; cases e2'
   | some j =>
    rw [hi] at e2'
    have e4 : (σ[j]?).join = some v := Option.some.inj e2'
    have e5 : σ[j]? = some (some v) := by
     cases hj : σ[j]? with
     | none => rw [hj] at e4; cases e4
     | some z => rw [hj] at e4; rw [show z = some v from e4]
    obtain ⟨n1, n2⟩ := K.slot i j y hi e1
    have mem := mem_of_look n2
    have kc : X.env.kindOf y = some .cell \/ X.env.kindOf y = some .free := K.frees _ mem rfl
    obtain ⟨m', _, hl⟩ := I.loc
    obtain ⟨u, r, l⟩ := hl j y v n1 e5 (.inr kc)
    refine ⟨u, r, ?_⟩
    rcases l with ⟨q, _⟩ | ⟨_, c, q, z⟩
    ·rcases kc with kc | kc <;> (rw [kc] at q; cases q)
    ·obtain ⟨c', hc'⟩ := cellsFor_has (env := X.env) (y := y) sc.names [] (.inl mem)
     have := up y c' hc'
     rw [q] at this
     cases this
     refine .inr ⟨?_, c, hc', z.keeps k⟩
     have em := look_map (c := fun n k => k == .free && X.env.scope.kind == .function && X.env.kindOf n == some .cell) (y := y) sc.names
     have em' : (relabel sc X.env).names.lookup y = _ := em
     rcases kc with kc | kc
     ·left
      show (relabel sc X.env).names.lookup y = some .cell
      rw [em', n2]
      simp only [Option.map_some, kc, I.ok.kind]
      rfl
     ·right
      show (relabel sc X.env).names.lookup y = some .free
      rw [em', n2]
      simp only [Option.map_some, kc, I.ok.kind]
      rfl
 ·obtain ⟨v, z⟩ := I.cell y c (up y c e)
  exact ⟨v, z.keeps k⟩
 ·show (ix.map _).length = N'.length
  rw [List.length_map]
  exact K.len
end
end L2
set_option Elab.async false
set_option linter.all false
set_option maxRecDepth 100000
set_option maxHeartbeats 4000000
namespace L2
open PySem PySem.Spec PyProof.Rows
theorem comp_turns {prog : Program} {w : World} {A : Around} {R : Result -> Shared -> Prop} {s : Shared} {elt target iter : Expr} {ifs : List Expr} {sc : Scope} {pos : Pos} {it acc : Value} {env : Env} (J : Nat -> Shared -> Prop)
    (turn : ∀ n s, J n s -> wpAny (model prog w) A (pyNext it) (fun r s1 => match r with
      | none => R (.ok .next) s1
      | some v => wpAny (model prog w) A (letOwnedTupleGo target it v) (fun _ s2 => wpAny (model prog w) A (assign target env v) (fun _ s3 =>
          wpAny (model prog w) A (forIn ifs true fun c r => if r = true then do let ok ← isTrue c env (eval c env); pure (ForInStep.yield ok) else pure (ForInStep.yield r)) (fun ok s4 =>
            if ok = true then wpAny (model prog w) A (eval elt env) (fun x s5 => wpAny (model prog w) A (call (.builtin "list.append") [acc, x]) (fun _ s6 => ∃ m, m < n /\ J m s6) (fun _ _ => False) s5) (fun _ _ => False) s4
            else ∃ m, m < n /\ J m s4) (fun _ _ => False) s3) (fun _ _ => False) s2) (fun _ _ => False) s1) (fun _ _ => False) s)
    (n : Nat) (h : J n s) : codeAny (model prog w) A (.compLoop (.ListComp elt [⟨target, iter, ifs, 0⟩] sc pos) 0 it acc env) R s := by
  refine codeAny_loop rfl J (fun k t q => ?_) n h
  show wpAny _ A (Sem.onRaise (compTurn (.ListComp elt [⟨target, iter, ifs, 0⟩] sc pos) 0 it acc env) (fun x => do noteFrame x env; theTreesLotGoes x)) _ _ t
  refine wpAny_noted ?_
  rw [compTurn_list]
  have no : ∀ {E : Value -> Shared -> Prop} (x : Value) (t : Shared), False -> E x t := fun _ _ z => z.elim
  refine wpAny_bind (wpAny_standAt (wpAny_bind (wpAny_mono (turn k t q) (fun r s1 h1 => ?_) no)))
  cases r with
  | none => exact wpAny_pure h1
  | some v =>
    refine wpAny_bind (wpAny_mono h1 (fun _ s2 h2 => wpAny_bind (wpAny_mono h2 (fun _ s3 h3 => wpAny_bind (wpAny_mono h3 (fun ok s4 h4 => ?_) no)) no)) no)
    cases ok with
    | false => exact wpAny_pure ⟨rfl, h4⟩
    | true => exact wpAny_bind (wpAny_bind (wpAny_mono h4 (fun x s5 h5 => wpAny_bind (wpAny_mono h5 (fun _ s6 h6 => wpAny_pure (wpAny_pure ⟨rfl, h6⟩)) no)) no))
section
variable {X : Cx}
def CompFin (X : Cx) (pins : List (Addr × Obj)) (σ : St) (Q : VK) (use : Option (Value -> Sem Unit)) (Q2 : Value -> Shared -> Prop) : Prop :=
 ∀ (s4 : Shared) (H3 : Hp) (acc C : Addr) (ys : List V) (oC : Obj), Inv X (pins ++ [(C, oC)]) σ (upd H3 acc (.lst ys)) s4 -> (∃ m, s4.heap.Ns C m) -> X.s₀.heap.objs.size <= C -> (∀ x c, X.env.cells.lookup x = some c -> c ≠ C) -> (∀ p ∈ X.pn ++ pins, p.1 ≠ C) -> Q (.ref acc) (upd H3 acc (.lst ys)) →
  compPost (model X.prog X.w) X.A X.xe use Q2 (.ref acc) C (.ok .next) s4
theorem comp_core {elt target iter : Expr} {ifs : List Expr} {sc : Scope} {pos ps : Pos} {wi : TI} {g : TG} {tc : TT} {te : TE} {N' : List Str} {ix : List (Option Nat)} {use : Option (Value -> Sem Unit)} {Q2 : Value -> Shared -> Prop}
  {pins : List (Addr × Obj)} {s : Shared} {σ : St} {H : Hp} {Q : VK}
  (hcalm : X.calm = true) (hi : PI X target iter wi) (hk : compB X.env.scope.names X.N sc N' ix = true)
  (hg : ∀ cl C s H fp, PG (blk X sc cl C N' s H fp) target g) (hc : ∀ cl C s H fp, PF (blk X sc cl C N' s H fp) ifs tc) (he : ∀ cl C s H fp, PE (blk X sc cl C N' s H fp) elt te)
  (hs : ∀ x, foldedSetIterable iter X.env x = pure x) (fin : CompFin X pins σ Q use Q2) (I : Inv X pins σ H s) (h : tComp ix wi g tc te σ H Q) :
  wpAny (model X.prog X.w) X.A (comprehension (.ListComp elt [⟨target, iter, ifs, 0⟩] sc pos) sc X.env ps (newList []) false (eval iter X.env) use) Q2 X.xe s := by
 have K := CompOk.of hk
 have hcl : ∀ y ∈ sc.names, y.2 = .free -> ∃ c, X.env.cells.lookup y.1 = some c := fun y hy e => I.ok.has y.1 (K.frees y hy e)
 refine wpAny_comprehension_free rfl hs (closure_eq hcl) K.kind K.locs (thn (hi pins s σ H _ I h) fun v s1 h1 => thn h1 fun itv s2 h2 => ?_)
 obtain ⟨it, fp, tn, J, H2, e, I2, T, st2, f2, W, ⟨m0, w0⟩, turn⟩ := h2
 subst e
 refine wpAny_newObj_type (wpAny_newFunctionEnv K.nocell (by intro y hy; simp at hy) (fun h1 ns1 sb1 => ?_) K.kind)
 dsimp only at ns1 sb1 ⊢
 generalize hP : s2.heap.push { cls := .type "list", dict := none, data := .seq ([] : List Value).toArray } = G at ns1 sb1 ⊢
 have sG : G.objs.size = s2.heap.objs.size + 1 := by rw [<- hP, Heap.size_push]
 have fl : ∀ b ∈ fp, b < s2.heap.objs.size := fun b hb => by
  obtain ⟨o, e, _⟩ := T.obj _ _ st2 b hb
  exact Heap.lt_size e
 have hC : s2.heap.objs.size <= G.objs.size := by rw [sG]; exact Nat.le_succ _
 have aC : s2.heap.objs.size ≠ G.objs.size := by rw [sG]; exact Nat.ne_of_lt (Nat.lt_succ_self _)
 have old : ∀ b o, s2.heap.get? b = some o -> h1.get? b = some o := fun b o e => by
  have lt := Heap.lt_size e
  have ne : b ≠ G.objs.size := Nat.ne_of_lt (Nat.lt_of_lt_of_le lt hC)
  rw [sb1.2 b ne]
  exact Heap.get?_push_of_some _ (hP ▸ Heap.get?_push_of_some _ e)
 have accO : h1.PlainList s2.heap.objs.size #[] := ⟨_, by
  rw [sb1.2 _ aC]
  exact Heap.get?_push_of_some _ (hP ▸ Heap.get?_push_size _ rfl)⟩
 have IB := blk_inv (t := s2.toks + ([] : List (Str × Value)).length) I2 K hC f2 fl old ns1
 have up : ∀ y c, (cellsFor X.env sc.names []).lookup y = some c -> X.env.cells.lookup y = some c := fun y c e => by
  rcases cellsFor_mem sc.names [] hcl e with q | q
  ·cases q
  ·exact q
 have accNotCell : ∀ y c, (cellsFor X.env sc.names []).lookup y = some c -> c ≠ s2.heap.objs.size := fun y c e z => by
  obtain ⟨v, q⟩ := I2.cell y c (up y c e)
  exact absurd q.lt (by rw [z]; exact Nat.lt_irrefl _)
 have accFs : s2.heap.objs.size ∉ frs X.stack := fun z => by
  rcases List.mem_cons.mp (I2.stkSub _ z) with q | q
  ·exact absurd I2.lt (by rw [<- q]; exact Nat.lt_irrefl _)
  ·exact I2.nofs (Nat.le_refl _) q
 have accFp : s2.heap.objs.size ∉ fp := fun z => absurd (fl _ z) (Nat.lt_irrefl _)
 have stat : ∀ {H' : Hp} {ob : Obj}, (∀ b ∈ fp, H' b = none) -> ∀ b ∈ fp, FpOk (blk X sc (cellsFor X.env sc.names []) G.objs.size N' s2 H2 fp) [(s2.heap.objs.size, ob)] H' b := fun {H' ob} hn b hb => by
  refine ⟨hn b hb, Nat.ne_of_lt (Nat.lt_of_lt_of_le (fl b hb) hC), IB.ok.exfs b hb, .inl hb, fun y c e => (f2 b hb).2.2.2.2.1 y c (up y c e), fun p hp z => ?_⟩
  have ep : p = (s2.heap.objs.size, ob) := by simpa [blk] using hp
  subst ep
  exact accFp (by rw [show s2.heap.objs.size = b from z]; exact hb)
 have accPin : ∀ {pl : List (Addr × Obj)} {σ' : St} {H' : Hp} {s' : Shared} {its : Array Value} {n : Nat}, Inv (blk X sc (cellsFor X.env sc.names []) G.objs.size N' s2 H2 fp) pl σ' H' s' -> s'.heap.get? s2.heap.objs.size = some { cls := .type "list", data := .seq its n } →
   H' s2.heap.objs.size = none -> Inv (blk X sc (cellsFor X.env sc.names []) G.objs.size N' s2 H2 fp) [(s2.heap.objs.size, { cls := .type "list", data := .seq its n })] σ' H' s' := fun {pl σ' H' s' its n} J' e nn => J'.pins_of fun p hp => by
  have ep : p = (s2.heap.objs.size, ({ cls := .type "list", data := .seq its n } : Obj)) := by simpa [blk] using hp
  subst ep
  exact ⟨e, nn, aC, accFs, fun v z => nomatch z⟩
 have loop : codeAny (model X.prog X.w) X.A (.compLoop (.ListComp elt [⟨target, iter, ifs, 0⟩] sc pos) 0 (.ref it) (.ref s2.heap.objs.size) (compEnvC sc (cellsFor X.env sc.names []) G.objs.size X.env))
   (compPost (model X.prog X.w) X.A X.xe use Q2 (.ref s2.heap.objs.size) G.objs.size) { s2 with heap := h1, toks := s2.toks + ([] : List (Str × Value)).length } := by
  refine comp_turns (fun n s' => ∃ i ys its nn σ' H', Inv (blk X sc (cellsFor X.env sc.names []) G.objs.size N' s2 H2 fp) [(s2.heap.objs.size, { cls := .type "list", data := .seq its nn })] σ' H' s' /\ Vals ys its.toList /\ tn i s'.heap /\ (∀ b ∈ fp, H' b = none) /\ W i n σ' ys H')
   (fun n s3 h3 => ?_) m0 ?_
  ·obtain ⟨i, ys, its, nn, σ3, H3, I3, r3, st3, fr3, w3⟩ := h3
   obtain ⟨e3, a3, _, _, _⟩ := I3.pin (s2.heap.objs.size, { cls := .type "list", data := .seq its nn }) (by simp [blk])
   rcases turn i n σ3 ys H3 w3 with ⟨stop, zl, q3⟩ | ⟨go, step⟩
   ·refine thn (T.done (blk X sc (cellsFor X.env sc.names []) G.objs.size N' s2 H2 fp) rfl rfl rfl hcalm i _ s3 σ3 H3 _ I3 (stat fr3) st3 stop) fun r s4 ⟨hr, I4⟩ => ?_
    subst hr
    obtain ⟨e4, a4, _, _, _⟩ := I4.pin (s2.heap.objs.size, { cls := .type "list", data := .seq its nn }) (by simp [blk])
    obtain ⟨m4, n4, _⟩ := I4.loc
    obtain ⟨oC, es4, ep4, c4, d4, r4⟩ := id n4
    have ltA : ∀ b o, s2.heap.get? b = some o -> b ≠ s2.heap.objs.size := fun b o e => Nat.ne_of_lt (Heap.lt_size e)
    have B := I4.base
    have hok : HOk X.prog X.w (upd H3 s2.heap.objs.size (.lst ys)) s4.heap := fun b o e => by
     by_cases hb : b = s2.heap.objs.size
     ·subst hb
      rw [upd_same] at e
      cases e
      exact ⟨zl, its.toList, nn, r3, e4⟩
     ·rw [upd_ne hb] at e
      refine (I4.hok b o e).stay (fun c u hc q => q) (fun c q => ?_) (fun c xs q => ?_)
      ·rw [upd_ne (ne_of_none q a4)]; exact q
      ·rw [upd_ne (ne_of_none q a4)]; exact q
    have I5 : Inv X pins σ (upd H3 s2.heap.objs.size (.lst ys)) s4 := by
     refine I2.call' (ch := fp) I4.os ⟨fun b o e n hb hx => B.keep b o e n hb hx, fun b o e n hb hx => B.slot b o e n hb hx, fun b o e n hx => ?_, fun b o e hx => B.there b o e hx, fun b xs e => ?_, fun b o u e => ?_, fun b ps e => ?_⟩ hok I4.bare (fun b hb => ?_)
     ·rw [upd_ne (ltA b o e)]; exact B.free b o e n hx
     ·have q := B.tups b xs e
      rw [upd_ne (ne_of_none q a4)]; exact q
     ·have q := B.frzs b o u e
      rw [upd_ne (ne_of_none q a4)]; exact q
     ·obtain ⟨more, q⟩ := B.tbls b ps e
      exact ⟨more, by rw [upd_ne (ne_of_none q a4)]; exact q⟩
     ·obtain ⟨g0, g1, g2, g3, g4, g5⟩ := f2 b hb
      exact ⟨g3, g1, g4, g5⟩
    have cL : G.objs.size ≠ X.env.locals := Nat.ne_of_gt (Nat.lt_of_lt_of_le I2.lt hC)
    have I6 : Inv X (pins ++ [(G.objs.size, oC)]) σ (upd H3 s2.heap.objs.size (.lst ys)) s4 := I5.pins_of fun p hp => by
     rcases List.mem_append.mp hp with q | q
     ·exact I5.pin p (List.mem_append_right _ q)
     ·have ep : p = (G.objs.size, oC) := by simpa using q
      subst ep
      exact ⟨c4, by rw [upd_ne (Ne.symm aC)]; exact I4.free, cL, I2.nofs hC, fun v z => by rw [d4] at z; cases z⟩
    refine fin s4 H3 s2.heap.objs.size G.objs.size ys oC I6 ⟨m4, n4⟩ (Nat.le_trans I2.sz hC) (fun y c e z => ?_) (fun p hp z => ?_) (q3 _ a4)
    ·obtain ⟨v, q⟩ := I2.cell y c e
     exact absurd (Nat.lt_of_lt_of_le q.lt hC) (by rw [z]; exact Nat.lt_irrefl _)
    ·exact absurd (Nat.lt_of_lt_of_le (Heap.lt_size (I2.pin p hp).1) hC) (by rw [z]; exact Nat.lt_irrefl _)
   ·refine thn (T.item (blk X sc (cellsFor X.env sc.names []) G.objs.size N' s2 H2 fp) rfl rfl rfl hcalm i _ s3 σ3 H3 _ I3 (stat fr3) st3 go) fun r s4 ⟨u, hr, h4⟩ => ?_
    subst hr
    refine thn h4 fun _ s5 ⟨x, H5, I5, r5, y5, st5, fr5⟩ => ?_
    have I5' := I5.pinned (stat fr5) (T.obj _ _ st5)
    refine thn (hg _ _ _ _ _ _ s5 σ3 H5 x u _ I5' r5 (step x H5 y5)) fun _ s6 ⟨σ6, H6, I6, q6⟩ => ?_
    refine thn (hc _ _ _ _ _ _ s6 σ6 H6 _ I6 q6) fun ok s7 ⟨H7, I7, q7⟩ => ?_
    have back : ∀ {σ7 : St} {H7 : Hp} {s7 : Shared}, Inv (blk X sc (cellsFor X.env sc.names []) G.objs.size N' s2 H2 fp) ([(s2.heap.objs.size, { cls := .type "list", data := .seq its nn })] ++ pinsAt fp s5.heap) σ7 H7 s7 -> tn (i + 1) s7.heap /\ ∀ b ∈ fp, H7 b = none := fun J7 =>
     ⟨T.keep _ _ _ st5 fun b hb o e => (J7.pin (b, o) (List.mem_append_right _ (List.mem_append_right _ (mem_pinsAt hb e)))).1, fun b hb => by
      obtain ⟨o, e, d⟩ := T.obj _ _ st5 b hb
      exact (J7.pin (b, o) (List.mem_append_right _ (List.mem_append_right _ (mem_pinsAt hb e)))).2.1⟩
    cases ok with
    | false =>
     rw [if_neg (by decide)] at q7
     obtain ⟨m', lm, w7⟩ := q7
     show ∃ m, m < n /\ _
     exact ⟨m', lm, i + 1, ys, its, nn, σ6, H7, I7.unpinned, r3, (back I7).1, (back I7).2, w7⟩
    | true =>
     rw [if_pos rfl] at q7
     refine thn (he _ _ _ _ _ _ s7 σ6 H7 _ I7 q7) fun z s8 ⟨y, H8, I8, r8, lz, m', lm, w8⟩ => ?_
     obtain ⟨e8, a8, _, _, _⟩ := I8.pin (s2.heap.objs.size, { cls := .type "list", data := .seq its nn }) (by simp [blk])
     have sz : its.size <= sizeLine := by
      have l : ys.length = its.size := r3.length.trans Array.length_toList
      rw [<- l]
      exact Nat.le_of_lt lz
     refine wpAny_list_append_plain ⟨nn, e8⟩ (fun h' pl' sb' => ?_) sz
     obtain ⟨n9, e9⟩ := pl'
     have I8p : Inv (blk X sc (cellsFor X.env sc.names []) G.objs.size N' s2 H2 fp) (pinsAt fp s5.heap) σ6 H8 s8 := I8.pins_of fun p hp => I8.pin p (List.mem_append_right _ (List.mem_append_right _ hp))
     have I9 := I8p.turned (it := s2.heap.objs.size) (h' := h') (t' := s8.toks) (fun b o ne e => by rw [sb'.2 b ne]; exact e) a8 aC (.inr (Nat.le_refl _)) (fun y c e => accNotCell y c e) (fun p hp z => by
      have hp' : p ∈ pinsAt fp s5.heap := by simpa [blk] using hp
      exact accFp (by rw [<- z]; exact (of_pinsAt hp').1))
     have b9 : tn (i + 1) h' /\ ∀ b ∈ fp, H8 b = none :=
      ⟨T.keep _ _ _ st5 fun b hb o e => (I9.pin (b, o) (List.mem_append_right _ (mem_pinsAt hb e))).1, (back I8).2⟩
     exact ⟨m', lm, i + 1, ys ++ [y], its.push z, n9, σ6, H8, accPin I9 e9 a8, by rw [Array.toList_push]; exact r3.append (.cons r8 .nil), b9.1, b9.2, w8⟩
  ·obtain ⟨n0, e0⟩ := accO
   exact ⟨0, [], #[], n0, _, H2, accPin IB e0 (I2.hok.fresh (Nat.le_refl _)), .nil, T.keep _ _ _ st2 fun b hb o e => old b o e, fun b hb => (f2 b hb).1, w0⟩
 exact codeAny_compStart_list loop (T.self _ 0 _ _ _ (T.keep _ _ _ st2 fun b hb o e => old b o e) loop)
theorem pe_comp {elt target iter : Expr} {ifs : List Expr} {sc : Scope} {pos : Pos} {wi : TI} {g : TG} {tc : TT} {te : TE} (N' : List Str) (ix : List (Option Nat))
  (hcalm : X.calm = true) (hi : PI X target iter wi) (hk : compB X.env.scope.names X.N sc N' ix = true)
  (hg : ∀ cl C s H fp, PG (blk X sc cl C N' s H fp) target g) (hc : ∀ cl C s H fp, PF (blk X sc cl C N' s H fp) ifs tc) (he : ∀ cl C s H fp, PE (blk X sc cl C N' s H fp) elt te)
  (hs : ∀ x, foldedSetIterable iter X.env x = pure x := by intro _; rfl) : PE X (.ListComp elt [⟨target, iter, ifs, 0⟩] sc pos) (tComp ix wi g tc te) := by
 intro pins s σ H Q I h
 rw [eval_ListComp]
 refine comp_core hcalm hi hk hg hc he hs (fun s4 H3 acc C ys oC I4 ns hC hc hp q => ?_) I h
 obtain ⟨m, ns⟩ := ns
 refine ⟨m, ns, fun h' sb => ⟨.ref acc, _, ?_, rfl, q⟩⟩
 obtain ⟨_, n0, n1, n2, _⟩ := I4.pin (C, oC) (by simp)
 exact (I4.unpinned).turned (it := C) (h' := h') (t' := s4.toks) (fun b o ne e => by rw [sb.2 b ne]; exact e) n0 n1 (.inr hC) hc hp
end
end L2
set_option Elab.async false
set_option linter.all false
set_option maxRecDepth 100000
set_option maxHeartbeats 4000000
namespace L2
open PySem PySem.Spec PyProof.Rows
section
variable {X : Cx}
def rCatS (K : PySem.W.Frag) : R2 := fun x y H Q => ∃ l b xs zs, x = .ref l /\ y = .ref b /\ SqL K H l xs /\ SqL K H b zs /\ xs.length + zs.length <= sizeLine /\ ∀ p, H p = none -> Q (.ref p) (upd H p (.lst (xs ++ zs)))
theorem op_catS : OpR X (binaryOp .Add) (rCatS X.K) := by
 intro pins s σ H x y v u Q I rx ry h
 obtain ⟨l, b, xs, zs, rfl, rfl, hH, hB, hz, q⟩ := h
 cases rx
 cases ry
 obtain ⟨its, r, e, z⟩ := I.list hH
 obtain ⟨its2, r2, e2, z2⟩ := I.list hB
 obtain ⟨⟨c1, d1, da1, sl1⟩, n, e, k1, k2, k3⟩ := e
 obtain ⟨⟨c2, d2, da2, sl2⟩, n2, e2, g1, g2, g3⟩ := e2
 simp only at k1 k3 g1 g3
 subst k1 k3 g1 g3
 have l1 := r.length
 have l2 := r2.length
 have ea : its.toArray ++ its2.toArray = (its ++ its2).toArray := by simp
 refine concat_meets ⟨_, e, rfl⟩ ⟨_, e2, rfl⟩ noFill_list_add seq_list_add PySem.F.slot_list_add PySem.F.entry_list_add
  (PySem.F.args_list_add_2 _ _) (list_addW l b its.toArray its2.toArray n n2 d1 d2 sl1 sl2 (by rw [List.size_toArray, List.size_toArray]; omega)) ⟨e, e2, ?_⟩
 rw [ea]
 exact ⟨.ref _, _, I.lnew (t' := s.toks) (r.append r2) (by rw [List.length_append]; omega), rfl, q _ I.fresh⟩
theorem call_isinst : CallR X (.builtin "isinstance") (fun xs H Q => ∃ x T t b, xs = [x, .ty T] /\ TyOf X.K H x t /\ PySem.W.kitOne X.K t (.type T) = some b /\ Q (.bl b) H) := by
 intro pins s σ H xs us Q I r h
 obtain ⟨x, T, t, b, rfl, ty, e, q⟩ := h
 obtain ⟨u, w', rfl, ru, rw'⟩ := vals2 r
 cases (show w' = Value.type T from rw')
 exact isinst_ok I ru ty e fun tk => ⟨.bl b, H, I.tok tk, rfl, q⟩
end
def StepC (k : Nat) (tc : TT) (te : TE) (τ : St) (Pv : Nat -> List V -> Hp -> Prop) (i : Nat) (x : V) (ys : List V) (H : Hp) : Prop :=
 ∀ (R1 : V -> Hp -> Prop) (R0 : Hp -> Prop), (∀ y H4, Pv (i + 1) (ys ++ [y]) H4 -> R1 y H4) -> (∀ H3, Pv (i + 1) ys H3 -> R0 H3) -> tc (τ.set k (some x)) H fun b H3 => if b = true then te (τ.set k (some x)) H3 R1 else R0 H3
theorem compN_list {K : PySem.W.Frag} {a : Addr} {xs : List V} {k : Nat} {tc : TT} {te : TE} {τ : St} {H : Hp} {Q : VK} (Pv : Nat -> List V -> Hp -> Prop) (h0 : Pv 0 [] H) (hz : xs.length <= sizeLine)
  (hl : ∀ i ys H, i <= xs.length -> Pv i ys H -> SqL K H a xs) (hs : ∀ i x ys H, xs[i]? = some x -> ys.length <= i -> Pv i ys H -> StepC k tc te τ Pv i x ys H)
  (hd : ∀ ys H, ys.length <= xs.length -> Pv xs.length ys H -> ∀ l, H l = none -> Q (.ref l) (upd H l (.lst ys))) :
  CompW (Itl K a) (gName k) tc te τ Q H := by
 refine ⟨fun i m σ ys H => m = xs.length - i /\ i <= xs.length /\ (∀ x, σ.set k (some x) = τ.set k (some x)) /\ ys.length <= i /\ Pv i ys H, ⟨xs.length, by simp, Nat.zero_le _, fun _ => rfl, Nat.le_refl _, h0⟩, ?_⟩
 rintro i m σ ys H ⟨rfl, hi, hτ, hy, p⟩
 have q := hl i ys H hi p
 by_cases hlt : i < xs.length
 ·refine .inr ⟨⟨xs, xs[i], q, by simp [hlt]⟩, fun x H' y => ?_⟩
  obtain ⟨e, y⟩ := y
  subst e
  show tc (σ.set k (some x)) _ _
  rw [hτ x]
  have hσ : ∀ z, (τ.set k (some x)).set k (some z) = τ.set k (some z) := fun z => by rw [List.set_set]
  refine hs i x ys _ (y xs q) hy p _ _ (fun y4 H4 p4 => ⟨by omega, xs.length - (i + 1), by omega, rfl, hlt, hσ, by rw [List.length_append, List.length_singleton]; omega, p4⟩) fun H3 p3 => ⟨xs.length - (i + 1), by omega, rfl, hlt, hσ, by omega, p3⟩
 ·have e : i = xs.length := by omega
  subst e
  exact .inl ⟨⟨xs, q, Nat.le_refl _⟩, by omega, hd ys H hy p⟩
theorem compN_tup {K : PySem.W.Frag} {a : Addr} {xs : List V} {k : Nat} {tc : TT} {te : TE} {τ : St} {H : Hp} {Q : VK} (Pv : Nat -> List V -> Hp -> Prop) (h0 : Pv 0 [] H) (hz : xs.length <= sizeLine)
  (hl : ∀ i ys H, i <= xs.length -> Pv i ys H -> SqT K H a xs) (hs : ∀ i x ys H, xs[i]? = some x -> ys.length <= i -> Pv i ys H -> StepC k tc te τ Pv i x ys H)
  (hd : ∀ ys H, ys.length <= xs.length -> Pv xs.length ys H -> ∀ l, H l = none -> Q (.ref l) (upd H l (.lst ys))) :
  CompW (Itt K a) (gName k) tc te τ Q H := by
 refine ⟨fun i m σ ys H => m = xs.length - i /\ i <= xs.length /\ (∀ x, σ.set k (some x) = τ.set k (some x)) /\ ys.length <= i /\ Pv i ys H, ⟨xs.length, by simp, Nat.zero_le _, fun _ => rfl, Nat.le_refl _, h0⟩, ?_⟩
 rintro i m σ ys H ⟨rfl, hi, hτ, hy, p⟩
 have q := hl i ys H hi p
 by_cases hlt : i < xs.length
 ·refine .inr ⟨⟨xs, xs[i], q, by simp [hlt]⟩, fun x H' y => ?_⟩
  obtain ⟨e, y⟩ := y
  subst e
  show tc (σ.set k (some x)) _ _
  rw [hτ x]
  have hσ : ∀ z, (τ.set k (some x)).set k (some z) = τ.set k (some z) := fun z => by rw [List.set_set]
  refine hs i x ys _ (y xs q) hy p _ _ (fun y4 H4 p4 => ⟨by omega, xs.length - (i + 1), by omega, rfl, hlt, hσ, by rw [List.length_append, List.length_singleton]; omega, p4⟩) fun H3 p3 => ⟨xs.length - (i + 1), by omega, rfl, hlt, hσ, by omega, p3⟩
 ·have e : i = xs.length := by omega
  subst e
  exact .inl ⟨⟨xs, q, Nat.le_refl _⟩, by omega, hd ys H hy p⟩
structure Cal (P : Program) (w : World) (K : PySem.W.Frag) (mg : Str -> Option Value) (base : Heap) (k : Nat) (x : Str) (ps : List Str) (sp : Sp) : Prop where
 ex : ∃ f fd, FnOk P w K mg base CX0 k f fd ps sp /\ mg x = some (.ref f) /\ PySem.W.keepIn K (.ref f) = true /\ Binds K fd ps []
theorem pe_cal {X : Cx} {j k : Nat} {x : Str} {ps : List Str} {sp : Sp} {e : Expr} {es : List Expr} {t : TA} {p pos : Pos} (C : Cal X.prog X.w X.K X.mg X.base k x ps sp) (hr : Room j X.A) (hj : k <= j) (hg : Gl X x) (ha : PA X (e :: es) t)
  (hdb : (x == ("__debug__" : Str)) = false := by decide) (he : starEach (e :: es) X.env = (false, eval e X.env) :: starEach es X.env := by rfl) (hpl : (backTo pos (starEach es X.env)).any (·.1) = false := by rfl) :
  PE X (.Call (.Name x p) (e :: es) [] pos) (tCall sp [] E0 t) := by
 obtain ⟨f, fd, F, m, kp, b⟩ := C.ex
 exact pe_call F (hr.mono hj) hg m kp b .nil pass0 ha hdb he hpl
theorem same_new {H : Hp} {p : Addr} (h : H p = none) (o : HO) : Same H (upd H p o) := fun b u q => by rw [upd_ne (ne_of_none q h)]; exact q
theorem small {n : Nat} (h : n <= 1000) : n <= sizeLine := Nat.le_of_lt (small1000 h)
end L2
set_option Elab.async false
set_option linter.all false
set_option maxRecDepth 100000
set_option maxHeartbeats 4000000
namespace L2
open PySem PySem.Spec PyProof.Rows
section
variable {X : Cx}
theorem bools_truth {its : List Value} {bs : List Bool} (h : Vals (bs.map V.bl) its) {prog : Program} {w : World} {A : Around} : TruthOf prog w A (fun i v => its.toArray[i]? = some v) (fun i => bs.getD i false) := by
 intro i v s Q E hv q
 have l := h.length
 rw [List.length_map] at l
 have hi : i < its.length := by
  rw [List.getElem?_toArray] at hv
  exact (List.getElem?_eq_some_iff.mp hv).1
 have e : (bs.map V.bl)[i]? = some (.bl (bs.getD i false)) := by
  rw [List.getElem?_map, List.getD_eq_getElem?_getD, List.getElem?_eq_getElem (by omega)]
  rfl
 obtain ⟨u, e1, e2⟩ := h.get e
 rw [List.getElem?_toArray, e1] at hv
 have ev : u = v := Option.some.inj hv
 subst ev
 cases (show u = Value.bool _ from e2)
 exact wpAny_truthy_bool q
theorem all_range (bs : List Bool) : ((List.range bs.length).all fun i => bs.getD i false) = bs.all id := by
 rw [Bool.eq_iff_iff, List.all_eq_true, List.all_eq_true]
 constructor
 ·intro h x hx
  obtain ⟨i, e⟩ := List.mem_iff_getElem?.mp hx
  have hi : i < bs.length := (List.getElem?_eq_some_iff.mp e).1
  have q := h i (List.mem_range.mpr hi)
  rw [List.getD_eq_getElem?_getD, e] at q
  exact q
 ·intro h i hi
  have hi' := List.mem_range.mp hi
  rw [List.getD_eq_getElem?_getD, List.getElem?_eq_getElem hi']
  exact h _ (List.getElem_mem hi')
theorem call_all (hc : X.calm = true) : CallR X (.builtin "all") (fun xs H Q => ∃ (p : Addr) (bs : List Bool), xs = [.ref p] /\ SqL X.K H p (bs.map V.bl) /\ Q (.bl (bs.all id)) H) := by
 intro pins s σ H xs us Q I r h
 obtain ⟨p, bs, rfl, hs, q⟩ := h
 obtain ⟨u, rfl, ru⟩ := vals1 r
 cases (show u = Value.ref p from ru)
 obtain ⟨its, rv, pl, hz⟩ := I.list hs
 have l := rv.length
 rw [List.length_map] at l
 have hpl : p < s.heap.objs.size := by obtain ⟨o, _, e, _⟩ := pl; exact Heap.lt_size e
 refine call_all_walk (wpAny_pyIter_list pl.isList ?_)
 have hd : X.A.in1.handled = none := I.ok.hd hc
 refine ⟨s.heap.objs.size, _, _, _, _, _, _, rfl, Walks.list hd s.heap.objs.size p (Nat.ne_of_lt hpl) its.toArray, ⟨⟨_, Heap.get?_push_size _ rfl, rfl, rfl⟩, ?_⟩, bools_truth rv, fun h' tk k => ?_⟩
 ·exact pl.isList.at fun o e => Heap.get?_push_of_some _ e
 ·have e : ((List.range its.toArray.size).all fun i => bs.getD i false) = bs.all id := by rw [List.size_toArray, <- l, all_range]
  rw [e]
  refine ⟨.bl (bs.all id), H, I.kept (t' := tk) (fun b o eb => k b o ?_ (Heap.get?_push_of_some _ eb)), rfl, q⟩
  intro hb
  have : b = s.heap.objs.size := by simpa using hb
  exact absurd (Heap.lt_size eb) (by rw [this]; exact Nat.lt_irrefl _)
theorem TyOf.kit {pins : List (Addr × Obj)} {σ : St} {H : Hp} {s : Shared} {x : V} {u t : Value} (I : Inv X pins σ H s) (rx : RelV x u) (ty : TyOf X.K H x t) (hn : ∀ a C dx fs, H a = some (.ins C dx fs) -> x ≠ .ref a) :
  ∃ P : Heap -> Prop, PySem.W.KitX X.K u t P /\ P s.heap /\ u ≠ .builtin "__main__.__loader__#opaque" := by
 cases ty with
 | non => cases (show u = Value.none from rx); exact ⟨_, PySem.W.kitx_none, True.intro, fun z => nomatch z⟩
 | bl y => cases (show u = Value.bool y from rx); exact ⟨_, PySem.W.kitx_bool, True.intro, fun z => nomatch z⟩
 | int i => obtain ⟨t, q⟩ := (show ∃ t, u = Value.int i t from rx); cases q; exact ⟨_, PySem.W.kitx_int, True.intro, fun z => nomatch z⟩
 | str y => obtain ⟨t, q⟩ := (show ∃ t, u = Value.str y t from rx); cases q; exact ⟨_, PySem.W.kitx_str, True.intro, fun z => nomatch z⟩
 | flt y => obtain ⟨t, q⟩ := (show ∃ t, u = Value.float y t from rx); cases q; exact ⟨_, PySem.W.kitx_float, True.intro, fun z => nomatch z⟩
 | @lst a xs ea =>
  cases (show u = Value.ref a from rx)
  obtain ⟨_, _, n, _, h1⟩ := (show ObjOk X.prog X.w H s.heap a (.lst xs) from I.hok a _ ea)
  exact ⟨_, PySem.W.kitx_list, ⟨_, h1, rfl⟩, fun z => nomatch z⟩
 | @frz a ob xs ea =>
  cases (show u = Value.ref a from rx)
  obtain ⟨_, _, _, n, _, h1⟩ := (show ObjOk X.prog X.w H s.heap a (.frz ob (.lst xs)) from I.hok a _ ea)
  exact ⟨_, PySem.W.kitx_list, ⟨_, h1, rfl⟩, fun z => nomatch z⟩
 | @tup a xs ea =>
  cases (show u = Value.ref a from rx)
  obtain ⟨_, _, _, p⟩ := (show ObjOk X.prog X.w H s.heap a (.tup xs) from I.hok a _ ea)
  obtain ⟨o, h1, h2, _⟩ := p
  exact ⟨_, PySem.W.kitx_tuple, ⟨o, h1, h2.1⟩, fun z => nomatch z⟩
 | @dK a kvs ea =>
  cases (show u = Value.ref a from rx)
  obtain ⟨_, _, vs, _, p⟩ := (show ObjOk X.prog X.w H s.heap a (.dK kvs) from I.hok a _ ea)
  obtain ⟨o, es, ep, h1, h2, _⟩ := p
  exact ⟨_, PySem.W.kitx_dict, ⟨o, h1, h2.1⟩, fun z => nomatch z⟩
 | @dT a kvs ea =>
  cases (show u = Value.ref a from rx)
  obtain ⟨_, _, xs, _, o, es, ep, h1, h2, _⟩ := (show ObjOk X.prog X.w H s.heap a (.dT kvs) from I.hok a _ ea)
  exact ⟨_, PySem.W.kitx_dict, ⟨o, h1, h2.1⟩, fun z => nomatch z⟩
 | @ins a C dx fs ea cl ha hn' htk hm => exact absurd rfl (hn a C dx fs ea)
theorem vals_tys : ∀ {Ts : List String} {us : List Value}, Vals (Ts.map V.ty) us -> us = Ts.map Value.type
 | [], _, r => by cases r; rfl
 | T :: Ts, _, r => by
  cases r with
  | cons h t => rw [List.map_cons, <- vals_tys t, show _ = Value.type T from h]
theorem call_isinstT : CallR X (.builtin "isinstance") (fun xs H Q => ∃ (x : V) (p : Addr) (Ts : List String) (t : Value) (b : Bool), xs = [x, .ref p] /\ SqT X.K H p (Ts.map V.ty) /\ TyOf X.K H x t /\ (∀ a C dx fs, H a = some (.ins C dx fs) -> x ≠ .ref a) ∧
  PySem.W.kitAny X.K t (Ts.map Value.type) = some b /\ Q (.bl b) H) := by
 intro pins s σ H xs us Q I r h
 obtain ⟨x, p, Ts, t, b, rfl, hs, ty, hn, e, q⟩ := h
 obtain ⟨u, w', rfl, ru, rw'⟩ := vals2 r
 cases (show w' = Value.ref p from rw')
 obtain ⟨its, rv, ⟨⟨c, dd, da, sl⟩, eo, ec, n, ed⟩, _⟩ := I.tuple hs
 have ei := vals_tys rv
 simp only at ec ed
 subst ec ed
 obtain ⟨P, Z, hP, hne⟩ := TyOf.kit I ru ty hn
 rw [<- ei] at e
 exact PySem.W.kia_tup Z I.kIn hP eo e hne fun tk => ⟨.bl b, H, I.tok tk, rfl, q⟩
def EqTrue (K : PySem.W.Frag) (H : Hp) : Nat -> V -> V -> Prop
 | 0, x, y => (∃ i, x = .int i /\ y = .int i) \/ ∃ a, x = .ref a /\ y = .ref a
 | n + 1, x, y => (∃ i, x = .int i /\ y = .int i) \/ (∃ a, x = .ref a /\ y = .ref a) \/ ∃ a b xs ys, x = .ref a /\ y = .ref b /\ ((SqT K H a xs /\ SqT K H b ys) \/ (SqL K H a xs /\ SqL K H b ys)) /\ Paired (EqTrue K H n) xs ys
theorem paired_at {α β : Type} {F : α -> β -> Prop} : ∀ {l : List α} {m : List β} {i : Nat} {x : α} {y : β}, Paired F l m -> l[i]? = some x -> m[i]? = some y -> F x y
 | _, _, 0, _, _, .cons h _, e1, e2 => by simp at e1 e2; subst e1 e2; exact h
 | _, _, i + 1, _, _, .cons _ t, e1, e2 => paired_at (i := i) t (by simpa using e1) (by simpa using e2)
 | _, _, _, _, _, .nil, e1, _ => by simp at e1
theorem all_true (n : Nat) : ((List.range n).all fun _ => true) = true := by simp
theorem eqTrue_items {K : PySem.W.Frag} {H : Hp} {n : Nat} {s : Shared} {A : Around} {xs ys : List V} {us vs : List Value} (p : Paired (EqTrue K H n) xs ys) (r1 : Vals xs us) (r2 : Vals ys vs)
  (ih : ∀ x y u v, EqTrue K H n x y -> RelV x u -> RelV y v -> SeqAt.EqAt A s u v true) : ∀ j (h1 : j < us.toArray.size) (h2 : j < vs.toArray.size), SeqAt.EqAt A s us.toArray[j] vs.toArray[j] true := fun j h1 h2 => by
 rw [List.size_toArray] at h1 h2
 have l1 := r1.length
 have l2 := r2.length
 have e1 : xs[j]? = some xs[j] := List.getElem?_eq_getElem (by omega)
 have e2 : ys[j]? = some ys[j] := List.getElem?_eq_getElem (by omega)
 obtain ⟨u, g1, q1⟩ := r1.get e1
 obtain ⟨v, g2, q2⟩ := r2.get e2
 have f1 : us.toArray[j] = u := by simp [List.getElem?_eq_some_iff] at g1; obtain ⟨_, g⟩ := g1; simpa using g
 have f2 : vs.toArray[j] = v := by simp [List.getElem?_eq_some_iff] at g2; obtain ⟨_, g⟩ := g2; simpa using g
 rw [f1, f2]
 exact ih _ _ u v (paired_at p e1 e2) q1 q2
theorem eqTrue_at {pins : List (Addr × Obj)} {σ : St} {H : Hp} {s : Shared} (I : Inv X pins σ H s) : ∀ (n : Nat) (A : Around) (x y : V) (u v : Value), A.units + n < cLine -> EqTrue X.K H n x y -> RelV x u -> RelV y v -> SeqAt.EqAt A s u v true
 | 0, A, x, y, u, v, _, h, ru, rv => by
  rcases h with ⟨i, rfl, rfl⟩ | ⟨a, rfl, rfl⟩
  ·obtain ⟨t, rfl⟩ := (show ∃ t, u = Value.int i t from ru)
   obtain ⟨t', rfl⟩ := (show ∃ t, v = Value.int i t from rv)
   have := SeqAt.EqAt.int_int (A := A) (s := s) i t i t'
   rw [beq_self_eq_true] at this
   exact this
  ·cases (show u = Value.ref a from ru)
   cases (show v = Value.ref a from rv)
   exact SeqAt.EqAt.same _
 | n + 1, A, x, y, u, v, hA, h, ru, rv => by
  rcases h with ⟨i, rfl, rfl⟩ | ⟨a, rfl, rfl⟩ | ⟨a, b, xs, ys, rfl, rfl, hs, p⟩
  ·obtain ⟨t, rfl⟩ := (show ∃ t, u = Value.int i t from ru)
   obtain ⟨t', rfl⟩ := (show ∃ t, v = Value.int i t from rv)
   have := SeqAt.EqAt.int_int (A := A) (s := s) i t i t'
   rw [beq_self_eq_true] at this
   exact this
  ·cases (show u = Value.ref a from ru)
   cases (show v = Value.ref a from rv)
   exact SeqAt.EqAt.same _
  ·cases (show u = Value.ref a from ru)
   cases (show v = Value.ref b from rv)
   by_cases hab : a = b
   ·subst hab; exact SeqAt.EqAt.same _
   refine SeqAt.EqAt.of_refs hab ?_
   have ih : ∀ x y u v, EqTrue X.K H n x y -> RelV x u -> RelV y v -> SeqAt.EqAt A.in1 s u v true := fun x y u v h1 h2 h3 => eqTrue_at I n A.in1 x y u v (by show A.units + 1 + n < cLine; omega) h1 h2 h3
   have pl := Paired.length p
   rcases hs with ⟨h1, h2⟩ | ⟨h1, h2⟩
   ·obtain ⟨its, r1, p1, _⟩ := I.tuple h1
    obtain ⟨its2, r2, p2, _⟩ := I.tuple h2
    have q := SeqAt.RcAt.tuples (e := fun _ => true) (show s.heap.IsTuple a its.toArray from p1) (show s.heap.IsTuple b its2.toArray from p2) (by omega) (eqTrue_items p r1 r2 ih)
    have ez : its.toArray.size = its2.toArray.size := by rw [List.size_toArray, List.size_toArray, <- r1.length, <- r2.length, pl]
    rw [all_true, ez, beq_self_eq_true] at q
    exact q
   ·obtain ⟨its, r1, p1, _⟩ := I.list h1
    obtain ⟨its2, r2, p2, _⟩ := I.list h2
    have q := SeqAt.RcAt.lists (e := fun _ => true) p1.isList p2.isList (by rw [List.size_toArray, List.size_toArray, <- r1.length, <- r2.length, pl]) (by omega) (eqTrue_items p r1 r2 ih)
    rw [all_true] at q
    exact q
theorem op_neL {k : Nat} (hr : Room k X.A) : OpR X (compareOp .NotEq) (fun x y H Q => ∃ a b xs ys, x = .ref a /\ y = .ref b /\ SqL X.K H a xs /\ SqL X.K H b ys /\ ((xs.length ≠ ys.length /\ Q (.bl true) H) \/ (Paired (EqTrue X.K H 20) xs ys /\ Q (.bl false) H))) := by
 intro pins s σ H x y v u Q I rx ry h
 obtain ⟨a, b, xs, ys, rfl, rfl, h1, h2, h3⟩ := h
 cases (show v = Value.ref a from rx)
 cases (show u = Value.ref b from ry)
 obtain ⟨its, r1, ⟨⟨c1, d1, da1, sl1⟩, n1, e1, k1, _, k3⟩, _⟩ := I.list h1
 obtain ⟨its2, r2, ⟨⟨c2, d2, da2, sl2⟩, n2, e2, g1, _, g3⟩, _⟩ := I.list h2
 simp only at k1 k3 g1 g3
 subst k1 k3 g1 g3
 have l1 := r1.length
 have l2 := r2.length
 have hu := hr.un
 have hu1 : X.A.units < cLine := by omega
 rcases h3 with ⟨ne, q⟩ | ⟨p, q⟩
 ·refine richCompare_meets_room (op := .NotEq) ⟨_, e1, rfl⟩ ⟨_, e2, rfl⟩ F.slot_list_ne F.entry_list_ne (F.args_list_ne_2 _ _) (SeqAt.list_ne_lengthsAt a b its.toArray its2.toArray n1 n2 d1 d2 sl1 sl2 (by simp; omega)) ⟨e1, e2, ?_⟩ hu1
  exact ⟨(fun z => nomatch z), ⟨.bl true, H, I, rfl, q⟩⟩
 ·have pl := Paired.length p
  refine richCompare_meets_room (op := .NotEq) ⟨_, e1, rfl⟩ ⟨_, e2, rfl⟩ F.slot_list_ne F.entry_list_ne (F.args_list_ne_2 _ _) (SeqAt.list_neAt a b its.toArray its2.toArray n1 n2 d1 d2 sl1 sl2 (by rw [List.size_toArray, List.size_toArray]; omega) (fun _ => true)) ⟨e1, e2, ?_, ?_⟩ hu1
  ·exact eqTrue_items p r1 r2 fun x y u v h1 h2 h3 => eqTrue_at I 20 _ x y u v (by show X.A.units + 1 + _ < cLine; omega) h1 h2 h3
  ·rw [all_true]
   exact ⟨(fun z => nomatch z), ⟨.bl false, H, I, rfl, q⟩⟩
end
end L2
set_option Elab.async false
set_option linter.all false
set_option maxRecDepth 100000
set_option maxHeartbeats 4000000
namespace L2
open PySem PySem.Spec PyProof.Rows
def gPair (K : PySem.W.Frag) (k l : Nat) : TG := gTup K 2 (gCons (gName k) (gCons (gName l) gNil))
def StepP (k l : Nat) (tc : TT) (te : TE) (τ : St) (Pv : Nat -> List V -> Hp -> Prop) (i : Nat) (a b : V) (ys : List V) (H : Hp) : Prop :=
 ∀ (R1 : V -> Hp -> Prop) (R0 : Hp -> Prop), (∀ y H4, Pv (i + 1) (ys ++ [y]) H4 -> R1 y H4) -> (∀ H3, Pv (i + 1) ys H3 -> R0 H3) -> tc ((τ.set k (some a)).set l (some b)) H fun c H3 => if c = true then te ((τ.set k (some a)).set l (some b)) H3 R1 else R0 H3
end L2
namespace L2
open PySem PySem.Spec PyProof.Rows
section
variable {X : Cx} {K : PySem.W.Frag}
end
end L2
set_option Elab.async false
set_option linter.all false
set_option maxRecDepth 100000
set_option maxHeartbeats 4000000
namespace L2
open PySem PySem.Spec PyProof.Rows
theorem Inv.turnedLaid {X : Cx} {pins : List (Addr × Obj)} {σ : St} {H : Hp} {s : Shared} {h' : Heap} {t' : Nat} {ch : List Addr} {T : Addr} {o : HO} (I : Inv X pins σ H s) (f : ∀ b ∈ ch, FpOk X pins H b)
  (k : ∀ b ob, b ∉ ch -> s.heap.get? b = some ob -> h'.get? b = some ob) (th : ∀ b ∈ ch, ∃ ob, h'.get? b = some ob) (hT : s.heap.objs.size <= T) (new : ObjOk X.prog X.w (upd H T o) h' T o) : Inv X pins σ (upd H T o) { s with heap := h', toks := t' } := by
 have hn : H T = none := I.hok.fresh hT
 have nT : ∀ b ob, s.heap.get? b = some ob -> b ≠ T := fun b ob e => Nat.ne_of_lt (Nat.lt_of_lt_of_le (Heap.lt_size e) hT)
 refine I.step (g' := s.gens) (d' := s.drawn) (ch := ch) (fun b hb => ?_) (fun b ob _ _ hc e _ => k b ob hc e) (fun b ob _ _ hc e _ => ⟨ob.slots, k b ob hc e⟩) (fun b ob _ e n => by rw [upd_ne (nT b ob e)]; exact n)
  (fun b ob hc e => ⟨ob, k b ob hc e⟩) (fun b xs e => by rw [upd_ne (ne_of_none e hn)]; exact e) (fun b ob u e => by rw [upd_ne (ne_of_none e hn)]; exact e) (fun b ps e => ⟨#[], by rw [upd_ne (ne_of_none e hn), e]; simp⟩) (fun m hm => ?_) (fun b u e => ?_) I.bare
 ·obtain ⟨g0, g1, g2, g3, g4, g5⟩ := f b hb
  exact ⟨g3, g1, g4, g5⟩
 ·obtain ⟨ob, es, ep, ho, r⟩ := hm
  exact ⟨ob, es, ep, k _ ob (fun z => (f _ z).2.1 rfl) ho, r⟩
 ·by_cases hb : b = T
  ·subst hb
   rw [upd_same] at e
   cases e
   exact new
  ·rw [upd_ne hb] at e
   refine (I.hok b u e).stay (fun c v hc q => k c v ?_ q) (fun c q => by rw [upd_ne (ne_of_none q hn)]; exact q) fun c xs q => by rw [upd_ne (ne_of_none q hn)]; exact q
   intro z
   have n0 := (f c z).1
   rcases hc with hc | hc
   ·rw [hc, e] at n0; cases n0
   ·rw [hc] at n0; cases n0
def Ite (K : PySem.W.Frag) (a : Addr) : It :=
 ⟨fun i H => ∃ xs v, SqL K H a xs /\ xs[i]? = some v, fun i H x H' => ∃ T v, H T = none /\ x = .ref T /\ H' = upd H T (.tup [.int i, v]) /\ ∀ xs, SqL K H a xs -> xs[i]? = some v, fun i H => ∃ xs, SqL K H a xs /\ xs.length <= i⟩
theorem turn_enum {P : Program} {w : World} {K : PySem.W.Frag} {elts : List Expr} {k : Nat} {pos : Pos} (a e it : Addr) (hne : e ≠ it) : Turn P w K (.Tuple elts k pos) (Ite K a) [e, it] e (fun i h => (∃ old, IsEnum h e it i old) /\ h.IsListIter it a i) where
 mem := by simp
 obj := fun i h ⟨⟨old, h1⟩, h2⟩ b hb => by
  rcases List.mem_cons.mp hb with q | q
  ·subst q
   exact ⟨_, h1, fun v z => nomatch z⟩
  ·have q' : b = it := by simpa using q
   subst q'
   obtain ⟨o, ho, _, hd⟩ := h2
   exact ⟨o, ho, fun v z => by rw [hd] at z; cases z⟩
 keep := fun i h h' ⟨⟨old, h1⟩, h2⟩ kp => ⟨⟨old, kp e (by simp) _ h1⟩, h2.at fun o x => kp it (by simp) o x⟩
 item := fun X eP eW eK hcalm i pins s σ H E I f ⟨⟨old, h1⟩, h2⟩ go => by
  subst eP eW eK
  obtain ⟨xs, v, hs, hv⟩ := go
  obtain ⟨its, r, pl, hz⟩ := I.list hs
  obtain ⟨u, eu, ru⟩ := r.get hv
  refine wpAny_pyNext_enum_item h1 h2 pl.isList (x := u) (by rw [List.getElem?_toArray]; exact eu) hne fun h' o1 o2 o3 o4 kp => ?_
  refine ⟨_, rfl, ?_⟩
  refine wpAny_letOwnedTupleGo_enum o1 fun h2' e2 sb => ?_
  have eT : e ≠ s.heap.objs.size := Nat.ne_of_lt (Heap.lt_size h1)
  have kp2 : ∀ b ob, b ∉ [e, it] -> s.heap.get? b = some ob -> h2'.get? b = some ob := fun b ob hb eb => by
   have n1 : b ≠ e := fun z => hb (by simp [z])
   have n2 : b ≠ it := fun z => hb (by simp [z])
   rw [sb.2 b n1]
   exact kp b ob n1 n2 eb
  have li : h2'.IsListIter it a (i + 1) := o2.at fun ob eb => by rw [sb.2 it (Ne.symm hne)]; exact eb
  have tp : h2'.get? s.heap.objs.size = some { cls := .type "tuple", data := .seq #[.int i s.toks, u] } := by rw [sb.2 _ (Ne.symm eT)]; exact o3
  refine ⟨.ref s.heap.objs.size, upd H s.heap.objs.size (.tup [.int i, v]), I.turnedLaid (ch := [e, it]) f kp2 (fun b hb => ?_) (Nat.le_refl _) ?_, rfl, ⟨s.heap.objs.size, v, I.hok.fresh (Nat.le_refl _), rfl, rfl, fun ys hy => ?_⟩, ⟨⟨_, e2⟩, li⟩, fun b hb => ?_⟩
  ·rcases List.mem_cons.mp hb with q | q
   ·subst q; exact ⟨_, e2⟩
   ·have q' : b = it := by simpa using q
    subst q'
    obtain ⟨ob, ho, _⟩ := li
    exact ⟨ob, ho⟩
  ·refine ⟨(by show 2 <= sizeLine; decide), [.int i s.toks, u], .cons ⟨_, rfl⟩ (.cons ru .nil), _, tp, ⟨rfl, rfl⟩, _, rfl⟩
  ·rw [I.list_inj hy hs]; exact hv
  ·have ne : b ≠ s.heap.objs.size := by
    rcases List.mem_cons.mp hb with q | q
    ·rw [q]; exact eT
    ·have q' : b = it := by simpa using q
     rw [q']
     obtain ⟨ob, ho, _⟩ := h2
     exact Nat.ne_of_lt (Heap.lt_size ho)
   rw [upd_ne ne]
   exact (f b hb).1
 done := fun X eP eW eK hcalm i pins s σ H E I f ⟨⟨old, h1⟩, h2⟩ stop => by
  subst eP eW eK
  obtain ⟨xs, hs, hl⟩ := stop
  obtain ⟨its, r, pl, hz⟩ := I.list hs
  have l := r.length
  refine wpAny_pyNext_enum_end (I.ok.hd hcalm) h1 h2 pl.isList (by rw [List.getElem?_toArray]; exact List.getElem?_eq_none_iff.mpr (by omega)) fun h' ex => ⟨rfl, ?_⟩
  obtain ⟨g0, g1, g2, g3, g4, g5⟩ := f it (by simp)
  exact I.turned (it := it) (h' := h') (t' := s.toks) (fun b o ne eb => ex b o ne eb) g0 g1 g3 g4 g5
 self := fun A i s Q E ⟨⟨old, h1⟩, _⟩ q => by
  refine wpAny_pyIter_slot ⟨_, h1, rfl⟩ F.slot_enumerate_iter (wpAny_call_entry F.slot_enumerate_iter ⟨_, h1, rfl⟩ F.entry_enumerate_iter ?_ (F.args_enumerate_iter_1 _))
  show wpAny _ _ (ret (.ref e)) _ _ s
  exact wpAny_pure ⟨_, rfl, "enumerate", _, ⟨_, h1, rfl⟩, F.slot_enumerate_next.lookup, q⟩
end L2
set_option Elab.async false
set_option linter.all false
set_option maxRecDepth 100000
set_option maxHeartbeats 4000000
namespace L2
open PySem PySem.Spec PyProof.Rows
open PySem.AutoSeq1 (wpAny_loadPart')
section
variable {prog : Program} {w : World} {A : Around} {E : Value -> Shared -> Prop} {s : Shared}
theorem nextOf_tup {it t : Addr} {i : Nat} {items : Array Value} {x : Value} {Q : Value -> Shared -> Prop} (hi : s.heap.IsTupleIter it t i) (hl : s.heap.IsTuple t items) (hx : items[i]? = some x)
  (q : ∀ h', h'.IsTupleIter it t (i + 1) -> Heap.SameBut it s.heap h' -> Q x { s with heap := h' }) : wpAny (model prog w) A (Builtin.SmallTypes.nextOf (.ref it)) Q E s := by
 obtain ⟨o, eo, oc, od⟩ := id hi
 obtain ⟨ol, el, _, nl, dl⟩ := hl
 unfold Builtin.SmallTypes.nextOf
 refine wpAny_bind (wpAny_callSpecial?_slot (name := Str.ofString "__next__") hi.typeIs F.slot_tuple_iterator_next (wpAny_call_entry F.slot_tuple_iterator_next hi.typeIs F.entry_tuple_iterator_next ?_ (F.args_tuple_iterator_next_1 _)))
 show wpAny _ _ (field (.ref it) 0 >>= _) _ _ s; refine wpAny_bind (wpAny_field eo od (x := .ref t) rfl ?_)
 show wpAny _ _ (if (Value.ref t == Value.none) = true then _ else _) _ _ s; rw [if_neg (show ¬ ((Value.ref t == Value.none) = true) from Bool.false_ne_true)]
 show wpAny _ _ (field (.ref it) 1 >>= _) _ _ s; refine wpAny_bind (wpAny_field eo od (x := .int i 0) rfl ?_)
 show wpAny _ _ (seqItems? (.ref t) >>= _) _ _ s; refine wpAny_bind (wpAny_seqItems el dl ?_)
 simp only [Int.toNat_natCast, hx]; refine wpAny_bind (wpAny_setField eo od (by simp) (wpAny_pure ⟨x, rfl, wpAny_pure (q _ ?_ (Heap.SameBut.update ..))⟩))
 exact ⟨_, Heap.get?_update_self _ eo (Obj.isFreed_of_fields (Obj.data_mapFields od _)), (Obj.cls_mapFields ..).trans oc, by rw [Obj.data_mapFields od]; simp [rawInt]⟩
theorem nextOf_tup_end {it t : Addr} {i : Nat} {items : Array Value} {Q : Value -> Shared -> Prop} (hh : A.handled = none) (hi : s.heap.IsTupleIter it t i) (hl : s.heap.IsTuple t items) (hx : items[i]? = none)
  (q : ∀ h' e, Heap.ExtBut it s.heap h' -> (∃ o, h'.get? e = some o /\ o.cls = .type "StopIteration") -> E (.ref e) { s with heap := h' }) : wpAny (model prog w) A (Builtin.SmallTypes.nextOf (.ref it)) Q E s := by
 obtain ⟨o, eo, oc, od⟩ := id hi
 obtain ⟨ol, el, _, nl, dl⟩ := hl
 unfold Builtin.SmallTypes.nextOf
 refine wpAny_bind (wpAny_callSpecial?_slot (name := Str.ofString "__next__") hi.typeIs F.slot_tuple_iterator_next (wpAny_call_entry F.slot_tuple_iterator_next hi.typeIs F.entry_tuple_iterator_next ?_ (F.args_tuple_iterator_next_1 _)))
 show wpAny _ _ (field (.ref it) 0 >>= _) _ _ s; refine wpAny_bind (wpAny_field eo od (x := .ref t) rfl ?_)
 show wpAny _ _ (if (Value.ref t == Value.none) = true then _ else _) _ _ s; rw [if_neg (show ¬ ((Value.ref t == Value.none) = true) from Bool.false_ne_true)]
 show wpAny _ _ (field (.ref it) 1 >>= _) _ _ s; refine wpAny_bind (wpAny_field eo od (x := .int i 0) rfl ?_)
 show wpAny _ _ (seqItems? (.ref t) >>= _) _ _ s; refine wpAny_bind (wpAny_seqItems el dl ?_)
 simp only [Int.toNat_natCast, hx]; refine wpAny_bind (wpAny_rule (wpAny_bind (wpAny_setField eo od (by simp) ?_)))
 show wpAny _ _ (newExc (.type "StopIteration") [] >>= _) _ _ _; refine wpAny_bind ?_
 simp only [newExc, newTuple]; refine wpAny_bind (wpAny_newObj_type ?_ (by size_fits))
 refine wpAny_bind (m := firstArgMember _ _) (wpAny_of_eq (a := Value.none) (by first | rfl | (simp only [firstArgMember]; rfl)) ?_); refine wpAny_newObj_type ?_ (by size_fits)
 simp only [raiseNew]; refine wpAny_bind (wpAny_handled ?_)
 first | (rw [show A.in1.handled = none from hh]) | (rw [hh])
 refine wpAny_bind (wpAny_pure (wpAny_throw ?_)); exact q _ _ (((Heap.SameBut.update ..).extBut.push _).push _) ⟨_, Heap.get?_push_size _ rfl, rfl⟩
theorem draws_tup (hh : A.handled = none) (it l : Addr) (hne : l ≠ it) (items : Array Value) :
  Draws prog w A it [it, l] items.size (fun i v => items[i]? = some v) (fun i h => h.IsTupleIter it l i /\ h.IsTuple l items) where
 live := fun _ _ st => by obtain ⟨o, ho, _⟩ := st.1; exact ⟨o, ho⟩
 frame := fun _ _ _ st hk => ⟨st.1.at fun o e => hk it (by simp) o e, by obtain ⟨o, e, r⟩ := st.2; exact ⟨o, hk l (by simp) o e, r⟩⟩
 item := fun i s Q E hi st hQ => by
  refine nextOf_tup st.1 st.2 (x := items[i]) (by simp [hi]) fun h' hit' hs' => ?_
  obtain ⟨o, e, r⟩ := st.2
  exact hQ _ h' s.toks (by simp [hi]) ⟨hit', o, by rw [hs'.2 l hne]; exact e, r⟩ hs'
 done := fun s Q E st hE => nextOf_tup_end hh st.1 st.2 (by simp) hE
theorem enum_new_tup (l : Addr) (items : Array Value) (n : Nat) (dct : Option Addr) (sl : Array (Option Value)) :
  Meets (Builtin.«enumerate.__new__» ⟨[.type "enumerate", .ref l], []⟩) (fun _ R s => s.heap.get? l = some { cls := .type "tuple", dict := dct, data := .seq items n, slots := sl } ∧
   R (.ok (.ret (.ref (s.heap.push { cls := .type "tuple_iterator", data := .fields #[.ref l, .int 0 0] }).objs.size)))
    { s with heap := (s.heap.push { cls := .type "tuple_iterator", data := .fields #[.ref l, .int 0 0] }).push { cls := .type "enumerate", data := .fields #[.none, .bool false, .ref s.heap.objs.size, rawInt 0, .none, .none] } }) :=
 .of_wp fun prog w A R s h => by
  obtain ⟨hp, g, d, tk, os⟩ := s; obtain ⟨hl, h⟩ := h
  have hsub := sub_enumerate
  have hT : Heap.IsTuple (Shared.heap ⟨hp, g, d, tk, os⟩) l items := ⟨_, hl, rfl, n, rfl⟩
  wp_walk using wpAny_loadPart' hl
  refine wpAny_stack_any fun st => wpAny_pure ?_
  split
  ·rename_i c _ _ _ _ _
   cases (c == Value.type "enumerate") <;> (wp_walk using wpAny_loadPart' hl, wpAny_pyIter_tuple hT; exact ⟨_, rfl, h⟩)
  ·wp_walk using wpAny_loadPart' hl, wpAny_pyIter_tuple hT; exact ⟨_, rfl, h⟩
theorem call_enum_tup {l : Addr} {items : Array Value} {Q : Value -> Shared -> Prop} (hL : s.heap.IsTuple l items)
  (h : ∀ h', IsEnum h' (s.heap.objs.size + 1) s.heap.objs.size 0 .none -> h'.IsTupleIter s.heap.objs.size l 0 -> h'.objs.size = s.heap.objs.size + 2 -> (∀ b o, s.heap.get? b = some o -> h'.get? b = some o) -> Q (.ref (s.heap.objs.size + 1)) { s with heap := h' }) :
  wpAny (model prog w) A (call (.type "enumerate") [.ref l]) Q E s := by
 obtain ⟨⟨c, dct, dt, sl⟩, hl, hc, n, hd⟩ := hL
 replace hc : c = .type "tuple" := hc
 replace hd : dt = .seq items n := hd
 subst hc hd
 refine callType_new F.called_enumerate (by decide) (F.typeCall_enumerate_1 _) (F.newCall_enumerate_1 _) (fun obj => F.args_object_init_2 obj _) F.entry_enumerate_new (enum_new_tup l items n dct sl) ⟨hl, ?_⟩
 have hz : (s.heap.push { cls := .type "tuple_iterator", data := .fields #[.ref l, .int 0 0] }).objs.size = s.heap.objs.size + 1 := Heap.size_push ..
 show _ /\ _
 rw [hz]
 have he : IsEnum ((s.heap.push { cls := .type "tuple_iterator", data := .fields #[.ref l, .int 0 0] }).push { cls := .type "enumerate", data := .fields #[.none, .bool false, .ref s.heap.objs.size, rawInt 0, .none, .none] }) (s.heap.objs.size + 1) s.heap.objs.size 0 .none := by
  have := Heap.get?_push_size (s.heap.push { cls := .type "tuple_iterator", data := .fields #[.ref l, .int 0 0] }) (o := { cls := .type "enumerate", data := .fields #[.none, .bool false, .ref s.heap.objs.size, rawInt 0, .none, .none] }) rfl
  rw [hz] at this; exact this
 exact ⟨⟨_, he, rfl⟩, h _ he ⟨_, Heap.get?_push_of_some _ (Heap.get?_push_size _ rfl), rfl, rfl⟩ (by rw [Heap.size_push, hz]) fun b o x => Heap.get?_push_of_some _ (Heap.get?_push_of_some _ x)⟩
end
theorem wpAny_pyNext_enum_endT {prog : Program} {w : World} {A : Around} {E : Value -> Shared -> Prop} {s : Shared} {e it t : Addr} {i : Nat} {items : Array Value} {old : Value} {Q : Option Value -> Shared -> Prop} (hh : A.in1.handled = none) (he : IsEnum s.heap e it i old) (hi : s.heap.IsTupleIter it t i)
  (hl : s.heap.IsTuple t items) (hx : items[i]? = none) (q : ∀ h', Heap.ExtBut it s.heap h' -> Q none { s with heap := h' }) : wpAny (model prog w) A (pyNext (.ref e)) Q E s := by
 have hT : s.TypeIs (.ref e) "enumerate" := ⟨_, he, rfl⟩
 unfold pyNext
 refine wpAny_bind (wpAny_attempt (wpAny_callSpecial?_slot (name := Str.ofString "__next__") hT F.slot_enumerate_next (wpAny_call_entry F.slot_enumerate_next hT F.entry_enumerate_next ?_ (F.args_enumerate_next_1 _))))
 show wpAny _ _ (field (.ref e) 2 >>= _) _ _ _; refine wpAny_bind (wpAny_field he rfl (x := .ref it) rfl ?_)
 refine wpAny_bind (nextOf_tup_end hh hi hl hx fun h' x he' hx' => ?_)
 obtain ⟨o, ho, hc⟩ := hx'
 refine wpAny_bind (wpAny_isInstance (T := "StopIteration") (b := true) ⟨o, ho, hc⟩ isSubtype_stop ?_); exact wpAny_pure (q _ he')
def ItE (K : PySem.W.Frag) (a : Addr) : It :=
 ⟨fun i H => ∃ xs v, SqT K H a xs /\ xs[i]? = some v, fun i H x H' => ∃ T v, H T = none /\ x = .ref T /\ H' = upd H T (.tup [.int i, v]) /\ ∀ xs, SqT K H a xs -> xs[i]? = some v, fun i H => ∃ xs, SqT K H a xs /\ xs.length <= i⟩
theorem turn_enumT {P : Program} {w : World} {K : PySem.W.Frag} {elts : List Expr} {k : Nat} {pos : Pos} (a e it : Addr) (hne : e ≠ it) (hai : a ≠ it) (hae : a ≠ e) : Turn P w K (.Tuple elts k pos) (ItE K a) [e, it] e (fun i h => (∃ old, IsEnum h e it i old) /\ h.IsTupleIter it a i) where
 mem := by simp
 obj := fun i h ⟨⟨old, h1⟩, h2⟩ b hb => by
  rcases List.mem_cons.mp hb with q | q
  ·subst q
   exact ⟨_, h1, fun v z => nomatch z⟩
  ·have q' : b = it := by simpa using q
   subst q'
   obtain ⟨o, ho, _, hd⟩ := h2
   exact ⟨o, ho, fun v z => by rw [hd] at z; cases z⟩
 keep := fun i h h' ⟨⟨old, h1⟩, h2⟩ kp => ⟨⟨old, kp e (by simp) _ h1⟩, h2.at fun o x => kp it (by simp) o x⟩
 item := fun X eP eW eK hcalm i pins s σ H E I f ⟨⟨old, h1⟩, h2⟩ go => by
  subst eP eW eK
  obtain ⟨xs, v, hs, hv⟩ := go
  obtain ⟨its, r, pl, hz⟩ := I.tuple hs
  obtain ⟨u, eu, ru⟩ := r.get hv
  have hi : i < its.toArray.size := by rw [List.size_toArray]; exact (List.getElem?_eq_some_iff.mp eu).1
  have hd : X.A.in1.handled = none := I.ok.hd hcalm
  refine wpAny_pyNext_enum_itemD (draws_tup hd it a hai its.toArray) h1 ⟨h2, (show s.heap.IsTuple a its.toArray from pl)⟩ hi hne (by simp [hne, Ne.symm hae]) fun x h' tk px o1 o2 o3 o4 kp => ?_
  rw [List.getElem?_toArray, eu] at px
  have px' : u = x := Option.some.inj px
  subst px'
  refine ⟨_, rfl, ?_⟩
  refine wpAny_letOwnedTupleGo_enum o1 fun h2' e2 sb => ?_
  have eT : e ≠ s.heap.objs.size := Nat.ne_of_lt (Heap.lt_size h1)
  have kp2 : ∀ b ob, b ∉ [e, it] -> s.heap.get? b = some ob -> h2'.get? b = some ob := fun b ob hb eb => by
   have n1 : b ≠ e := fun z => hb (by simp [z])
   have n2 : b ≠ it := fun z => hb (by simp [z])
   rw [sb.2 b n1]
   exact kp b ob n1 n2 eb
  have li : h2'.IsTupleIter it a (i + 1) := o2.1.at fun ob eb => by rw [sb.2 it (Ne.symm hne)]; exact eb
  have tp : h2'.get? s.heap.objs.size = some { cls := .type "tuple", data := .seq #[.int i tk, u] } := by rw [sb.2 _ (Ne.symm eT)]; exact o3
  refine ⟨.ref s.heap.objs.size, upd H s.heap.objs.size (.tup [.int i, v]), I.turnedLaid (ch := [e, it]) f kp2 (fun b hb => ?_) (Nat.le_refl _) ?_, rfl, ⟨s.heap.objs.size, v, I.hok.fresh (Nat.le_refl _), rfl, rfl, fun ys hy => ?_⟩, ⟨⟨_, e2⟩, li⟩, fun b hb => ?_⟩
  ·rcases List.mem_cons.mp hb with q | q
   ·subst q; exact ⟨_, e2⟩
   ·have q' : b = it := by simpa using q
    subst q'
    obtain ⟨ob, ho, _⟩ := li
    exact ⟨ob, ho⟩
  ·refine ⟨(by show 2 <= sizeLine; decide), [.int i tk, u], .cons ⟨_, rfl⟩ (.cons ru .nil), _, tp, ⟨rfl, rfl⟩, _, rfl⟩
  ·rw [I.tuple_inj hy hs]; exact hv
  ·have ne : b ≠ s.heap.objs.size := by
    rcases List.mem_cons.mp hb with q | q
    ·rw [q]; exact eT
    ·have q' : b = it := by simpa using q
     rw [q']
     obtain ⟨ob, ho, _⟩ := h2
     exact Nat.ne_of_lt (Heap.lt_size ho)
   rw [upd_ne ne]
   exact (f b hb).1
 done := fun X eP eW eK hcalm i pins s σ H E I f ⟨⟨old, h1⟩, h2⟩ stop => by
  subst eP eW eK
  obtain ⟨xs, hs, hl⟩ := stop
  obtain ⟨its, r, pl, hz⟩ := I.tuple hs
  have l := r.length
  have hd : X.A.in1.handled = none := I.ok.hd hcalm
  refine wpAny_pyNext_enum_endT (A := X.A) hd h1 h2 (show s.heap.IsTuple a its.toArray from pl) (by rw [List.getElem?_toArray]; exact List.getElem?_eq_none_iff.mpr (by omega)) fun h' ex => ⟨rfl, ?_⟩
  obtain ⟨g0, g1, g2, g3, g4, g5⟩ := f it (by simp)
  exact I.turned (it := it) (h' := h') (t' := s.toks) (fun b o ne eb => ex b o ne eb) g0 g1 g3 g4 g5
 self := fun A i s Q E ⟨⟨old, h1⟩, _⟩ q => by
  refine wpAny_pyIter_slot ⟨_, h1, rfl⟩ F.slot_enumerate_iter (wpAny_call_entry F.slot_enumerate_iter ⟨_, h1, rfl⟩ F.entry_enumerate_iter ?_ (F.args_enumerate_iter_1 _))
  show wpAny _ _ (ret (.ref e)) _ _ s
  exact wpAny_pure ⟨_, rfl, "enumerate", _, ⟨_, h1, rfl⟩, F.slot_enumerate_next.lookup, q⟩
end L2
set_option Elab.async false
set_option linter.all false
set_option maxRecDepth 100000
set_option maxHeartbeats 4000000
namespace L2
open PySem PySem.Spec PyProof.Rows
def iEnum (K : PySem.W.Frag) (ta : TA) : TI := fun σ H R => ta σ H fun vs H1 => ∃ a, vs = [.ref a] /\ (((∃ xs, SqL K H1 a xs) /\ R (Ite K a) H1) \/ ((∃ xs, SqT K H1 a xs) /\ R (ItE K a) H1))
section
variable {X : Cx}
theorem pi_enum {a : Expr} {ta : TA} {p pos pos' : Pos} {elts : List Expr} {k : Nat} (hg : Gl X "enumerate") (hm : X.mg "enumerate" = none) (ha : PA X [a] ta) (hs : starEach [a] X.env = [(false, eval a X.env)] := by rfl) :
  PI X (.Tuple elts k pos') (.Call (.Name "enumerate" p) [a] [] pos) (iEnum X.K ta) := by
 intro pins s σ H R I h
 refine Call_ (ld_blt I hg hm boot_enumerate (PyProof.Rows.callWith_type1 (thn (ha pos pins s σ H _ I h) fun us s1 ⟨vs, H1, I1, r1, q1⟩ => ?_) hs rfl))
 obtain ⟨l, e, q1⟩ := q1
 subst e
 obtain ⟨u, rfl, ru⟩ := vals1 r1
 cases (show u = Value.ref l from ru)
 have fp : ∀ b ∈ [s1.heap.objs.size + 1, s1.heap.objs.size], FpOk X pins H1 b := fun b hb => by
  have ge : s1.heap.objs.size <= b := by
   rcases List.mem_cons.mp hb with q | q
   ·rw [q]; exact Nat.le_succ _
   ·have q' : b = s1.heap.objs.size := by simpa using q
    rw [q']; exact Nat.le_refl _
  exact I1.fpOk ge (I1.hok.fresh ge)
 have ne : s1.heap.objs.size + 1 ≠ s1.heap.objs.size := Nat.ne_of_gt (Nat.lt_succ_self _)
 rcases q1 with ⟨⟨xs, hq⟩, q⟩ | ⟨⟨xs, hq⟩, q⟩
 ·obtain ⟨its, rv, pl, hz⟩ := I1.list hq
  refine call_enumerate_list pl.isList fun h' he li _ kp => ?_
  have T := turn_enum (P := X.prog) (w := X.w) (K := X.K) (elts := elts) (k := k) (pos := pos') l _ _ ne
  refine T.self _ 0 _ _ _ ⟨⟨_, he⟩, li⟩ ?_
  exact ⟨_, _, _, _, H1, rfl, I1.kept (t' := s1.toks) kp, T, ⟨⟨_, he⟩, li⟩, fp, q⟩
 ·obtain ⟨its, rv, pl, hz⟩ := I1.tuple hq
  have lt : l < s1.heap.objs.size := by obtain ⟨o, e, _⟩ := pl; exact Heap.lt_size e
  refine call_enum_tup (show s1.heap.IsTuple l its.toArray from pl) fun h' he li _ kp => ?_
  have T := turn_enumT (P := X.prog) (w := X.w) (K := X.K) (elts := elts) (k := k) (pos := pos') l _ _ ne (Nat.ne_of_lt lt) (Nat.ne_of_lt (Nat.lt_succ_of_lt lt))
  refine T.self _ 0 _ _ _ ⟨⟨_, he⟩, li⟩ ?_
  exact ⟨_, _, _, _, H1, rfl, I1.kept (t' := s1.toks) kp, T, ⟨⟨_, he⟩, li⟩, fp, q⟩
end
def ForW (J : It) (g : TG) (tb : TS) (D : Ends) (σ : St) (H : Hp) : Prop := ∃ W : Nat -> Nat -> St -> Hp -> Prop, (∃ m, W 0 m σ H) /\ ∀ i m σ H, W i m σ H →
 (J.stop i H /\ D.nx σ H) \/ (J.go i H /\ ∃ N : St -> Hp -> Prop, (∀ σ' H', N σ' H' -> ∃ m', m' < m /\ W (i + 1) m' σ' H') /\ ∀ x H', J.yld i H x H' -> g x σ H' fun σ2 H2 => tb { D with nx := N, ct := N, bk := D.nx } σ2 H2)
theorem for_enumL {K : PySem.W.Frag} {a : Addr} {xs : List V} {g : TG} {tb : TS} {D : Ends} {σ : St} {H : Hp} (Pv : Nat -> St -> Hp -> Prop) (h0 : Pv 0 σ H) (hl : ∀ i σ H, i <= xs.length -> Pv i σ H -> SqL K H a xs)
  (hs : ∀ i x σ H T, xs[i]? = some x -> H T = none -> Pv i σ H -> g (.ref T) σ (upd H T (.tup [.int i, x])) fun σ2 H2 => tb { D with nx := Pv (i + 1), ct := Pv (i + 1), bk := D.nx } σ2 H2) (hd : ∀ σ H, Pv xs.length σ H -> D.nx σ H) : ForW (Ite K a) g tb D σ H := by
 refine ⟨fun i m σ H => m = xs.length - i /\ i <= xs.length /\ Pv i σ H, ⟨xs.length, by simp, Nat.zero_le _, h0⟩, ?_⟩
 rintro i m σ H ⟨rfl, hi, p⟩
 have q := hl i σ H hi p
 by_cases hlt : i < xs.length
 ·refine .inr ⟨⟨xs, xs[i], q, by simp [hlt]⟩, Pv (i + 1), fun σ' H' p' => ⟨xs.length - (i + 1), by omega, rfl, hlt, p'⟩, fun x H' y => ?_⟩
  obtain ⟨T, v, hT, ex, eH, hv⟩ := y
  subst ex eH
  exact hs i v σ H T (hv xs q) hT p
 ·have e : i = xs.length := by omega
  subst e
  exact .inl ⟨⟨xs, q, Nat.le_refl _⟩, hd σ H p⟩
end L2
set_option Elab.async false
set_option linter.all false
set_option maxRecDepth 100000
set_option maxHeartbeats 4000000
namespace L2
open PySem PySem.Spec PyProof.Rows
section
variable {X : Cx} {tg : Expr}
def iSeq (K : PySem.W.Frag) (tl : TE) : TI := fun σ H R => tl σ H fun x H1 => ∃ a, x = .ref a /\ (((∃ xs, SqL K H1 a xs) /\ R (Itl K a) H1) \/ ((∃ xs, SqT K H1 a xs) /\ R (Itt K a) H1))
theorem pi_seq {l : Expr} {tl : TE} (hl : PE X l tl) : PI X tg l (iSeq X.K tl) := by
 intro pins s σ H R I h; refine thn (hl pins s σ H _ I h) fun v s1 ⟨x, H1, I1, r1, q1⟩ => ?_
 obtain ⟨a, e, q1⟩ := q1
 subst e
 cases r1
 have fp : ∀ b ∈ [s1.heap.objs.size], FpOk X pins H1 b := fun b hb => by
  have e : b = s1.heap.objs.size := by simpa using hb
  rw [e]; exact I1.fpOk (Nat.le_refl _) (I1.hok.fresh (Nat.le_refl _))
 rcases q1 with ⟨⟨xs, hq⟩, q⟩ | ⟨⟨xs, hq⟩, q⟩
 ·obtain ⟨its, rv, p, hz⟩ := I1.list hq; refine wpAny_pyIter_list p.isList ?_
  exact ⟨s1.heap.objs.size, _, _, _, H1, rfl, I1.kept (t' := s1.toks) (fun b o e => Heap.get?_push_of_some _ e), turn_list a _, ⟨_, Heap.get?_push_size _ rfl, rfl, rfl⟩, fp, q⟩
 ·obtain ⟨its, rv, p, hz⟩ := I1.tuple hq; refine wpAny_pyIter_tuple (show s1.heap.IsTuple a its.toArray from p) ?_
  exact ⟨s1.heap.objs.size, _, _, _, H1, rfl, I1.kept (t' := s1.toks) (fun b o e => Heap.get?_push_of_some _ e), turn_tuple a _, ⟨_, Heap.get?_push_size _ rfl, rfl, rfl⟩, fp, q⟩
end
theorem compN_seq {K : PySem.W.Frag} {a : Addr} {xs : List V} {k : Nat} {tc : TT} {te : TE} {τ : St} {H : Hp} {Q : VK} (Pv : Nat -> List V -> Hp -> Prop) (hp : H a = some (.lst xs) \/ H a = some (.tup xs)) (h0 : Pv 0 [] H) (hz : xs.length <= sizeLine)
  (hl : ∀ i ys H', Pv i ys H' -> H' a = H a) (hs : ∀ i x ys H, xs[i]? = some x -> ys.length <= i -> Pv i ys H -> StepC k tc te τ Pv i x ys H)
  (hd : ∀ ys H, ys.length <= xs.length -> Pv xs.length ys H -> ∀ l, H l = none -> Q (.ref l) (upd H l (.lst ys))) :
  ((∃ xs, SqL K H a xs) /\ CompW (Itl K a) (gName k) tc te τ Q H) \/ ((∃ xs, SqT K H a xs) /\ CompW (Itt K a) (gName k) tc te τ Q H) := by
 rcases hp with hp | hp
 ·exact .inl ⟨⟨_, SqL.of hp⟩, compN_list Pv h0 hz (fun i ys H' _ z => SqL.of ((hl i ys H' z).trans hp)) hs hd⟩
 ·exact .inr ⟨⟨_, SqT.of hp⟩, compN_tup Pv h0 hz (fun i ys H' _ z => SqT.of ((hl i ys H' z).trans hp)) hs hd⟩
theorem Same.at {H H' : Hp} {a : Addr} {o : HO} (s : Same H H') (h : H a = some o) : H' a = H a := by rw [s _ _ h, h]
theorem pg_pairK {X : Cx} {K : PySem.W.Frag} {x y : Str} {i j k : Nat} {p p' pos : Pos} (hN : X.N.Nodup) (hi : X.N[i]? = some x) (hj : X.N[j]? = some y) (hx : Loc X.env.scope x) (hy : Loc X.env.scope y) (hc : X.calm = true := by rfl) (h : X.K = K := by rfl)
  (hf : X.fn x = true \/ X.env.scope.names.lookup x = some .local := by first | exact .inl rfl | exact .inr rfl) (hg : X.fn y = true \/ X.env.scope.names.lookup y = some .local := by first | exact .inl rfl | exact .inr rfl) : PG X (.Tuple [.Name x p, .Name y p'] k pos) (gPair K i j) := by
 subst h
 exact pg_tup hc (pgs_cons (pg_name hN hi hx hf) (pgs_cons (pg_name hN hj hy hg) pgs_nil))
end L2
set_option Elab.async false
set_option linter.all false
set_option maxRecDepth 100000
set_option maxHeartbeats 4000000
namespace HT
open PySem PySem.Spec PyProof.Rows
section
variable {prog : Program} {w : World} {A : Around} {E : Value -> Shared -> Prop} {s : Shared}
theorem getItem_tuple_whole {t sl : Addr} {items : Array Value} {vl vu : Value} {lo hi : Option Int} {Q : Value -> Shared -> Prop} (ht : IsTup s.heap t items) (hs : s.heap.IsSliceOf sl vl vu .none) (pl : IsPart vl lo) (pu : IsPart vu hi)
  (hw : sIx items.size 0 lo = 0 /\ sIx items.size items.size hi = items.size) (h : Q (.ref t) s) : wpAny (model prog w) A (getItem (.ref t) (.ref sl)) Q E s := by
 obtain ⟨os, hos, hcs, hds⟩ := id hs
 have hTs : s.TypeIs (.ref sl) "slice" := ⟨os, hos, hcs⟩
 unfold getItem
 try with_reducible refine wpAny_holding ?_
 first | refine wpAny_bind (wpAny_pure ?_) | skip
 refine wpAny_bind (wpAny_sequenceKey ht.typeIs (by decide) ?_)
 refine wpAny_bind (wpAny_callSpecial?_slot (name := Str.ofString "__getitem__") ht.typeIs PyProof.Rows.slot_tuple_getitem
  (wpAny_call_entry PyProof.Rows.slot_tuple_getitem ht.typeIs entry_tuple_getitem ?_ (args_tuple_getitem _ _)))
 show wpAny _ _ (Builtin.Tuple.tupleItemsOf (.ref t) >>= _) _ _ s
 refine wpAny_bind (tupleItemsOf_ ht ?_)
 refine wpAny_bind (wpAny_typeOf hTs ?_)
 rw [if_pos (by decide)]
 refine wpAny_bind (sliceApplied_gen hs pl pu ?_)
 show wpAny _ _ (if (((sIx items.size 0 lo : Nat) : Int) == 0 && (1 : Int) == 1 && (sIx items.size items.size hi - sIx items.size 0 lo) == items.size) = true then _ else _) _ _ s
 rw [hw.1, hw.2, if_pos (by simp)]
 unfold Builtin.Tuple.tupleIsExact
 refine wpAny_bind (wpAny_bind (wpAny_typeOf ht.typeIs (wpAny_pure ?_)))
 rw [if_pos (by decide)]
 exact wpAny_bind (wpAny_rule (wpAny_pure ⟨_, rfl, wpAny_pure h⟩))
end
end HT
namespace L2
open PySem PySem.Spec PyProof.Rows
section
variable {X : Cx}
theorem sl_tupW : SlR X (fun x lo hi H Q => ∃ a xs, x = .ref a /\ SqT X.K H a xs /\ ((HT.sIx xs.length 0 lo = 0 /\ HT.sIx xs.length xs.length hi = xs.length) -> Q (.ref a) H) ∧
  (¬ (HT.sIx xs.length 0 lo = 0 /\ HT.sIx xs.length xs.length hi = xs.length) -> ∀ p, H p = none -> Q (.ref p) (upd H p (.tup (cutV xs lo hi))))) := by
 intro pins s σ H x v vl vu lo hi sl Q I rx hs pl pu h
 obtain ⟨a, xs, rfl, hx, q1, q2⟩ := h
 by_cases hw : HT.sIx xs.length 0 lo = 0 /\ HT.sIx xs.length xs.length hi = xs.length
 ·cases rx
  obtain ⟨its, r, ht, hz⟩ := I.tuple hx
  have hlen : its.toArray.size = xs.length := by rw [List.size_toArray]; exact r.length.symm
  refine ⟨"tuple", _, PyProof.Rows.slot_tuple_getitem.lookup, ht.typeIs, ?_⟩
  exact HT.getItem_tuple_whole ht hs pl pu (by rw [hlen]; exact hw) ⟨.ref a, H, I, rfl, q1 hw⟩
 ·exact sl_tup pins s σ H _ v vl vu lo hi sl Q I rx hs pl pu ⟨a, xs, rfl, hx, hw, q2 hw⟩
end
section
variable {prog : Program} {w : World} {A : Around} {E : Value -> Shared -> Prop} {s : Shared}
end
section
variable {X : Cx}
end
end L2
set_option Elab.async false
set_option linter.all false
set_option maxRecDepth 100000
set_option maxHeartbeats 4000000
namespace L2
open PySem PySem.Spec PyProof.Rows
section
variable {κ : Type} [DecidableEq κ]
end
section
variable {P : Program} {w : World} {H : Hp} {h : Heap} {a : Addr}
end
section
variable {X : Cx} {pins : List (Addr × Obj)} {σ : St} {H : Hp} {s : Shared} {a : Addr} {y v : V} {u r : Value} {o : Option V} {A : Around} {E : Value -> Shared -> Prop}
end
section
variable {X : Cx} {pins : List (Addr × Obj)} {σ : St} {H : Hp} {s : Shared} {a : Addr} {kvs : List (Key × V)} {k : Key} {u : Value} {A : Around} {E : Value -> Shared -> Prop}
end
def NoSl (i : Expr) : Prop := ∀ ov iv, subscripted i false ov iv = operate [ov, iv] (getItem ov iv)
theorem subD_of {prog : Program} {w : World} {A : Around} {E : Value -> Shared -> Prop} {s : Shared} {env : Env} {value slice : Expr} {pos : Pos} {T id : String} {Q : Value -> Shared -> Prop}
  (hl : typeLookup (.type T) "__getitem__" = pure (some (.builtin id))) (hs : NoSl slice)
  (h : wpAny (model prog w) A (eval value env) (fun o s₁ => wpAny (model prog w) A (eval slice env) (fun i s₂ => s₂.TypeIs o T /\ wpAny (model prog w) A (getItem o i) Q E s₂) E s₁) E s) :
  wpAny (model prog w) A (eval (.Subscript value slice pos) env) Q E s := by
 refine Subscript_ (wpAny_mono h (fun o s₁ h₁ => wpAny_mono h₁ (fun i s₂ h₂ => ?_) fun _ _ x => x) fun _ _ x => x)
 obtain ⟨hT, h₂⟩ := h₂
 unfold subscriptTail
 refine wpAny_bind ?_
 rw [getitemInPython_of_ne hT.not_modules]
 refine wpAny_bind (wpAny_specialOf hT hl ?_)
 have fin : wpAny (model prog w) A (subscripted slice false o i) (fun r s₃ => wpAny (model prog w) A (letTemporaryGo value o r >>= fun _ => pure r) Q E s₃) E s₂ := by
  rw [hs o i]
  exact wpAny_operating (wpAny_mono h₂ (fun r s₃ h₃ => wpAny_bind (wpAny_letTemporaryGo (wpAny_pure h₃))) fun _ _ x => x)
 first
  | exact wpAny_pure (wpAny_bind fin)
  | exact wpAny_bind (wpAny_pure (wpAny_bind fin))
  | exact wpAny_bind fin
section
variable {X : Cx} {o i e value : Expr} {pos pos' tpos : Pos} {td ty tv : TE}
end
section
variable {X : Cx} {pos : Pos}
end
section
variable {X : Cx} {pins : List (Addr × Obj)} {σ : St} {H : Hp} {s : Shared} {a : Addr} {y d : V} {u r : Value} {o : Option V} {A : Around} {E : Value -> Shared -> Prop}
end
section
variable {X : Cx} {o e f : Expr} {apos cpos : Pos} {td ty tx : TE}
end
section
variable {X : Cx} {pins : List (Addr × Obj)} {σ : St} {H : Hp} {s : Shared} {a : Addr} {kvs : List (Key × V)} {A : Around} {E : Value -> Shared -> Prop}
end
section
variable {X : Cx} {pins : List (Addr × Obj)} {σ : St} {H : Hp} {s : Shared} {a : Addr} {y : V} {u : Value} {A : Around} {E : Value -> Shared -> Prop}
end
end L2
namespace L2
open PySem PySem.Spec PyProof.Rows
section
variable {X : Cx}
end
section
variable {κ : Type} [DecidableEq κ]
end
end L2
set_option Elab.async false
set_option linter.all false
set_option maxRecDepth 100000
set_option maxHeartbeats 4000000
namespace L2
open PySem PyProof.Rows
section
variable {X : Cx}
def eqAt (ns ms : List Int) (j : Nat) : Bool := ns.getD j 0 == ms.getD j 0
theorem eqAt_all {ns ms : List Int} (h : ns.length = ms.length) : ((List.range ns.length).all fun j => eqAt ns ms j) = decide (ns = ms) := by
 rw [Bool.eq_iff_iff, decide_eq_true_iff, List.all_eq_true]
 constructor
 ·intro hh
  refine List.ext_getElem h fun j h1 h2 => ?_
  have := hh j (List.mem_range.mpr h1)
  unfold eqAt at this
  rw [List.getD_eq_getElem?_getD, List.getD_eq_getElem?_getD, List.getElem?_eq_getElem h1, List.getElem?_eq_getElem h2] at this
  exact of_decide_eq_true (by simpa using this)
 ·rintro rfl j _
  exact beq_self_eq_true _
theorem intAt {ns : List Int} {us : List Value} (r : Vals (ns.map V.int) us) {j : Nat} (h : j < us.toArray.size) : ∃ t, us.toArray[j] = .int (ns.getD j 0) t := by
 have l := r.length
 rw [List.length_map] at l
 rw [List.size_toArray] at h
 have e1 : (ns.map V.int)[j]? = some (.int (ns.getD j 0)) := by
  rw [List.getElem?_map, List.getD_eq_getElem?_getD, List.getElem?_eq_getElem (by omega)]
  rfl
 obtain ⟨u, g1, q1⟩ := r.get e1
 have f1 : us.toArray[j] = u := by simp [List.getElem?_eq_some_iff] at g1; obtain ⟨_, g⟩ := g1; simpa using g
 rw [f1]
 exact q1
end
end L2
set_option Elab.async false
set_option linter.all false
set_option maxRecDepth 100000
set_option maxHeartbeats 4000000
namespace L2
open PySem PyProof.Rows
section
variable {X : Cx}
def Wd (i : Int) : Prop := i.natAbs < 2 ^ 4000
def CDivW (_ j : Int) : Prop := 0 < j /\ Wd j
theorem op_fdivW : OpR X (binaryOp .FloorDiv) (rI CDivW fun i j => .int (i / j)) := opI fun i j _ _ _ _ _ hc q => by
 have h1 : (0 : Int) < j := hc.1
 have h2 : j.natAbs.log2 < 9000 := by
  have : j.natAbs.log2 < 4000 := (Nat.log2_lt (by omega)).mpr hc.2
  omega
 refine floordiv_int (by omega) ?_ (.inl (PyProof.noPylong_of_log2 h2))
 rw [Int.fdiv_eq_ediv_of_nonneg i (by omega)]
 exact q
end
section
variable {P : Program} {w : World} {K : PySem.W.Frag} {mg : Str -> Option Value} {base : Heap}
end
end L2
set_option Elab.async false
set_option linter.all false
set_option maxRecDepth 100000
set_option maxHeartbeats 4000000
namespace L2.Rem
open PySem PySem.SeqAt PySem.MeetsSeq
open AutoSeq1 (wpAny_loadPart')
end L2.Rem
namespace L2
open PySem PySem.Spec PyProof.Rows
section
variable {X : Cx}
theorem op_neTE {k : Nat} (hr : Room k X.A) : OpR X (compareOp .NotEq) (fun x y H Q => ∃ a b xs ys, x = .ref a /\ y = .ref b /\ SqT X.K H a xs /\ SqT X.K H b ys /\ Paired (EqTrue X.K H 20) xs ys /\ Q (.bl false) H) := by
 intro pins s σ H x y v u Q I rx ry h
 obtain ⟨a, b, xs, ys, rfl, rfl, h1, h2, p, q⟩ := h
 cases (show v = Value.ref a from rx)
 cases (show u = Value.ref b from ry)
 obtain ⟨its, r1, p1, _⟩ := I.tuple h1
 obtain ⟨its2, r2, p2, _⟩ := I.tuple h2
 have l1 := r1.length
 have l2 := r2.length
 have pl := Paired.length p
 have hu := hr.un
 have hu1 : X.A.units < cLine := by omega
 have R := SeqAt.RcNeAt.tuples (A := X.A) (e := fun _ => true) (show s.heap.IsTuple a its.toArray from p1) (show s.heap.IsTuple b its2.toArray from p2) hu1 (eqTrue_items p r1 r2 fun x y u v h1 h2 h3 => eqTrue_at I 20 _ x y u v (by show X.A.units + 1 + _ < cLine; omega) h1 h2 h3)
 rw [List.size_toArray, List.size_toArray, <- l1, <- l2, pl, Nat.min_self, beq_self_eq_true, all_true] at R
 exact R _ _ _ _ ⟨.bl false, H, I, rfl, q⟩
theorem op_eqLE {k : Nat} (hr : Room k X.A) : OpR X (compareOp .Eq) (fun x y H Q => ∃ a b xs ys, x = .ref a /\ y = .ref b /\ SqL X.K H a xs /\ SqL X.K H b ys /\ Paired (EqTrue X.K H 20) xs ys /\ Q (.bl true) H) := by
 intro pins s σ H x y v u Q I rx ry h
 obtain ⟨a, b, xs, ys, rfl, rfl, h1, h2, p, q⟩ := h
 cases (show v = Value.ref a from rx)
 cases (show u = Value.ref b from ry)
 obtain ⟨its, r1, p1, _⟩ := I.list h1
 obtain ⟨its2, r2, p2, _⟩ := I.list h2
 have l1 := r1.length
 have l2 := r2.length
 have pl := Paired.length p
 have hu := hr.un
 have hu1 : X.A.units < cLine := by omega
 have R := SeqAt.RcAt.lists (A := X.A) (e := fun _ => true) p1.isList p2.isList (by rw [List.size_toArray, List.size_toArray, <- l1, <- l2, pl]) hu1 (eqTrue_items p r1 r2 fun x y u v h1 h2 h3 => eqTrue_at I 20 _ x y u v (by show X.A.units + 1 + _ < cLine; omega) h1 h2 h3)
 rw [all_true] at R
 exact R _ _ _ _ ⟨.bl true, H, I, rfl, q⟩
end
end L2
set_option Elab.async false
set_option linter.all false
set_option maxRecDepth 100000
set_option maxHeartbeats 4000000
namespace L2
open PySem PySem.Spec PyProof.Rows
section
variable {X : Cx}
def rCatA (K : PySem.W.Frag) : R2 := fun x y H Q => ∃ a b xs ys, x = .ref a /\ y = .ref b /\ SqT K H a xs /\ SqT K H b ys /\ ys ≠ [] /\ xs.length + ys.length <= sizeLine /\ (xs = [] -> Q (.ref b) H) /\ (xs ≠ [] -> ∀ p, H p = none -> Q (.ref p) (upd H p (.tup (xs ++ ys))))
theorem op_catTA : OpR X (binaryOp .Add) (rCatA X.K) := by
 intro pins s σ H x y v u Q I rx ry h
 obtain ⟨a, b, xs, ys, rfl, rfl, ha, hb, hy, hz, q1, q2⟩ := h
 by_cases hx : xs = []
 ·cases rx
  cases ry
  obtain ⟨its, r1, p1, _⟩ := I.tuple ha
  obtain ⟨its2, r2, p2, _⟩ := I.tuple hb
  obtain ⟨⟨c1, d1, da1, s1⟩, o1, k1, n1, g1⟩ := id p1
  obtain ⟨⟨c2, d2, da2, s2⟩, o2, k2, n2, g2⟩ := id p2
  simp only at k1 g1 k2 g2
  subst k1 g1 k2 g2
  have e0 : its = [] := r1.nil_iff.mpr hx
  exact concat_meets ⟨_, o1, rfl⟩ ⟨_, o2, rfl⟩ noFill_tuple_add seq_tuple_add PySem.F.slot_tuple_add PySem.F.entry_tuple_add (PySem.F.args_tuple_add_2 _ _)
   (tuple_addW0 a b its.toArray its2.toArray n1 n2 d1 d2 s1 s2 (by simp [e0])) ⟨o1, o2, ⟨.ref b, H, I, rfl, q1 hx⟩⟩
 ·exact op_catT pins s σ H _ _ v u Q I rx ry ⟨a, b, xs, ys, rfl, rfl, ha, hb, hx, hz, fun z => absurd z hy, fun _ => q2 hx⟩
end
end L2
set_option Elab.async false
set_option linter.all false
set_option maxRecDepth 100000
set_option maxHeartbeats 4000000
namespace L2
open PySem PySem.Spec PyProof.Rows
theorem Inv.turnedAll {X : Cx} {pins : List (Addr × Obj)} {σ : St} {H : Hp} {s : Shared} {h' : Heap} {t' : Nat} {ch : List Addr} (I : Inv X pins σ H s) (f : ∀ b ∈ ch, FpOk X pins H b)
  (k : ∀ b ob, b ∉ ch -> s.heap.get? b = some ob -> h'.get? b = some ob) : Inv X pins σ H { s with heap := h', toks := t' } := by
 have nit : ∀ b u, H b = some u -> b ∉ ch := fun b u e z => by have := (f b z).1; rw [this] at e; cases e
 refine I.step (g' := s.gens) (d' := s.drawn) (ch := ch) (fun b hb => ?_) (fun b o _ _ hc e _ => k b o hc e) (fun b o _ _ hc e _ => ⟨o.slots, k b o hc e⟩) (fun _ _ _ _ n => n)
  (fun b o hc e => ⟨o, k b o hc e⟩) (fun _ _ e => e) (fun _ _ _ e => e) (fun b ps e => ⟨#[], by rw [e]; simp⟩) (fun m hm => ?_) (fun b u e => ?_) I.bare
 ·obtain ⟨g0, g1, g2, g3, g4, g5⟩ := f b hb
  exact ⟨g3, g1, g4, g5⟩
 ·obtain ⟨o, es, ep, ho, r⟩ := hm
  exact ⟨o, es, ep, k _ o (fun z => (f _ z).2.1 rfl) ho, r⟩
 ·refine (I.hok b u e).stay (fun c v hc q => k c v ?_ q) (fun _ q => q) fun _ _ q => q
  rcases hc with z | z
  ·rw [z]; exact nit b u e
  ·exact nit c _ z
theorem zapart (n a b : Nat) (h1 : a < n) (h2 : b < n) : ZipApart (n + 4) (n + 2) (n + 3) n (n + 1) a b :=
  ⟨fun z => absurd (show n + 2 = n + 4 from z) (by omega), fun z => absurd (show n + 3 = n + 4 from z) (by omega), fun z => absurd (show n = n + 4 from z) (by omega), fun z => absurd (show n + 1 = n + 4 from z) (by omega), fun z => absurd (show n + 2 = n + 3 from z) (by omega), fun z => absurd (show n + 2 = n from z) (by omega), fun z => absurd (show n + 2 = n + 1 from z) (by omega), fun z => absurd (show n + 3 = n from z) (by omega), fun z => absurd (show n + 3 = n + 1 from z) (by omega), fun z => absurd (show n = n + 1 from z) (by omega),
   fun z => absurd (show a = n + 4 from z) (by omega), fun z => absurd (show a = n + 3 from z) (by omega), fun z => absurd (show a = n from z) (by omega), fun z => absurd (show a = n + 1 from z) (by omega), fun z => absurd (show b = n + 4 from z) (by omega), fun z => absurd (show b = n + 3 from z) (by omega), fun z => absurd (show b = n from z) (by omega), fun z => absurd (show b = n + 1 from z) (by omega)⟩
theorem boot_zip : bootBuiltins "zip" = some (.type "zip") := by decide +kernel
section
variable {X : Cx}
end
end L2
set_option Elab.async false
set_option linter.all false
set_option maxRecDepth 100000
set_option maxHeartbeats 4000000
namespace L2
open PySem PySem.Spec PyProof.Rows
theorem cutV_ints (ns : List Int) (lo hi : Option Int) : ∃ ms : List Int, cutV (ns.map V.int) lo hi = ms.map V.int /\ ms.length <= ns.length /\ ∀ v ∈ ms, v ∈ ns := by
 refine ⟨(ns.drop (HT.sIx (ns.map V.int).length 0 lo)).take (HT.sIx (ns.map V.int).length (ns.map V.int).length hi - HT.sIx (ns.map V.int).length 0 lo), ?_, ?_, fun v hv => List.mem_of_mem_drop (List.mem_of_mem_take hv)⟩
 ·unfold cutV
  rw [List.map_take, List.map_drop]
 ·rw [List.length_take, List.length_drop]
  omega
def Pt (n : Nat) (H : Hp) (p : Addr) : Prop := ∃ xs : List Int, xs.length = n /\ H p = some (.lst (xs.map V.int))
structure Bu (n : Nat) (p : Addr) (H H' : Hp) : Prop where
 pot : Pt n H' p
 st : ∀ q o, q ≠ p -> H q = some o -> H' q = some o
theorem Pt.same {n : Nat} {p : Addr} {H H1 : Hp} (a : Pt n H p) (s : Same H H1) : Pt n H1 p := by obtain ⟨xs, l, e⟩ := a; exact ⟨xs, l, s _ _ e⟩
theorem Pt.neT {n : Nat} {p b : Addr} {H : Hp} {ys : List V} (a : Pt n H p) (h : H b = some (.tup ys)) : b ≠ p := by
 obtain ⟨xs, _, e⟩ := a
 exact ne_of h e (by intro z; cases z)
theorem Bu.refl {n : Nat} {p : Addr} {H : Hp} (h : Pt n H p) : Bu n p H H := ⟨h, fun _ _ _ z => z⟩
theorem Bu.trans {n : Nat} {p : Addr} {H H1 H2 : Hp} (a : Bu n p H H1) (b : Bu n p H1 H2) : Bu n p H H2 := ⟨b.pot, fun q o m z => b.st q o m (a.st q o m z)⟩
theorem Bu.same {n : Nat} {p : Addr} {H H1 H2 : Hp} (a : Bu n p H H1) (b : Same H1 H2) : Bu n p H H2 := ⟨a.pot.same b, fun q o m z => b _ _ (a.st q o m z)⟩
theorem Bu.put {n : Nat} {p : Addr} {H H1 : Hp} (a : Bu n p H H1) {ys : List Int} (l : ys.length = n) : Bu n p H (upd H1 p (.lst (ys.map V.int))) := ⟨⟨ys, l, upd_same⟩, fun q o m z => by rw [upd_ne m]; exact a.st q o m z⟩
theorem Bu.putNew {n : Nat} {p l : Addr} {H H1 : Hp} (a : Bu n p H H1) (hl : H l = none) (np : l ≠ p) (o : HO) : Bu n p H (upd H1 l o) := ⟨by obtain ⟨xs, z, e⟩ := a.pot; exact ⟨xs, z, by rw [upd_ne np.symm]; exact e⟩, fun q u m z => by rw [upd_ne (ne_of_none z hl)]; exact a.st q u m z⟩
theorem Bu.tup {n : Nat} {p q : Addr} {H H1 : Hp} (a : Bu n p H H1) (h : Pt n H p) {xs : List V} (t : H q = some (.tup xs)) : H1 q = some (.tup xs) := a.st q _ (h.neT t) t
theorem Bu.fresh {n : Nat} {p : Addr} {H H' : Hp} {o : HO} (h : H p = none) (b : Bu n p (upd H p o) H') : Same H H' := fun q u e => by
 have m : q ≠ p := ne_of_none e h
 refine b.st q u m ?_
 rw [upd_ne m]
 exact e
variable {X : Cx}
end L2
set_option Elab.async false
set_option linter.all false
set_option maxRecDepth 100000
set_option maxHeartbeats 4000000
namespace L2
open PySem PySem.Spec PyProof.Rows
def ItB : Bool -> Heap -> Addr -> Addr -> Nat -> Prop
 | true, h, it, l, i => h.IsListIter it l i
 | false, h, it, l, i => h.IsTupleIter it l i
def SB' : Bool -> Heap -> Addr -> Array Value -> Prop
 | true, h, l, xs => h.IsList l xs
 | false, h, l, xs => h.IsTuple l xs
theorem ItB.to {b : Bool} {h h' : Heap} {it l : Addr} {i : Nat} (x : ItB b h it l i) (k : ∀ o, h.get? it = some o -> h'.get? it = some o) : ItB b h' it l i := by
 cases b
 ·exact Heap.IsTupleIter.at (show h.IsTupleIter it l i from x) k
 ·exact Heap.IsListIter.at (show h.IsListIter it l i from x) k
theorem SB'.to {b : Bool} {h h' : Heap} {l : Addr} {xs : Array Value} (x : SB' b h l xs) (k : ∀ o, h.get? l = some o -> h'.get? l = some o) : SB' b h' l xs := by
 cases b
 ·obtain ⟨o, e, r⟩ := (show h.IsTuple l xs from x); exact ⟨o, k o e, r⟩
 ·obtain ⟨o, e, r⟩ := (show h.IsList l xs from x); exact ⟨o, k o e, r⟩
theorem ItB.lt {b : Bool} {h : Heap} {it l : Addr} {i : Nat} (x : ItB b h it l i) : it < h.objs.size := by
 cases b
 ·obtain ⟨o, e, _⟩ := (show h.IsTupleIter it l i from x); exact Heap.lt_size e
 ·obtain ⟨o, e, _⟩ := (show h.IsListIter it l i from x); exact Heap.lt_size e
theorem ItB.obj {b : Bool} {h : Heap} {it l : Addr} {i : Nat} (x : ItB b h it l i) : ∃ o, h.get? it = some o /\ ∀ v, o.data ≠ .cell v := by
 cases b
 ·obtain ⟨o, e, _, d⟩ := (show h.IsTupleIter it l i from x); exact ⟨o, e, fun v z => by rw [d] at z; cases z⟩
 ·obtain ⟨o, e, _, d⟩ := (show h.IsListIter it l i from x); exact ⟨o, e, fun v z => by rw [d] at z; cases z⟩
section
variable {prog : Program} {w : World} {A : Around} {E : Value -> Shared -> Prop} {s : Shared}
theorem nextB {b : Bool} {it l : Addr} {i : Nat} {xs : Array Value} {x : Value} {Q : Value -> Shared -> Prop} (hi : ItB b s.heap it l i) (hl : SB' b s.heap l xs) (hx : xs[i]? = some x)
  (q : ∀ h', ItB b h' it l (i + 1) -> Heap.SameBut it s.heap h' -> Q x { s with heap := h' }) : wpAny (model prog w) A (Builtin.SmallTypes.nextOf (.ref it)) Q E s := by
 cases b
 ·exact nextOf_tup hi hl hx q
 ·exact wpAny_nextOf_list_item hi hl hx q
theorem nextB_end {b : Bool} {it l : Addr} {i : Nat} {xs : Array Value} {Q : Value -> Shared -> Prop} (hh : A.handled = none) (hi : ItB b s.heap it l i) (hl : SB' b s.heap l xs) (hx : xs[i]? = none)
  (q : ∀ h' e, Heap.ExtBut it s.heap h' -> (∃ o, h'.get? e = some o /\ o.cls = .type "StopIteration") -> E (.ref e) { s with heap := h' }) : wpAny (model prog w) A (Builtin.SmallTypes.nextOf (.ref it)) Q E s := by
 cases b
 ·exact nextOf_tup_end hh hi hl hx q
 ·exact wpAny_nextOf_list_end hh hi hl hx q
theorem zipB_item {c d : Bool} {z TI TO i1 i2 l1 l2 : Addr} {k1 k2 : Nat} {xs ys : Array Value} {x y a b : Value} {Q : Value -> Shared -> Prop} (D : ZipApart z TI TO i1 i2 l1 l2)
  (hz : IsZip s.heap z TI TO .none) (hTI : IsPair s.heap TI (.ref i1) (.ref i2)) (hTO : IsPair s.heap TO a b)
  (j1 : ItB c s.heap i1 l1 k1) (j2 : ItB d s.heap i2 l2 k2) (m1 : SB' c s.heap l1 xs) (m2 : SB' d s.heap l2 ys) (hx : xs[k1]? = some x) (hy : ys[k2]? = some y)
  (hQ : ∀ h', IsZip h' z TI TO (rawInt s.heap.objs.size) -> IsPair h' TO x y -> ItB c h' i1 l1 (k1 + 1) -> ItB d h' i2 l2 (k2 + 1) -> IsPair h' s.heap.objs.size x y -> h'.objs.size = s.heap.objs.size + 1 →
   (∀ c o, c ≠ z -> c ≠ TO -> c ≠ i1 -> c ≠ i2 -> s.heap.get? c = some o -> h'.get? c = some o) -> Q (.ref s.heap.objs.size) { s with heap := h' }) :
  wpAny (model prog w) A (Builtin.«zip.__next__» ⟨[.ref z], []⟩) (fun fin s' => ∃ v, fin = .done (.ret v) /\ Q v s') E s := by
 show wpAny _ _ (field (.ref z) 2 >>= _) _ _ _; refine wpAny_bind (wpAny_field hz rfl (x := .bool false) rfl ?_)
 show wpAny _ _ (field (.ref z) 3 >>= _) _ _ _; refine wpAny_bind (wpAny_field hz rfl (x := .ref TI) rfl ?_)
 refine wpAny_bind (wpAny_seqItems hTI rfl ?_); show wpAny _ _ (Builtin.SmallTypes.ownedTupleIsFree (.ref z) >>= _) _ _ _
 refine wpAny_bind ?_; unfold Builtin.SmallTypes.ownedTupleIsFree
 refine wpAny_bind (wpAny_field hz rfl (x := .none) rfl (wpAny_pure ?_)); simp only [if_true]
 refine wpAny_bind (wpAny_rule ?_); refine wpAny_bind (wpAny_field hz rfl (x := .ref TO) rfl ?_)
 refine wpAny_bind (wpAny_setField_rec hz (by simp) fun g1 hz1 s1 => ?_); replace hz1 : IsZip g1 z TI TO .ellipsis := hz1
 refine wpAny_bind ?_; simp only [List.zipIdx_cons, List.zipIdx_nil, List.forIn_cons, List.forIn_nil]
 refine wpAny_bind (wpAny_bind (wpAny_onRaise ?_)); show wpAny _ _ (Builtin.SmallTypes.nextOf (.ref i1) >>= _) _ _ _
 refine wpAny_bind (nextB (j1.to fun o e => s1.extBut _ _ D.i1z e) (m1.to fun o e => s1.extBut _ _ D.l1z e) hx fun g2 j1' s2 => wpAny_pure ?_)
 have t2 : IsPair g2 TO a b := s2.extBut _ _ D.TOi1 (s1.extBut _ _ D.TOz hTO)
 refine wpAny_bind (wpAny_seqItems t2 rfl ?_); refine wpAny_bind (wpAny_updateSeq_pair t2 fun g3 t3 s3 => ?_)
 replace t3 : IsPair g3 TO x b := t3; refine wpAny_bind (wpAny_letGo (wpAny_pure ?_))
 refine wpAny_bind (wpAny_bind (wpAny_onRaise ?_)); show wpAny _ _ (Builtin.SmallTypes.nextOf (.ref i2) >>= _) _ _ _
 refine wpAny_bind (nextB (((j2.to fun o e => s1.extBut _ _ D.i2z e).to fun o e => s2.extBut _ _ D.i12.symm e).to fun o e => s3.extBut _ _ D.TOi2.symm e) (((m2.to fun o e => s1.extBut _ _ D.l2z e).to fun o e => s2.extBut _ _ D.l2i1 e).to fun o e => s3.extBut _ _ D.l2TO e) hy fun g4 j2' s4 => wpAny_pure ?_)
 have t4 : IsPair g4 TO x b := s4.extBut _ _ D.TOi2 t3
 refine wpAny_bind (wpAny_seqItems t4 rfl ?_); refine wpAny_bind (wpAny_updateSeq_pair t4 fun g5 t5 s5 => ?_)
 replace t5 : IsPair g5 TO x y := t5; refine wpAny_bind (wpAny_letGo (wpAny_pure (wpAny_pure ?_)))
 refine wpAny_bind (wpAny_seqItems t5 rfl ?_); refine wpAny_bind (wpAny_newTuple ?_)
 have sz : g5.objs.size = s.heap.objs.size := by rw [s5.1, s4.1, s3.1, s2.1, s1.1]
 have z5 : IsZip g5 z TI TO .ellipsis := s5.extBut _ _ D.TOz.symm (s4.extBut _ _ D.i2z.symm (s3.extBut _ _ D.TOz.symm (s2.extBut _ _ D.i1z.symm hz1)))
 have k5 : ∀ c o, c ≠ z -> c ≠ TO -> c ≠ i1 -> c ≠ i2 -> s.heap.get? c = some o -> g5.get? c = some o := fun c o c1 c2 c3 c4 e => s5.extBut _ _ c2 (s4.extBut _ _ c4 (s3.extBut _ _ c2 (s2.extBut _ _ c3 (s1.extBut _ _ c1 e))))
 have n1 : ItB c g5 i1 l1 (k1 + 1) := ((j1'.to fun o e => s3.extBut _ _ D.TOi1.symm e).to fun o e => s4.extBut _ _ D.i12 e).to fun o e => s5.extBut _ _ D.TOi1.symm e
 have n2 : ItB d g5 i2 l2 (k2 + 1) := j2'.to fun o e => s5.extBut _ _ D.TOi2.symm e
 have zl : z < g5.objs.size := Heap.lt_size z5
 show wpAny _ _ (Builtin.SmallTypes.ownedTupleHandOut (.ref z) (.ref g5.objs.size) >>= _) _ _ _; refine wpAny_bind ?_
 unfold Builtin.SmallTypes.ownedTupleHandOut
 have z6 : IsZip (g5.push { cls := .type "tuple", data := .seq #[x, y] }) z TI TO .ellipsis := Heap.get?_push_of_some _ z5
 refine wpAny_bind (wpAny_setField_rec z6 (by simp) fun g7 z7 s7 => ?_); replace z7 : IsZip g7 z TI TO (rawInt g5.objs.size) := z7
 refine wpAny_setField_rec z7 (by simp) fun g8 z8 s8 => ?_; replace z8 : IsZip g8 z TI TO (rawInt g5.objs.size) := z8
 have up : ∀ c o, c ≠ z -> g5.get? c = some o -> g8.get? c = some o := fun c o c1 e => s8.extBut _ _ c1 (s7.extBut _ _ c1 (Heap.get?_push_of_some _ e))
 have p8 : IsPair g8 g5.objs.size x y := s8.extBut _ _ (Nat.ne_of_gt zl) (s7.extBut _ _ (Nat.ne_of_gt zl) (Heap.get?_push_size _ rfl))
 have e8 : g8.objs.size = g5.objs.size + 1 := by rw [s8.1, s7.1, Heap.size_push]
 rw [sz] at z8 p8 e8
 refine wpAny_pure ⟨_, rfl, ?_⟩; show Q (.ref g5.objs.size) _; rw [sz]
 exact hQ g8 z8 (up _ _ D.TOz t5) (n1.to fun o e => up _ o D.i1z e) (n2.to fun o e => up _ o D.i2z e) p8 e8 fun c o c1 c2 c3 c4 e => up c o c1 (k5 c o c1 c2 c3 c4 e)
theorem zipB_end {c d : Bool} {z TI TO i1 i2 l1 l2 : Addr} {k1 k2 : Nat} {xs ys : Array Value} {a b : Value} {Q : Fin -> Shared -> Prop} (hh : A.handled = none) (D : ZipApart z TI TO i1 i2 l1 l2)
  (hz : IsZip s.heap z TI TO .none) (hTI : IsPair s.heap TI (.ref i1) (.ref i2)) (hTO : IsPair s.heap TO a b)
  (j1 : ItB c s.heap i1 l1 k1) (j2 : ItB d s.heap i2 l2 k2) (m1 : SB' c s.heap l1 xs) (m2 : SB' d s.heap l2 ys) (hend : xs[k1]? = none \/ ys[k2]? = none)
  (hE : ∀ h' e, (∀ c o, c ≠ z -> c ≠ TO -> c ≠ i1 -> c ≠ i2 -> s.heap.get? c = some o -> h'.get? c = some o) -> (∃ o, h'.get? e = some o /\ o.cls = .type "StopIteration") -> E (.ref e) { s with heap := h' }) :
  wpAny (model prog w) A (Builtin.«zip.__next__» ⟨[.ref z], []⟩) Q E s := by
 show wpAny _ _ (field (.ref z) 2 >>= _) _ _ _; refine wpAny_bind (wpAny_field hz rfl (x := .bool false) rfl ?_)
 show wpAny _ _ (field (.ref z) 3 >>= _) _ _ _; refine wpAny_bind (wpAny_field hz rfl (x := .ref TI) rfl ?_)
 refine wpAny_bind (wpAny_seqItems hTI rfl ?_); show wpAny _ _ (Builtin.SmallTypes.ownedTupleIsFree (.ref z) >>= _) _ _ _
 refine wpAny_bind ?_; unfold Builtin.SmallTypes.ownedTupleIsFree
 refine wpAny_bind (wpAny_field hz rfl (x := .none) rfl (wpAny_pure ?_)); simp only [if_true]
 refine wpAny_bind (wpAny_rule ?_); refine wpAny_bind (wpAny_field hz rfl (x := .ref TO) rfl ?_)
 refine wpAny_bind (wpAny_setField_rec hz (by simp) fun g1 hz1 s1 => ?_); replace hz1 : IsZip g1 z TI TO .ellipsis := hz1
 refine wpAny_bind ?_; simp only [List.zipIdx_cons, List.zipIdx_nil, List.forIn_cons, List.forIn_nil]
 refine wpAny_bind (wpAny_bind (wpAny_onRaise ?_)); show wpAny _ _ (Builtin.SmallTypes.nextOf (.ref i1) >>= _) _ _ _
 cases hx : xs[k1]? with
 | none =>
  refine wpAny_bind (nextB_end hh (j1.to fun o e => s1.extBut _ _ D.i1z e) (m1.to fun o e => s1.extBut _ _ D.l1z e) hx fun g2 e s2 he => ?_)
  obtain ⟨oe, hoe, hce⟩ := he
  have z2 : IsZip g2 z TI TO .ellipsis := s2 _ _ D.i1z.symm hz1
  have hez : e ≠ z := fun x => by subst x; rw [z2] at hoe; cases hoe; simp at hce
  refine wpAny_setField_rec z2 (by simp) fun g3 _ s3 => hE g3 e (fun c o c1 _ c3 _ x => s3.extBut _ _ c1 (s2 _ _ c3 (s1.extBut _ _ c1 x))) ⟨oe, s3.extBut _ _ hez hoe, hce⟩
 | some x =>
  have hy : ys[k2]? = none := by rcases hend with h | h; rw [hx] at h; cases h; exact h
  refine wpAny_bind (nextB (j1.to fun o e => s1.extBut _ _ D.i1z e) (m1.to fun o e => s1.extBut _ _ D.l1z e) hx fun g2 j1' s2 => wpAny_pure ?_)
  have t2 : IsPair g2 TO a b := s2.extBut _ _ D.TOi1 (s1.extBut _ _ D.TOz hTO)
  refine wpAny_bind (wpAny_seqItems t2 rfl ?_); refine wpAny_bind (wpAny_updateSeq_pair t2 fun g3 t3 s3 => ?_)
  refine wpAny_bind (wpAny_letGo (wpAny_pure ?_)); refine wpAny_bind (wpAny_bind (wpAny_onRaise ?_))
  show wpAny _ _ (Builtin.SmallTypes.nextOf (.ref i2) >>= _) _ _ _; refine wpAny_bind (nextB_end hh (((j2.to fun o e => s1.extBut _ _ D.i2z e).to fun o e => s2.extBut _ _ D.i12.symm e).to fun o e => s3.extBut _ _ D.TOi2.symm e) (((m2.to fun o e => s1.extBut _ _ D.l2z e).to fun o e => s2.extBut _ _ D.l2i1 e).to fun o e => s3.extBut _ _ D.l2TO e) hy fun g4 e s4 he => ?_)
  obtain ⟨oe, hoe, hce⟩ := he
  have z4 : IsZip g4 z TI TO .ellipsis := s4 _ _ D.i2z.symm (s3.extBut _ _ D.TOz.symm (s2.extBut _ _ D.i1z.symm hz1))
  have hez : e ≠ z := fun x => by subst x; rw [z4] at hoe; cases hoe; simp at hce
  refine wpAny_setField_rec z4 (by simp) fun g5 _ s5 => hE g5 e (fun c o c1 c2 c3 c4 x => s5.extBut _ _ c1 (s4 _ _ c4 (s3.extBut _ _ c2 (s2.extBut _ _ c3 (s1.extBut _ _ c1 x))))) ⟨oe, s5.extBut _ _ hez hoe, hce⟩
theorem pyNext_zipB {c d : Bool} {z TI TO i1 i2 l1 l2 : Addr} {k1 k2 : Nat} {xs ys : Array Value} {x y a b : Value} {Q : Option Value -> Shared -> Prop} (D : ZipApart z TI TO i1 i2 l1 l2)
  (hz : IsZip s.heap z TI TO .none) (hTI : IsPair s.heap TI (.ref i1) (.ref i2)) (hTO : IsPair s.heap TO a b)
  (j1 : ItB c s.heap i1 l1 k1) (j2 : ItB d s.heap i2 l2 k2) (m1 : SB' c s.heap l1 xs) (m2 : SB' d s.heap l2 ys) (hx : xs[k1]? = some x) (hy : ys[k2]? = some y)
  (hQ : ∀ h', IsZip h' z TI TO (rawInt s.heap.objs.size) -> IsPair h' TO x y -> ItB c h' i1 l1 (k1 + 1) -> ItB d h' i2 l2 (k2 + 1) -> IsPair h' s.heap.objs.size x y -> h'.objs.size = s.heap.objs.size + 1 →
   (∀ c o, c ≠ z -> c ≠ TO -> c ≠ i1 -> c ≠ i2 -> s.heap.get? c = some o -> h'.get? c = some o) -> Q (some (.ref s.heap.objs.size)) { s with heap := h' }) : wpAny (model prog w) A (pyNext (.ref z)) Q E s := by
 have hT : s.TypeIs (.ref z) "zip" := ⟨_, hz, rfl⟩
 unfold pyNext; exact wpAny_bind (wpAny_attempt (wpAny_callSpecial?_slot (name := Str.ofString "__next__") hT F.slot_zip_next (wpAny_call_entry F.slot_zip_next hT F.entry_zip_next (zipB_item D hz hTI hTO j1 j2 m1 m2 hx hy fun h' a1 a2 a3 a4 a5 a6 a7 => wpAny_pure (hQ h' a1 a2 a3 a4 a5 a6 a7)) (F.args_zip_next_1 _))))
theorem pyNext_zipB_end {c d : Bool} {z TI TO i1 i2 l1 l2 : Addr} {k1 k2 : Nat} {xs ys : Array Value} {a b : Value} {Q : Option Value -> Shared -> Prop} (hh : A.handled = none) (D : ZipApart z TI TO i1 i2 l1 l2)
  (hz : IsZip s.heap z TI TO .none) (hTI : IsPair s.heap TI (.ref i1) (.ref i2)) (hTO : IsPair s.heap TO a b)
  (j1 : ItB c s.heap i1 l1 k1) (j2 : ItB d s.heap i2 l2 k2) (m1 : SB' c s.heap l1 xs) (m2 : SB' d s.heap l2 ys) (hend : xs[k1]? = none \/ ys[k2]? = none)
  (hQ : ∀ h', (∀ c o, c ≠ z -> c ≠ TO -> c ≠ i1 -> c ≠ i2 -> s.heap.get? c = some o -> h'.get? c = some o) -> Q none { s with heap := h' }) : wpAny (model prog w) A (pyNext (.ref z)) Q E s := by
 have hT : s.TypeIs (.ref z) "zip" := ⟨_, hz, rfl⟩
 unfold pyNext; refine wpAny_bind (wpAny_attempt (wpAny_callSpecial?_slot (name := Str.ofString "__next__") hT F.slot_zip_next (wpAny_call_entry F.slot_zip_next hT F.entry_zip_next (zipB_end hh D hz hTI hTO j1 j2 m1 m2 hend fun h' e hk he => ?_) (F.args_zip_next_1 _))))
 obtain ⟨o, ho, hc⟩ := he
 refine wpAny_bind (wpAny_isInstance (T := "StopIteration") (b := true) ⟨o, ho, hc⟩ isSubtype_stop ?_); exact wpAny_pure (hQ _ hk)
def itCls : Bool -> String
 | true => "list_iterator"
 | false => "tuple_iterator"
def zB1 (c : Bool) (h : Heap) (l1 : Addr) : Heap := h.push { cls := .type (itCls c), data := .fields #[.ref l1, .int 0 0] }
def zB2 (c d : Bool) (h : Heap) (l1 l2 : Addr) : Heap := (zB1 c h l1).push { cls := .type (itCls d), data := .fields #[.ref l2, .int 0 0] }
def zB3 (c d : Bool) (h : Heap) (l1 l2 : Addr) : Heap := (zB2 c d h l1 l2).push { cls := .type "tuple", data := .seq #[.ref h.objs.size, .ref (zB1 c h l1).objs.size] }
def zB4 (c d : Bool) (h : Heap) (l1 l2 : Addr) : Heap := (zB3 c d h l1 l2).push { cls := .type "tuple", data := .seq #[.none, .none] }
def zB5 (c d : Bool) (h : Heap) (l1 l2 : Addr) : Heap := (zB4 c d h l1 l2).push { cls := .type "zip", data := .fields #[.none, .bool false, .bool false, .ref (zB2 c d h l1 l2).objs.size, .ref (zB3 c d h l1 l2).objs.size] }
theorem iterB {c : Bool} {l : Addr} {xs : Array Value} {Q : Value -> Shared -> Prop} (hl : SB' c s.heap l xs) (q : Q (.ref s.heap.objs.size) { s with heap := zB1 c s.heap l }) : wpAny (model prog w) A (pyIter (.ref l)) Q E s := by
 cases c
 ·exact wpAny_pyIter_tuple hl q
 ·exact wpAny_pyIter_list hl q
theorem zipB_new (c d : Bool) (l1 l2 : Addr) (xs ys : Array Value) : Meets (Builtin.«zip.__new__» ⟨[.type "zip", .ref l1, .ref l2], []⟩) (fun _ R s => SB' c s.heap l1 xs /\ SB' d s.heap l2 ys ∧
   R (.ok (.ret (.ref (zB4 c d s.heap l1 l2).objs.size))) { s with heap := zB5 c d s.heap l1 l2 }) :=
 .of_wp fun prog w A R s h => by
  obtain ⟨hp, g, dr, tk, os⟩ := s; obtain ⟨hl1, hl2, h⟩ := h
  have hsub := sub_zip
  have m1 : SB' c (Shared.heap ⟨hp, g, dr, tk, os⟩) l1 xs := hl1
  have m2 : SB' d (Shared.heap ⟨zB1 c hp l1, g, dr, tk, os⟩) l2 ys := hl2.to fun o e => Heap.get?_push_of_some _ e
  wp_walk using iterB m1, iterB m2
  exact ⟨_, rfl, h⟩
theorem call_zipB {c d : Bool} {l1 l2 : Addr} {xs ys : Array Value} {Q : Value -> Shared -> Prop} (m1 : SB' c s.heap l1 xs) (m2 : SB' d s.heap l2 ys)
  (h : ∀ h', IsZip h' (s.heap.objs.size + 4) (s.heap.objs.size + 2) (s.heap.objs.size + 3) .none -> IsPair h' (s.heap.objs.size + 2) (.ref s.heap.objs.size) (.ref (s.heap.objs.size + 1)) →
   IsPair h' (s.heap.objs.size + 3) .none .none -> ItB c h' s.heap.objs.size l1 0 -> ItB d h' (s.heap.objs.size + 1) l2 0 →
   (∀ c o, s.heap.get? c = some o -> h'.get? c = some o) -> Q (.ref (s.heap.objs.size + 4)) { s with heap := h' }) : wpAny (model prog w) A (call (.type "zip") [.ref l1, .ref l2]) Q E s := by
 refine callType_new F.called_zip (by decide) (F.typeCall_zip_2 _ _) (F.newCall_zip_2 _ _) (fun obj => F.args_object_init_3 obj _ _) F.entry_zip_new (zipB_new c d l1 l2 xs ys) ⟨m1, m2, ?_⟩
 have z1 : (zB1 c s.heap l1).objs.size = s.heap.objs.size + 1 := Heap.size_push ..
 have z2 : (zB2 c d s.heap l1 l2).objs.size = s.heap.objs.size + 2 := (Heap.size_push ..).trans (by rw [z1])
 have z3 : (zB3 c d s.heap l1 l2).objs.size = s.heap.objs.size + 3 := (Heap.size_push ..).trans (by rw [z2])
 have z4 : (zB4 c d s.heap l1 l2).objs.size = s.heap.objs.size + 4 := (Heap.size_push ..).trans (by rw [z3])
 have g5 : (zB5 c d s.heap l1 l2).get? (zB4 c d s.heap l1 l2).objs.size = some { cls := .type "zip", data := .fields #[.none, .bool false, .bool false, .ref (zB2 c d s.heap l1 l2).objs.size, .ref (zB3 c d s.heap l1 l2).objs.size] } := Heap.get?_push_size _ rfl
 have g4 : (zB5 c d s.heap l1 l2).get? (zB3 c d s.heap l1 l2).objs.size = some { cls := .type "tuple", data := .seq #[.none, .none] } := Heap.get?_push_of_some _ (Heap.get?_push_size _ rfl)
 have g3 : (zB5 c d s.heap l1 l2).get? (zB2 c d s.heap l1 l2).objs.size = some { cls := .type "tuple", data := .seq #[.ref s.heap.objs.size, .ref (zB1 c s.heap l1).objs.size] } := Heap.get?_push_of_some _ (Heap.get?_push_of_some _ (Heap.get?_push_size _ rfl))
 have g2 : (zB5 c d s.heap l1 l2).get? (zB1 c s.heap l1).objs.size = some { cls := .type (itCls d), data := .fields #[.ref l2, .int 0 0] } := Heap.get?_push_of_some _ (Heap.get?_push_of_some _ (Heap.get?_push_of_some _ (Heap.get?_push_size _ rfl)))
 have g1 : (zB5 c d s.heap l1 l2).get? s.heap.objs.size = some { cls := .type (itCls c), data := .fields #[.ref l1, .int 0 0] } := Heap.get?_push_of_some _ (Heap.get?_push_of_some _ (Heap.get?_push_of_some _ (Heap.get?_push_of_some _ (Heap.get?_push_size _ rfl))))
 show _ /\ _
 rw [z2, z3, z4] at g5
 rw [z1, z2] at g3
 rw [z3] at g4
 rw [z1] at g2
 rw [z4]
 refine ⟨⟨_, g5, rfl⟩, h _ g5 g3 g4 ?_ ?_ fun c' o x => Heap.get?_push_of_some _ (Heap.get?_push_of_some _ (Heap.get?_push_of_some _ (Heap.get?_push_of_some _ (Heap.get?_push_of_some _ x))))⟩
 ·cases c
  ·exact ⟨_, g1, rfl, rfl⟩
  ·exact ⟨_, g1, rfl, rfl⟩
 ·cases d
  ·exact ⟨_, g2, rfl, rfl⟩
  ·exact ⟨_, g2, rfl, rfl⟩
end
def SqB (K : PySem.W.Frag) : Bool -> Hp -> Addr -> List V -> Prop
 | true, H, a, xs => SqL K H a xs
 | false, H, a, xs => SqT K H a xs
theorem SqB.row {X : Cx} {c : Bool} {pins : List (Addr × Obj)} {σ : St} {H : Hp} {s : Shared} (I : Inv X pins σ H s) {a : Addr} {xs : List V} (h : SqB X.K c H a xs) : ∃ its : List Value, Vals xs its /\ SB' c s.heap a its.toArray := by
 cases c
 ·obtain ⟨its, r, p, _⟩ := I.tuple (show SqT X.K H a xs from h); exact ⟨its, r, p⟩
 ·obtain ⟨its, r, p, _⟩ := I.list (show SqL X.K H a xs from h); exact ⟨its, r, p.isList⟩
theorem SB'.lt {c : Bool} {h : Heap} {l : Addr} {xs : Array Value} (x : SB' c h l xs) : l < h.objs.size := by
 cases c
 ·obtain ⟨o, e, _⟩ := (show h.IsTuple l xs from x); exact Heap.lt_size e
 ·obtain ⟨o, e, _⟩ := (show h.IsList l xs from x); exact Heap.lt_size e
theorem SqB.inj {X : Cx} {c : Bool} {pins : List (Addr × Obj)} {σ : St} {H : Hp} {s : Shared} (I : Inv X pins σ H s) {a : Addr} {xs ys : List V} (h : SqB X.K c H a xs) (g : SqB X.K c H a ys) : xs = ys := by
 cases c
 ·exact I.tuple_inj h g
 ·exact I.list_inj h g
def ItZ (K : PySem.W.Frag) (c d : Bool) (a b : Addr) : It :=
 ⟨fun i H => ∃ xs ys u v, SqB K c H a xs /\ SqB K d H b ys /\ xs[i]? = some u /\ ys[i]? = some v, fun i H x H' => ∃ T u v, H T = none /\ x = .ref T /\ H' = upd H T (.tup [u, v]) /\ (∀ xs, SqB K c H a xs -> xs[i]? = some u) /\ ∀ ys, SqB K d H b ys -> ys[i]? = some v, fun i H => ∃ xs ys, SqB K c H a xs /\ SqB K d H b ys /\ (xs.length <= i \/ ys.length <= i)⟩
theorem turn_zipB {P : Program} {w : World} {K : PySem.W.Frag} {elts : List Expr} {k : Nat} {pos : Pos} (c d : Bool) (a b z TI TO i1 i2 : Addr) (D : ZipApart z TI TO i1 i2 a b) : Turn P w K (.Tuple elts k pos) (ItZ K c d a b) [z, TI, TO, i1, i2] z (fun i h => IsZip h z TI TO .none /\ IsPair h TI (.ref i1) (.ref i2) /\ (∃ x y, IsPair h TO x y) /\ ItB c h i1 a i /\ ItB d h i2 b i) where
 mem := by simp
 obj := fun i h ⟨hz, hI, ⟨x, y, hO⟩, h1, h2⟩ e he => by
  have he' : e = z \/ e = TI \/ e = TO \/ e = i1 \/ e = i2 := by simpa using he
  rcases he' with q | q | q | q | q
  ·subst q; exact ⟨_, hz, fun v z => nomatch z⟩
  ·subst q; exact ⟨_, hI, fun v z => nomatch z⟩
  ·subst q; exact ⟨_, hO, fun v z => nomatch z⟩
  ·subst q; exact h1.obj
  ·subst q; exact h2.obj
 keep := fun i h h' ⟨hz, hI, ⟨x, y, hO⟩, h1, h2⟩ kp => ⟨kp z (by simp) _ hz, kp TI (by simp) _ hI, ⟨x, y, kp TO (by simp) _ hO⟩, h1.to fun o e => kp i1 (by simp) o e, h2.to fun o e => kp i2 (by simp) o e⟩
 item := fun X eP eW eK hcalm i pins s σ H E I f ⟨hz, hI, ⟨x, y, hO⟩, h1, h2⟩ go => by
  subst eP eW eK
  obtain ⟨xs, ys, u, v, ha, hb, hu, hv⟩ := go
  obtain ⟨its, r, pl⟩ := SqB.row I ha
  obtain ⟨jts, r', pl'⟩ := SqB.row I hb
  obtain ⟨u', eu, ru⟩ := r.get hu
  obtain ⟨v', ev, rv⟩ := r'.get hv
  refine pyNext_zipB D hz hI hO h1 h2 pl pl' (x := u') (y := v') (by rw [List.getElem?_toArray]; exact eu) (by rw [List.getElem?_toArray]; exact ev) fun h' o1 o2 o3 o4 o5 o6 kp => ?_
  refine ⟨_, rfl, ?_⟩
  refine wpAny_letOwnedTupleGo_zip o1 fun h2' e2 sb => ?_
  have ez : z ≠ s.heap.objs.size := Nat.ne_of_lt (Heap.lt_size hz)
  have lt : ∀ e ∈ [z, TI, TO, i1, i2], e ≠ s.heap.objs.size := fun e he => by
   have he' : e = z \/ e = TI \/ e = TO \/ e = i1 \/ e = i2 := by simpa using he
   rcases he' with q | q | q | q | q
   ·rw [q]; exact ez
   ·rw [q]; exact Nat.ne_of_lt (Heap.lt_size hI)
   ·rw [q]; exact Nat.ne_of_lt (Heap.lt_size hO)
   ·rw [q]; exact Nat.ne_of_lt h1.lt
   ·rw [q]; exact Nat.ne_of_lt h2.lt
  have kp2 : ∀ e ob, e ∉ [z, TI, TO, i1, i2] -> s.heap.get? e = some ob -> h2'.get? e = some ob := fun e ob he eb => by
   have n1 : e ≠ z := fun q => he (by simp [q])
   have n2 : e ≠ TO := fun q => he (by simp [q])
   have n3 : e ≠ i1 := fun q => he (by simp [q])
   have n4 : e ≠ i2 := fun q => he (by simp [q])
   rw [sb.2 e n1]; exact kp e ob n1 n2 n3 n4 eb
  have j1 : ItB c h2' i1 a (i + 1) := o3.to fun ob eb => by rw [sb.2 i1 D.i1z]; exact eb
  have j2 : ItB d h2' i2 b (i + 1) := o4.to fun ob eb => by rw [sb.2 i2 D.i2z]; exact eb
  have jI : IsPair h2' TI (.ref i1) (.ref i2) := by
   show h2'.get? TI = _
   rw [sb.2 TI D.TIz]
   exact kp TI _ D.TIz D.TITO D.TIi1 D.TIi2 hI
  have jO : IsPair h2' TO u' v' := by
   show h2'.get? TO = _
   rw [sb.2 TO D.TOz]
   exact o2
  have tp : h2'.get? s.heap.objs.size = some { cls := .type "tuple", data := .seq #[u', v'] } := by rw [sb.2 _ (Ne.symm ez)]; exact o5
  refine ⟨.ref s.heap.objs.size, upd H s.heap.objs.size (.tup [u, v]), I.turnedLaid (ch := [z, TI, TO, i1, i2]) f kp2 (fun e he => ?_) (Nat.le_refl _) ?_, rfl, ⟨s.heap.objs.size, u, v, I.hok.fresh (Nat.le_refl _), rfl, rfl, fun zs hy => ?_, fun zs hy => ?_⟩, ⟨e2, jI, ⟨_, _, jO⟩, j1, j2⟩, fun e he => ?_⟩
  ·have he' : e = z \/ e = TI \/ e = TO \/ e = i1 \/ e = i2 := by simpa using he
   rcases he' with q | q | q | q | q
   ·rw [q]; exact ⟨_, e2⟩
   ·rw [q]; exact ⟨_, jI⟩
   ·rw [q]; exact ⟨_, jO⟩
   ·rw [q]; obtain ⟨o, ho, _⟩ := j1.obj; exact ⟨o, ho⟩
   ·rw [q]; obtain ⟨o, ho, _⟩ := j2.obj; exact ⟨o, ho⟩
  ·refine ⟨(by show 2 <= sizeLine; decide), [u', v'], .cons ru (.cons rv .nil), _, tp, ⟨rfl, rfl⟩, _, rfl⟩
  ·rw [SqB.inj I hy ha]; exact hu
  ·rw [SqB.inj I hy hb]; exact hv
  ·rw [upd_ne (lt e he)]; exact (f e he).1
 done := fun X eP eW eK hcalm i pins s σ H E I f ⟨hz, hI, ⟨x, y, hO⟩, h1, h2⟩ stop => by
  subst eP eW eK
  obtain ⟨xs, ys, ha, hb, hl⟩ := stop
  obtain ⟨its, r, pl⟩ := SqB.row I ha
  obtain ⟨jts, r', pl'⟩ := SqB.row I hb
  have l := r.length
  have l' := r'.length
  refine pyNext_zipB_end (I.ok.hd hcalm) D hz hI hO h1 h2 pl pl' (hl.imp (fun _ => by rw [List.getElem?_toArray]; exact List.getElem?_eq_none_iff.mpr (by omega)) (fun _ => by rw [List.getElem?_toArray]; exact List.getElem?_eq_none_iff.mpr (by omega))) fun h' ex => ⟨rfl, ?_⟩
  exact I.turnedAll (ch := [z, TI, TO, i1, i2]) (h' := h') (t' := s.toks) f fun e o he eb => ex e o (fun q => he (by simp [q])) (fun q => he (by simp [q])) (fun q => he (by simp [q])) (fun q => he (by simp [q])) eb
 self := fun A i s Q E ⟨hz, _⟩ q => wpAny_pyIter_zip hz q
def iZipB (K : PySem.W.Frag) (c d : Bool) (ta : TA) : TI := fun σ H R => ta σ H fun vs H1 => ∃ a b, vs = [.ref a, .ref b] /\ (∃ xs, SqB K c H1 a xs) /\ (∃ ys, SqB K d H1 b ys) /\ R (ItZ K c d a b) H1
theorem pi_zipB {X : Cx} (c d : Bool) {a b : Expr} {ta : TA} {p pos pos' : Pos} {elts : List Expr} {k : Nat} (hg : Gl X "zip") (hm : X.mg "zip" = none) (ha : PA X [a, b] ta) (hs : starEach [a, b] X.env = [(false, eval a X.env), (false, eval b X.env)] := by rfl) (hs2 : starEach [b] X.env = [(false, eval b X.env)] := by rfl) :
  PI X (.Tuple elts k pos') (.Call (.Name "zip" p) [a, b] [] pos) (iZipB X.K c d ta) := by
 intro pins s σ H R I h
 refine Call_ (ld_blt I hg hm boot_zip (PyProof.Rows.callWith_type1 (thn (ha pos pins s σ H _ I h) fun us s1 ⟨vs, H1, I1, r1, q1⟩ => ?_) (by rw [hs, hs2]) (by rw [hs2]; rfl)))
 obtain ⟨l1, l2, e, ⟨xs, hx⟩, ⟨ys, hy⟩, q⟩ := q1
 subst e
 cases r1 with
 | cons r rr =>
  cases rr with
  | cons r' rr =>
   cases rr
   cases r
   cases r'
   have fp : ∀ b ∈ [s1.heap.objs.size + 4, s1.heap.objs.size + 2, s1.heap.objs.size + 3, s1.heap.objs.size, s1.heap.objs.size + 1], FpOk X pins H1 b := fun b hb => by
    have ge : s1.heap.objs.size <= b := by
     simp at hb
     omega
    exact I1.fpOk ge (I1.hok.fresh ge)
   obtain ⟨its, rv, pl⟩ := SqB.row I1 hx
   obtain ⟨jts, rv', pl'⟩ := SqB.row I1 hy
   have D := zapart _ _ _ pl.lt pl'.lt
   refine call_zipB pl pl' fun h' hz hI hO h1 h2 kp => ?_
   have T := turn_zipB (P := X.prog) (w := X.w) (K := X.K) (elts := elts) (k := k) (pos := pos') c d l1 l2 _ _ _ _ _ D
   refine T.self _ 0 _ _ _ ⟨hz, hI, ⟨_, _, hO⟩, h1, h2⟩ ?_
   exact ⟨_, _, _, _, H1, rfl, I1.kept (t' := s1.toks) kp, T, ⟨hz, hI, ⟨_, _, hO⟩, h1, h2⟩, fp, q⟩
theorem compZ {K : PySem.W.Frag} {c d : Bool} {a b : Addr} {xs ys : List V} {k l : Nat} {tc : TT} {te : TE} {τ : St} {H : Hp} {Q : VK} (n : Nat) (n1 : n <= xs.length) (n2 : n <= ys.length) (n3 : n = xs.length \/ n = ys.length) (Pv : Nat -> List V -> Hp -> Prop) (hkl : k ≠ l) (h0 : Pv 0 [] H) (hz : n <= sizeLine)
  (hl : ∀ i zs H, i <= n -> Pv i zs H -> SqB K c H a xs /\ SqB K d H b ys)
  (hs : ∀ i x y zs H T, xs[i]? = some x -> ys[i]? = some y -> zs.length <= i -> H T = none -> Pv i zs H -> StepP k l tc te τ Pv i x y zs (upd H T (.tup [x, y])))
  (hd : ∀ zs H, zs.length <= n -> Pv n zs H -> ∀ r, H r = none -> Q (.ref r) (upd H r (.lst zs))) : CompW (ItZ K c d a b) (gPair K k l) tc te τ Q H := by
 refine ⟨fun i m σ zs H => m = n - i /\ i <= n /\ (∀ a b, (σ.set k (some a)).set l (some b) = (τ.set k (some a)).set l (some b)) /\ zs.length <= i /\ Pv i zs H, ⟨n, by simp, Nat.zero_le _, fun _ _ => rfl, Nat.le_refl _, h0⟩, ?_⟩
 rintro i m σ zs H ⟨rfl, hi, hτ, hy, pv⟩
 obtain ⟨q1, q2⟩ := hl i zs H hi pv
 by_cases hlt : i < n
 ·refine .inr ⟨⟨xs, ys, xs[i]'(by omega), ys[i]'(by omega), q1, q2, by simp [show i < xs.length by omega], by simp [show i < ys.length by omega]⟩, fun x H' y => ?_⟩
  obtain ⟨T, u, v, hT, ex, eH, hu, hv⟩ := y
  subst ex eH
  refine ⟨T, _, rfl, SqT.of upd_same, rfl, _, _, rfl, _, _, rfl, rfl, ?_⟩
  rw [hτ]
  have hσ : ∀ a b, ((((τ.set k (some u)).set l (some v)).set k (some a)).set l (some b)) = (τ.set k (some a)).set l (some b) := fun a b => by
   rw [List.set_comm _ _ (Ne.symm hkl), List.set_set, List.set_set]
  refine hs i u v zs _ T (hu xs q1) (hv ys q2) hy hT pv _ _ (fun y4 H4 p4 => ⟨by omega, n - (i + 1), by omega, rfl, hlt, hσ, by rw [List.length_append, List.length_singleton]; omega, p4⟩) fun H3 p3 => ⟨n - (i + 1), by omega, rfl, hlt, hσ, by omega, p3⟩
 ·have e : i = n := by omega
  subst e
  exact .inl ⟨⟨xs, ys, q1, q2, n3.elim (fun z => .inl (by omega)) (fun z => .inr (by omega))⟩, by omega, hd zs H hy pv⟩
end L2
set_option Elab.async false
set_option linter.all false
set_option maxRecDepth 100000
set_option maxHeartbeats 4000000
namespace L2
open PySem PySem.Spec PyProof.Rows
section
variable {X : Cx}
theorem pi_tupK {K : PySem.W.Frag} {tg l : Expr} {tl : TE} (hl : PE X l tl) (h : X.K = K := by rfl) : PI X tg l (iTup K tl) := by subst h; exact pi_tup hl
end
end L2
set_option Elab.async false
set_option linter.all false
set_option maxRecDepth 100000
set_option maxHeartbeats 4000000
namespace L2.RvT
open PySem PyProof.Rows
open Sem (wp)
section
variable {prog : Program} {w : World} {A : Around} {E : Value -> Shared -> Prop} {s : Shared}
end
section
variable {prog : Program} {w : World} {A : Around} {E : Value -> Shared -> Prop} {s : Shared}
end
end L2.RvT
namespace L2
open PySem PySem.Spec PyProof.Rows
section
variable {X : Cx}
theorem op_eqLI {k : Nat} (hr : Room k X.A) : OpR X (compareOp .Eq) (fun x y H Q => ∃ (a b : Addr) (ns ms : List Int), x = .ref a /\ y = .ref b /\ SqL X.K H a (ns.map V.int) /\ SqL X.K H b (ms.map V.int) /\ Q (.bl (decide (ns = ms))) H) := by
 intro pins s σ H x y v u Q I rx ry h
 obtain ⟨a, b, ns, ms, rfl, rfl, h1, h2, q⟩ := h
 cases (show v = Value.ref a from rx)
 cases (show u = Value.ref b from ry)
 obtain ⟨its, r1, ⟨⟨c1, d1, da1, sl1⟩, n1, e1, k1, _, k3⟩, _⟩ := I.list h1
 obtain ⟨its2, r2, ⟨⟨c2, d2, da2, sl2⟩, n2, e2, g1, _, g3⟩, _⟩ := I.list h2
 simp only at k1 k3 g1 g3
 subst k1 k3 g1 g3
 have l1 := r1.length
 have l2 := r2.length
 rw [List.length_map] at l1 l2
 have hu := hr.un
 have hu1 : X.A.units < cLine := by omega
 by_cases hl : ns.length = ms.length
 ·refine richCompare_meets_room (op := .Eq) ⟨_, e1, rfl⟩ ⟨_, e2, rfl⟩ F.slot_list_eq F.entry_list_eq (F.args_list_eq_2 _ _) (SeqAt.list_eqAt a b its.toArray its2.toArray n1 n2 d1 d2 sl1 sl2 (by rw [List.size_toArray, List.size_toArray]; omega) (eqAt ns ms)) ⟨e1, e2, ?_, ?_⟩ hu1
  ·intro j h1 h2
   obtain ⟨t1, g1⟩ := intAt r1 h1
   obtain ⟨t2, g2⟩ := intAt r2 h2
   rw [g1, g2]
   exact SeqAt.EqAt.int_int _ t1 _ t2
  ·have ez : its.toArray.size = ns.length := by rw [List.size_toArray]; omega
   rw [ez, eqAt_all hl]
   exact ⟨(fun z => nomatch z), ⟨.bl _, H, I, rfl, q⟩⟩
 ·have ne : ns ≠ ms := fun z => hl (by rw [z])
  rw [decide_eq_false ne] at q
  refine richCompare_meets_room (op := .Eq) ⟨_, e1, rfl⟩ ⟨_, e2, rfl⟩ F.slot_list_eq F.entry_list_eq (F.args_list_eq_2 _ _) (SeqAt.list_eq_lengthsAt a b its.toArray its2.toArray n1 n2 d1 d2 sl1 sl2 (by simp; omega)) ⟨e1, e2, ?_⟩ hu1
  exact ⟨(fun z => nomatch z), ⟨.bl false, H, I, rfl, q⟩⟩
theorem op_eqL {k : Nat} (hr : Room k X.A) : OpR X (compareOp .Eq) (fun x y H Q => ∃ a b xs ys, x = .ref a /\ y = .ref b /\ SqL X.K H a xs /\ SqL X.K H b ys /\ ((xs.length ≠ ys.length /\ Q (.bl false) H) \/ (Paired (EqTrue X.K H 20) xs ys /\ Q (.bl true) H))) := by
 intro pins s σ H x y v u Q I rx ry h
 obtain ⟨a, b, xs, ys, rfl, rfl, h1, h2, h3⟩ := h
 rcases h3 with ⟨ne, q⟩ | ⟨p, q⟩
 ·cases (show v = Value.ref a from rx)
  cases (show u = Value.ref b from ry)
  obtain ⟨its, r1, ⟨⟨c1, d1, da1, sl1⟩, n1, e1, k1, _, k3⟩, _⟩ := I.list h1
  obtain ⟨its2, r2, ⟨⟨c2, d2, da2, sl2⟩, n2, e2, g1, _, g3⟩, _⟩ := I.list h2
  simp only at k1 k3 g1 g3
  subst k1 k3 g1 g3
  have l1 := r1.length
  have l2 := r2.length
  have hu := hr.un
  have hu1 : X.A.units < cLine := by omega
  refine richCompare_meets_room (op := .Eq) ⟨_, e1, rfl⟩ ⟨_, e2, rfl⟩ F.slot_list_eq F.entry_list_eq (F.args_list_eq_2 _ _) (SeqAt.list_eq_lengthsAt a b its.toArray its2.toArray n1 n2 d1 d2 sl1 sl2 (by simp; omega)) ⟨e1, e2, ?_⟩ hu1
  exact ⟨(fun z => nomatch z), ⟨.bl false, H, I, rfl, q⟩⟩
 ·exact op_eqLE hr pins s σ H _ _ v u Q I rx ry ⟨a, b, xs, ys, rfl, rfl, h1, h2, p, q⟩
theorem sl_tupS : SlR X (fun x lo hi H Q => ∃ a xs, x = .ref a /\ H a = some (.tup xs) /\ ∀ p2 H2, Same H H2 -> H2 p2 = some (.tup (cutV xs lo hi)) -> Q (.ref p2) H2) := by
 intro pins s σ H x v vl vu lo hi sl Q I rx hs pl pu h
 obtain ⟨a, xs, rfl, ep, key⟩ := h
 refine sl_tupW pins s σ H _ v vl vu lo hi sl Q I rx hs pl pu ⟨a, xs, rfl, SqT.of ep, fun z => key a H (Same.refl _) ?_, fun _ p2 hp2 => key p2 _ (same_new hp2 _) upd_same⟩
 unfold cutV
 rw [z.1, z.2, List.drop_zero, Nat.sub_zero, List.take_length]
 exact ep
end
end L2
set_option Elab.async false
set_option linter.all false
set_option maxRecDepth 100000
set_option maxHeartbeats 4000000
namespace L2
open PySem PySem.Spec PyProof.Rows Builtin Builtin.Str
theorem vals_str : ∀ {ws : List Str} {us : List Value}, Vals (ws.map V.str) us -> ∃ l : List (Str × Tok), us = strValues l /\ l.map (·.1) = ws
 | [], _, r => by cases r; exact ⟨[], rfl, rfl⟩
 | w :: ws, _, r => by
  cases r with
  | cons h t =>
   obtain ⟨l, rfl, e⟩ := vals_str t
   obtain ⟨tk, rfl⟩ := h
   exact ⟨(w, tk) :: l, rfl, by rw [List.map_cons, e]⟩
theorem strs_vals : ∀ l : List (Str × Tok), Vals ((l.map (·.1)).map V.str) (strValues l)
 | [] => .nil
 | p :: l => .cons ⟨p.2, rfl⟩ (strs_vals l)
section
variable {X : Cx}
def tBMS (r : V -> List V -> Hp -> VK -> Prop) (to : TE) (t : TA) : TE := fun σ H Q => to σ H fun x H1 => (∃ z, x = .str z) /\ t σ H1 fun xs H2 => r x xs H2 Q
theorem pe_bmS {o e : Expr} {es : List Expr} {to : TE} {t : TA} {name : Str} {apos cpos : Pos} {id : String} {r : V -> List V -> Hp -> VK -> Prop} (slot : Slot "str" name id) (hty : typeOf (.builtin id) = pure (.type "method_descriptor")) (hm : MtR X id r) (ho : PE X o to) (ha : PA X (e :: es) t)
  (hbase : attributeBase o name X.env (eval o X.env) = eval o X.env := by rfl)
  (hfew : ((backTo cpos (starEach (e :: es) X.env)).all (fun x => !x.1) && (backToKw cpos (keywordEach [] X.env)).all (fun x => x.1.isSome)
   && decide ((e :: es).length + ([] : List Keyword).length + (if ([] : List Keyword).isEmpty then 0 else 1) < 30)) = true := by rfl)
  (hline : (apos.endLine == cpos.line) = true := by rfl) (hs : starEach (e :: es) X.env = (false, eval e X.env) :: starEach es X.env := by rfl) (hplain : (backTo cpos (starEach es X.env)).any (·.1) = false := by rfl) :
  PE X (.Call (.Attribute o name apos) (e :: es) [] cpos) (tBMS r to t) := by
 intro pins s σ H Q I h
 refine wpAny_Call_method_late hbase hfew hline rfl (thn (ho pins s σ H _ I h) fun v s1 ⟨x, H1, I1, r1, ty, q1⟩ => ?_)
 obtain ⟨z, rfl⟩ := ty
 obtain ⟨tk, rfl⟩ := r1
 refine ⟨"str", id, PySem.F.plainAttrs_str, slot, hty, typeIs_str _ _ _, (fun a e => nomatch e), ?_⟩
 have hA := ha cpos pins s1 σ H1 _ I1 q1
 rw [hs] at hA ⊢
 refine Calls.callWith_builtin (by show (false || (backTo cpos (starEach es X.env)).any (·.1)) = false; rw [hplain] <;> rfl) (Calls.evalArgs_plain ?_)
 exact thn hA fun us s2 ⟨vs, H2, I2, r2, q2⟩ => hm pins s2 σ H2 (.str z) vs _ us Q I2 ⟨_, rfl⟩ r2 q2
theorem mt_starts : MtR X "str.startswith" (fun x vs H Q => ∃ y z, x = .str y /\ vs = [.str z] /\ Q (.bl (Txt.startswith y z)) H) := by
 intro pins s σ H x vs v us Q I rx rv h
 obtain ⟨y, z, rfl, rfl, q⟩ := h
 obtain ⟨t1, rfl⟩ := rx
 obtain ⟨u, rfl, ⟨t2, rfl⟩⟩ := vals1 rv
 exact SC.startswith ⟨.bl _, H, I, rfl, q⟩
theorem mt_join : MtR X "str.join" (fun x vs H Q => ∃ (z : Str) (p : Addr) (ws : List Str), x = .str z /\ vs = [.ref p] /\ SqL X.K H p (ws.map V.str) /\ JoinOk z ws = true /\ Q (.str (Txt.join z ws)) H) := by
 intro pins s σ H x vs v us Q I rx rv h
 obtain ⟨z, p, ws, rfl, rfl, hp, jo, q⟩ := h
 obtain ⟨t1, rfl⟩ := rx
 obtain ⟨u, rfl, ru⟩ := vals1 rv
 cases (show u = Value.ref p from ru)
 obtain ⟨its, r, pl, _⟩ := I.list hp
 obtain ⟨l, rfl, e⟩ := vals_str r
 exact SC.join pl.isList e jo fun t' k => ⟨.str _, H, I.tok _, ⟨_, rfl⟩, q⟩
theorem mt_split : MtR X "str.split" (fun x vs H Q => ∃ y z : Str, x = .str y /\ vs = [.str z] /\ (z.length == 0) = false /\ y.length <= sizeLine /\ (partsBetween y (occurrences y z 0 y.length (y.length + 1)) z.length).length <= sizeLine /\ ∀ p, H p = none -> Q (.ref p) (upd H p (.lst ((Txt.split y z).map V.str)))) := by
 intro pins s σ H x vs v us Q I rx rv h
 obtain ⟨y, z, rfl, rfl, hz, hy, hn, q⟩ := h
 obtain ⟨t1, rfl⟩ := rx
 obtain ⟨u, rfl, ⟨t2, rfl⟩⟩ := vals1 rv
 have q := q _ (I.hok.fresh (Nat.le_refl s.heap.objs.size))
 have new : ∀ (l : List (Str × Tok)) (tk : Nat), l.length <= sizeLine -> l.map (·.1) = Txt.split y z -> EP X pins σ Q (.ref s.heap.objs.size) { s with heap := s.heap.push { cls := .type "list", data := .seq (strValues l).toArray }, toks := tk } := fun l tk hl e =>
  ⟨.ref _, _, I.laid (o := .lst ((Txt.split y z).map V.str)) (fun _ _ e => Heap.get?_push_of_some _ e) (Nat.le_refl _) ⟨by rw [<- e, List.length_map, List.length_map]; exact hl, strValues l, _, by rw [<- e]; exact strs_vals l, Heap.get?_push_size _ rfl⟩, rfl, q⟩
 cases h1 : (decide (y.length < z.length) || decide (strKind y < strKind z)) with
 | true => exact call_meets PySem.F.slot_str_split (typeIs_str _ _ _) PySem.F.entry_str_split (PySem.F.args_str_split_2 _ _) (meets_str_split_cannot_occur y z t1 t2 h1) (new [(y, t1)] _ (by show 1 <= sizeLine; decide) (if_pos h1).symm)
 | false =>
  cases hf : (occurrences y z 0 y.length (y.length + 1)).isEmpty with
  | true => exact call_meets PySem.F.slot_str_split (typeIs_str _ _ _) PySem.F.entry_str_split (PySem.F.args_str_split_2 _ _) (meets_str_split_not_found y z t1 t2 h1 hz hf) (new [(y, t1)] _ (by show 1 <= sizeLine; decide) ((if_neg (by rw [h1]; decide)).trans (if_pos hf)).symm)
  | false =>
   refine call_meets PySem.F.slot_str_split (typeIs_str _ _ _) PySem.F.entry_str_split (PySem.F.args_str_split_2 _ _) (meets_str_split_sep y z t1 t2 h1 hz hf hy hn) ?_
   have k := new (numbered s.toks (partsBetween y (occurrences y z 0 y.length (y.length + 1)) z.length)) (s.toks + (partsBetween y (occurrences y z 0 y.length (y.length + 1)) z.length).length) (by rw [<- List.length_map (f := (·.1)), numbered_texts]; exact hn) ((numbered_texts _ _).trans ((if_neg (by rw [h1]; decide)).trans (if_neg (by rw [hf]; decide))).symm)
   rw [<- strsFrom_eq] at k
   exact k
end
end L2
set_option Elab.async false
set_option linter.all false
set_option maxRecDepth 100000
set_option maxHeartbeats 4000000
namespace L2
open PySem PySem.Spec PyProof.Rows Builtin Builtin.Str
section
variable {X : Cx}
def shown : V -> Option Str
 | .str z => some z
 | .int i => if i.natAbs.log2 < 1920 then some (toString i) else none
 | _ => none
end
end L2
set_option Elab.async false
set_option linter.all false
set_option maxRecDepth 100000
set_option maxHeartbeats 4000000
namespace L2
open PySem PySem.Spec PyProof.Rows Builtin Builtin.Str
def Its (z : Str) : It := ⟨fun i _ => i < z.cps.size, fun i H x H' => H' = H /\ ∃ c, z.cps[i]? = some c /\ x = .str ⟨#[c]⟩, fun i _ => z.cps.size <= i⟩
theorem turn_str {P : Program} {w : World} {K : PySem.W.Frag} {tg : Expr} {z : Str} {tk : Tok} (it : Addr) : Turn P w K tg (Its z) [it] it (fun i h => h.IsStrIter it (strIterType z) z tk i) where
 mem := by simp
 obj := fun i h st b hb => by
  obtain rfl : b = it := by simpa using hb
  obtain ⟨o, e, c, d⟩ := st
  exact ⟨o, e, fun v z => by rw [d] at z; cases z⟩
 keep := fun i h h' st k => by
  obtain ⟨o, e, r⟩ := st
  exact ⟨o, k it (by simp) o e, r⟩
 item := by
  intro X hP hw hK hcl i pins s σ H E I hf st hg
  subst hP hw hK
  obtain ⟨f0, f1, f2, f3, f4, f5⟩ := hf it (by simp)
  have ec : z.cps[i]? = some z.cps[i] := Array.getElem?_eq_getElem hg
  have go : ∀ h' : Heap, h'.IsStrIter it (strIterType z) z tk (i + 1) -> Heap.SameBut it s.heap h' -> ∃ u, some (Value.str ⟨#[z.cps[i]]⟩ s.toks) = some u /\ wpAny (model X.prog X.w) X.A (letOwnedTupleGo tg (.ref it) u) (fun _ s2 => ∃ x H', Inv X pins σ H' s2 /\ RelV x u /\ (Its z).yld i H x H' /\ s2.heap.IsStrIter it (strIterType z) z tk (i + 1) /\ ∀ b ∈ [it], H' b = none) E { s with heap := h', toks := s.toks + 1 } := fun h' st' sb => by
   have I1 : Inv X pins σ H { s with heap := h', toks := s.toks + 1 } := I.turned (t' := s.toks + 1) (fun b o hb e => (sb.2 b hb).trans e) f0 f1 f3 f4 f5
   obtain ⟨o, e, c, dd⟩ := id st'
   refine ⟨_, rfl, go_of (s := { s with heap := h', toks := s.toks + 1 }) e c dd ?_ ⟨.str ⟨#[z.cps[i]]⟩, H, I1, ⟨_, rfl⟩, ⟨rfl, _, ec, rfl⟩, st', fun b hb => (hf b hb).1⟩⟩
   unfold strIterType
   split <;> decide
  cases ha : z.cps.all (· < 128) with
  | true =>
   have et : strIterType z = "str_ascii_iterator" := by simp [strIterType, ha]
   rw [et] at st go ⊢
   exact wpAny_pyNext_ascii_item st ec fun h' st' sb => go h' st' sb
  | false =>
   have et : strIterType z = "str_iterator" := by simp [strIterType, ha]
   rw [et] at st go ⊢
   exact wpAny_pyNext_wide_item st ec fun h' st' sb => go h' st' sb
 done := by
  intro X hP hw hK hcl i pins s σ H E I hf st hg
  subst hP hw hK
  obtain ⟨f0, f1, f2, f3, f4, f5⟩ := hf it (by simp)
  cases ha : z.cps.all (· < 128) with
  | true =>
   have et : strIterType z = "str_ascii_iterator" := by simp [strIterType, ha]
   rw [et] at st
   exact wpAny_pyNext_ascii_end (I.ok.hd hcl) st (Array.getElem?_eq_none hg) fun h' eb => ⟨rfl, I.turned (t' := s.toks) (fun b o hb e => eb b o hb e) f0 f1 f3 f4 f5⟩
  | false =>
   have et : strIterType z = "str_iterator" := by simp [strIterType, ha]
   rw [et] at st
   exact wpAny_pyNext_wide_end (I.ok.hd hcl) st (Array.getElem?_eq_none hg) fun h' eb => ⟨rfl, I.turned (t' := s.toks) (fun b o hb e => eb b o hb e) f0 f1 f3 f4 f5⟩
 self := fun A i s Q E st h => by
  cases ha : z.cps.all (· < 128) with
  | true =>
   have et : strIterType z = "str_ascii_iterator" := by simp [strIterType, ha]
   rw [et] at st
   exact wpAny_pyIter_striter_ascii st h
  | false =>
   have et : strIterType z = "str_iterator" := by simp [strIterType, ha]
   rw [et] at st
   exact wpAny_pyIter_striter_wide st h
def iStr (tl : TE) : TI := fun σ H R => tl σ H fun x H1 => ∃ z, x = .str z /\ R (Its z) H1
theorem pi_str {X : Cx} {tg l : Expr} {tl : TE} (hl : PE X l tl) : PI X tg l (iStr tl) := by
 intro pins s σ H R I h
 refine thn (hl pins s σ H _ I h) fun v s1 p1 => ?_
 obtain ⟨_, H1, I1, r1, z, rfl, q⟩ := p1
 obtain ⟨tk, rfl⟩ := r1
 refine wpAny_pyIter_strU ⟨s1.heap.objs.size, [s1.heap.objs.size], _, _, _, rfl, I1.kept (t' := s1.toks) fun b o e => Heap.get?_push_of_some _ e, turn_str (tk := tk) _, ⟨_, Heap.get?_push_size _ rfl, rfl, rfl⟩, fun b hb => ?_, q⟩
 obtain rfl : b = s1.heap.objs.size := by simpa using hb
 exact I1.fpOk (Nat.le_refl _) (I1.hok.fresh (Nat.le_refl _))
theorem compN_str {z : Str} {k : Nat} {tc : TT} {te : TE} {τ : St} {H : Hp} {Q : VK} (Pv : Nat -> List V -> Hp -> Prop) (h0 : Pv 0 [] H) (hz : z.cps.size <= sizeLine)
  (hs : ∀ i c ys H, z.cps[i]? = some c -> ys.length <= i -> Pv i ys H -> StepC k tc te τ Pv i (.str ⟨#[c]⟩) ys H)
  (hd : ∀ ys H, ys.length <= z.cps.size -> Pv z.cps.size ys H -> ∀ l, H l = none -> Q (.ref l) (upd H l (.lst ys))) :
  CompW (Its z) (gName k) tc te τ Q H := by
 refine ⟨fun i m σ ys H => m = z.cps.size - i /\ i <= z.cps.size /\ (∀ x, σ.set k (some x) = τ.set k (some x)) /\ ys.length <= i /\ Pv i ys H, ⟨z.cps.size, by simp, Nat.zero_le _, fun _ => rfl, Nat.le_refl _, h0⟩, ?_⟩
 rintro i m σ ys H ⟨rfl, hi, hτ, hy, p⟩
 by_cases hlt : i < z.cps.size
 ·refine .inr ⟨hlt, fun x H' y => ?_⟩
  obtain ⟨e, c, hc, rfl⟩ := y
  subst e
  show tc (σ.set k (some _)) _ _
  rw [hτ (.str ⟨#[c]⟩)]
  have hσ : ∀ v, (τ.set k (some (.str ⟨#[c]⟩))).set k (some v) = τ.set k (some v) := fun v => by rw [List.set_set]
  refine hs i c ys _ hc hy p _ _ (fun y4 H4 p4 => ⟨by omega, z.cps.size - (i + 1), by omega, rfl, hlt, hσ, by rw [List.length_append, List.length_singleton]; omega, p4⟩) fun H3 p3 => ⟨z.cps.size - (i + 1), by omega, rfl, hlt, hσ, by omega, p3⟩
 ·obtain rfl : i = z.cps.size := by omega
  exact .inl ⟨Nat.le_refl _, by omega, hd ys H hy p⟩
theorem call_intS {X : Cx} : CallR X (.type "int") (fun xs H Q => ∃ (z : Str) (n : Int), xs = [.str z] /\ intText? z = some n /\ z.length <= 640 /\ Q (.int n) H) := by
 intro pins s σ H xs us Q I r h
 obtain ⟨z, n, rfl, hn, hl, q⟩ := h
 obtain ⟨u, rfl, ⟨tk, rfl⟩⟩ := vals1 r
 exact PySem.W.KIN.call_text hn hl ⟨.int n, H, I.tok _, ⟨_, rfl⟩, q⟩
end L2
set_option Elab.async false
set_option linter.all false
set_option maxRecDepth 100000
set_option maxHeartbeats 4000000
namespace L2
open PySem PySem.Spec PyProof.Rows Builtin Builtin.Str
theorem mid_inj {c : Nat} : ∀ {a b A B : List Nat}, c ∉ a -> c ∉ b -> a ++ c :: A = b ++ c :: B -> a = b /\ A = B
 | [], [], _, _, _, _, h => ⟨rfl, (List.cons.inj h).2⟩
 | [], y :: b, _, _, _, hb, h => absurd (by rw [(List.cons.inj h).1]; exact List.mem_cons_self) hb
 | x :: a, [], _, _, ha, _, h => absurd (by rw [<- (List.cons.inj h).1]; exact List.mem_cons_self) ha
 | x :: a, y :: b, _, _, ha, hb, h => by
  obtain ⟨h1, h2⟩ := List.cons.inj h
  obtain ⟨e1, e2⟩ := mid_inj (fun z => ha (List.mem_cons_of_mem _ z)) (fun z => hb (List.mem_cons_of_mem _ z)) h2
  exact ⟨by rw [h1, e1], e2⟩
theorem cat_cps (x y : Str) : (x ++ y).cps.toList = x.cps.toList ++ y.cps.toList := by
 show (x.cps ++ y.cps).toList = _
 simp
theorem str_ext {x y : Str} (h : x.cps.toList = y.cps.toList) : x = y := by
 cases x; cases y
 congr 1
 exact Array.toList_inj.mp h
theorem join_cps (c : Nat) (x y : Str) (r : List Str) : (Str.join ⟨#[c]⟩ (x :: y :: r)).cps.toList = x.cps.toList ++ c :: (Str.join ⟨#[c]⟩ (y :: r)).cps.toList := by
 show (x ++ ⟨#[c]⟩ ++ Str.join ⟨#[c]⟩ (y :: r)).cps.toList = _
 rw [cat_cps, cat_cps, List.append_assoc]
 rfl
theorem join_inj {c : Nat} : ∀ {xs ys : List Str}, xs ≠ [] -> ys ≠ [] -> (∀ p ∈ xs, c ∉ p.cps.toList) -> (∀ p ∈ ys, c ∉ p.cps.toList) -> (Str.join ⟨#[c]⟩ xs).cps.toList = (Str.join ⟨#[c]⟩ ys).cps.toList -> xs = ys
 | [], _, h, _, _, _, _ => absurd rfl h
 | _, [], _, h, _, _, _ => absurd rfl h
 | [x], [y], _, _, _, _, e => by rw [str_ext (show x.cps.toList = y.cps.toList from e)]
 | [x], y :: z :: s, _, _, hx, _, e => by
  rw [join_cps] at e
  exact absurd (show c ∈ x.cps.toList by rw [show x.cps.toList = _ from e]; exact List.mem_append_right _ List.mem_cons_self) (hx x List.mem_cons_self)
 | x :: z :: r, [y], _, _, _, hy, e => by
  rw [join_cps] at e
  exact absurd (show c ∈ y.cps.toList by rw [show y.cps.toList = _ from e.symm]; exact List.mem_append_right _ List.mem_cons_self) (hy y List.mem_cons_self)
 | x :: z :: r, y :: w :: s, _, _, hx, hy, e => by
  rw [join_cps, join_cps] at e
  obtain ⟨e1, e2⟩ := mid_inj (hx x List.mem_cons_self) (hy y List.mem_cons_self) e
  rw [str_ext e1, join_inj (xs := z :: r) (ys := w :: s) (by simp) (by simp) (fun p hp => hx p (List.mem_cons_of_mem _ hp)) (fun p hp => hy p (List.mem_cons_of_mem _ hp)) e2]
theorem split_joined {c : Nat} {ws : List Str} (h0 : ws ≠ []) (hf : ∀ p ∈ ws, c ∉ p.cps.toList) : Txt.split (Txt.join ⟨#[c]⟩ ws) ⟨#[c]⟩ = ws := by
 refine join_inj (fun z => ?_) h0 (StrLaws.split_free _ c) hf ?_
 ·have := split_pos (Txt.join ⟨#[c]⟩ ws) ⟨#[c]⟩
  rw [z] at this
  exact absurd this (by decide)
 ·rw [StrLaws.join_split]
  show (glued ⟨#[c]⟩ ws).cps.toList = _
  rw [StrLaws.glued_eq_join]
end L2
set_option Elab.async false
set_option linter.all false
set_option maxRecDepth 100000
set_option maxHeartbeats 4000000
namespace L2
open PySem PySem.Spec PyProof.Rows PySem.NumText
abbrev decT (m : Nat) : Str := Str.ofString (toString (m : Int))
abbrev dg (m : Nat) : List Char := Nat.toDigits 10 m
theorem decT_cps (m : Nat) : (decT m).cps.toList = (dg m).map Char.toNat := PySem.W.KIN.signs_num m
theorem dg_small {m : Nat} (h : m < 10) : dg m = [Nat.digitChar m] := Nat.toDigits_of_lt_base h
theorem dg_big {m : Nat} (h : ¬ m < 10) : dg m = dg (m / 10) ++ [Nat.digitChar (m % 10)] := by
 have hm : m % 10 < 10 := Nat.mod_lt m (by decide)
 have t : Nat.toDigits 10 (m / 10) ++ Nat.toDigits 10 (m % 10) = Nat.toDigits 10 (10 * (m / 10) + m % 10) := Nat.toDigits_append_toDigits (by decide) (by omega) hm
 rw [Nat.div_add_mod, Nat.toDigits_of_lt_base hm] at t
 exact t.symm
theorem dg_pos (m : Nat) : 1 <= (dg m).length := by
 by_cases h : m < 10
 ·rw [dg_small h]; exact Nat.le_refl 1
 ·rw [dg_big h, List.length_append]; exact Nat.le_add_left _ _
theorem dg_mono : ∀ (k n : Nat), n <= k -> (dg n).length <= (dg k).length := by
 intro k
 induction k using Nat.strongRecOn with
 | _ k ih =>
  intro n hn
  by_cases h : n < 10
  ·rw [dg_small h]; exact dg_pos k
  ·rw [dg_big h, dg_big (m := k) (by omega), List.length_append, List.length_append]
   have := ih (k / 10) (by omega) (n / 10) (by omega)
   exact Nat.add_le_add_right this _
theorem decT_len (m : Nat) : (decT m).length = (dg m).length := by
 show (decT m).cps.size = _
 rw [<- Array.length_toList, decT_cps, List.length_map]
theorem decT_mono {n k : Nat} (h : n <= k) : (decT n).length <= (decT k).length := by
 rw [decT_len, decT_len]
 exact dg_mono k n h
theorem digit_rng : ∀ d : Nat, d < 10 -> 48 <= (Nat.digitChar d).toNat /\ (Nat.digitChar d).toNat <= 57 := by decide
theorem digit_nz : ∀ d : Nat, d < 10 -> 0 < d -> 49 <= (Nat.digitChar d).toNat := by decide
theorem dg_rng (m : Nat) : ∀ c ∈ dg m, 48 <= c.toNat /\ c.toNat <= 57 := by
 induction m using Nat.strongRecOn with
 | _ m ih =>
  intro c hc
  by_cases h : m < 10
  ·rw [dg_small h] at hc
   rw [List.mem_singleton.mp hc]
   exact digit_rng m h
  ·rw [dg_big h] at hc
   rcases List.mem_append.mp hc with y | y
   ·exact ih (m / 10) (by omega) c y
   ·rw [List.mem_singleton.mp y]
    exact digit_rng _ (Nat.mod_lt m (by decide))
theorem dg_head (m : Nat) (h0 : 0 < m) : ∃ c r, dg m = c :: r /\ 49 <= c.toNat := by
 induction m using Nat.strongRecOn with
 | _ m ih =>
  by_cases h : m < 10
  ·exact ⟨_, [], dg_small h, digit_nz m h h0⟩
  ·obtain ⟨c, r, e, hc⟩ := ih (m / 10) (by omega) (by omega)
   exact ⟨c, r ++ [Nat.digitChar (m % 10)], by rw [dg_big h, e]; rfl, hc⟩
theorem decT_rng (m : Nat) : ∀ c ∈ (decT m).cps.toList, 48 <= c /\ c <= 57 := fun c hc => by
 rw [decT_cps] at hc
 obtain ⟨x, hx, rfl⟩ := List.mem_map.mp hc
 exact dg_rng m x hx
theorem decT_read {m : Nat} (hl : (decT m).length <= 4300) : intText? (decT m) = some (m : Int) := by
 have hd : AllDigits (decT m).cps.toList := fun c hc => decT_rng m c hc
 have hne : (decT m).cps.toList ≠ [] := fun z => by
  have := dg_pos m
  rw [decT_cps] at z
  rw [List.map_eq_nil_iff.mp z] at this
  exact absurd this (by decide)
 have e := intText_digits hd hne hl
 rw [decT_cps, PySem.W.KIN.val_back] at e
 exact e
theorem decT_zero {m : Nat} (h : 0 < m) : Txt.startswith (decT m) "0" = false := by
 obtain ⟨c, r, e, hc⟩ := dg_head m h
 have e2 : (decT m).cps.toList[0]? = some c.toNat := by rw [decT_cps, e]; rfl
 cases z : Txt.startswith (decT m) "0" with
 | false => rfl
 | true =>
  have z2 : (decide (0 + (Str.ofString "0").length <= (decT m).length) && Builtin.Str.subAt (decT m) "0" 0) = true := z
  rw [Bool.and_eq_true, decide_eq_true_iff] at z2
  have := (StrLaws.subAt_one (decT m) 48 0).mp ⟨z2.1, z2.2⟩
  rw [e2] at this
  have := Option.some.inj this
  omega
end L2
set_option Elab.async false
set_option linter.all false
set_option maxRecDepth 100000
set_option maxHeartbeats 4000000
namespace L2
open PySem PySem.Spec PyProof.Rows Builtin Builtin.Str
def DLit (K : PySem.W.Frag) (w : World) (d : Addr) : Prop := (d == sysModules) = false /\ ∃ es n, K.lookup d = some ⟨.type "dict", none, .dict es n, #[]⟩ /\ PySem.W.KeysLit w.params es.toList
section
variable {X : Cx}
theorem DLit.map {pins : List (Addr × Obj)} {σ : St} {H : Hp} {s : Shared} {d : Addr} (D : DLit X.K X.w d) (I : Inv X pins σ H s) : ∃ f, s.heap.MapOf (strKind X.prog X.w) d f /\ ∀ z r, PySem.W.nsIn X.K d z = some r -> f z = r := by
 obtain ⟨_, es, n, hl, hk⟩ := D
 exact ⟨_, PySem.W.mapOf_K I.kIn hl hk, fun z r e => PySem.W.find_K hl e⟩
theorem op_notInDL : OpR X (compareOp .NotIn) (fun x y H Q => ∃ (z : Str) (d : Addr) (r : Option Value), x = .str z /\ y = .ref d /\ DLit X.K X.w d /\ PySem.W.nsIn X.K d z = some r /\ Q (.bl (!r.isSome)) H) := by
 intro pins s σ H x y v u Q I rx ry h
 obtain ⟨z, d, r, rfl, rfl, D, e, q⟩ := h
 obtain ⟨tk, rfl⟩ := rx
 cases (show u = Value.ref d from ry)
 obtain ⟨f, M, hf⟩ := D.map I
 refine wpAny_notIn_of (strKind_is X.prog X.w z tk) D.1 M ?_
 rw [hf z r e]
 exact ⟨.bl _, H, I.tok _, rfl, q⟩
def tDGetL (X : Cx) (td ty : TE) : TE := fun σ H Q => td σ H fun x H1 => ty σ H1 fun y H2 => ∃ (z : Str) (d : Addr) (i : Int) (t : Tok), x = .ref d /\ y = .str z /\ DLit X.K X.w d /\ PySem.W.nsIn X.K d z = some (some (.int i t)) /\ Q (.int i) H2
theorem pe_dgetL {o i : Expr} {td ty : TE} {pos : Pos} (ho : PE X o td) (hi : PE X i ty) (hs : NoSl i) : PE X (.Subscript o i pos) (tDGetL X td ty) := by
 intro pins s σ H Q I h
 refine subD_of PySem.F.slot_dict_getitem.lookup hs (thn (ho pins s σ H _ I h) fun u s1 ⟨x, H1, I1, rx, q1⟩ => thn (hi pins s1 σ H1 _ I1 q1) fun iv s2 ⟨y, H2, I2, ry, p2⟩ => ?_)
 obtain ⟨z, d, i, t, rfl, rfl, D, e, q2⟩ := p2
 obtain ⟨tk, rfl⟩ := ry
 cases (show u = Value.ref d from rx)
 obtain ⟨f, M, hf⟩ := D.map I2
 exact ⟨M.typeIs, wpAny_getItem_of (strKind_is X.prog X.w z tk) M (hf z _ e) ⟨.int i, H2, I2.tok _, ⟨_, rfl⟩, q2⟩⟩
theorem call_strA : CallR X (.type "str") (fun xs H Q => ∃ x z, xs = [x] /\ shown x = some z /\ Q (.str z) H) := by
 intro pins s σ H xs us Q I r h
 obtain ⟨x, z, rfl, ez, q⟩ := h
 obtain ⟨u, rfl, r1⟩ := vals1 r
 cases x with
 | str y =>
  cases (Option.some.inj ez : y = z)
  obtain ⟨tk, rfl⟩ := r1
  exact P.str_of_str ⟨.str _, H, I, ⟨_, rfl⟩, q⟩
 | int i =>
  by_cases hl : i.natAbs.log2 < 1920
  ·have e := (if_pos hl).symm.trans ez
   cases (Option.some.inj e)
   obtain ⟨tk, rfl⟩ := r1
   exact P.str_of_int hl ⟨.str _, H, I.tok _, ⟨_, rfl⟩, q⟩
  ·cases (if_neg hl).symm.trans ez
 | non => cases ez
 | bl b => cases ez
 | byt b => cases ez
 | flt b => cases ez
 | ref a => cases ez
 | ty n => cases ez
theorem mt_joinK {K : PySem.W.Frag} (h : X.K = K := by rfl) : MtR X "str.join" (fun x vs H Q => ∃ (z : Str) (p : Addr) (ws : List Str), x = .str z /\ vs = [.ref p] /\ SqL K H p (ws.map V.str) /\ JoinOk z ws = true /\ Q (.str (Txt.join z ws)) H) := by
 subst h; exact mt_join
end
end L2
set_option Elab.async false
set_option linter.all false
set_option maxRecDepth 100000
set_option maxHeartbeats 4000000
namespace L2
open PySem PySem.Spec PyProof.Rows
def HasF (K : PySem.W.Frag) (x : Str) (st : Stmt) : Prop := ∃ (f : Addr) (od an : Option Addr) (sl : Array (Option Value)) (oc kV dc pm cd ct : Value), PySem.W.nsIn K mainGlobals x = some (some (.ref f)) /\ K.lookup f = some ⟨oc, od, .func (PySem.W.fnOf x x (defArgs st) (defBody st) (defScope st) .none kV dc pm an cd ct), sl⟩ /\ PySem.W.codeIn K cd x = true /\ PySem.W.keepIn K (.ref f) = true
theorem HasF.mk {K : PySem.W.Frag} {x : Str} {st : Stmt} {f : Addr} {od an : Option Addr} {sl : Array (Option Value)} {oc kV dc pm cd ct : Value} (a : PySem.W.nsIn K mainGlobals x = some (some (.ref f))) (l : K.lookup f = some ⟨oc, od, .func (PySem.W.fnOf x x (defArgs st) (defBody st) (defScope st) .none kV dc pm an cd ct), sl⟩) (c : PySem.W.codeIn K cd x = true) (k : PySem.W.keepIn K (.ref f) = true) : HasF K x st := ⟨_, _, _, _, _, _, _, _, _, _, a, l, c, k⟩
theorem HasF.cal {K : PySem.W.Frag} {x : Str} {st : Stmt} (hf : HasF K x st) (P : Program) (w : World) (base : Heap) {h : Heap} {mg : Str -> Option Value} (X : K.In h) (G : h.Ns mainGlobals mg) {lv : Nat} {ps : List Str} {sp : Sp} (ok : ∀ {f : Addr} {fd : FuncData}, Fun K x x st f fd -> FnOk P w K mg base CX0 lv f fd ps sp)
  (hb : ∀ (kV doc pm : Value) (an : Option Addr) (cdv ct : Value) (us : List Value), us.length = ps.length -> bindArgs (PySem.W.fnOf x x (defArgs st) (defBody st) (defScope st) .none kV doc pm an cdv ct) ⟨us, []⟩ = pure (ps.zip us)) : Cal P w K mg base lv x ps sp := by
 obtain ⟨f, od, an, sl, oc, kV, dc, pm, cd, ct, a, l, c, k⟩ := hf
 have F := fun_mk l c k
 exact ⟨_, _, ok F, PySem.W.mg_of X G a, k, F.binds hb⟩
end L2
set_option Elab.async false
set_option linter.all false
set_option maxRecDepth 100000
set_option maxHeartbeats 4000000
namespace L2
open PySem PySem.Spec PyProof.Rows
theorem HasF.selfs {K : PySem.W.Frag} {x : Str} {st : Stmt} (hf : HasF K x st) (P : Program) (w : World) (base : Heap) {h : Heap} {mg : Str -> Option Value} (X : K.In h) (G : h.Ns mainGlobals mg) {ps : List Str} {sp : Nat -> Sp} (h0 : ∀ vs H Q E, ¬ sp 0 vs H Q E)
  (ok : ∀ n, Cal P w K mg base n x ps (sp n) -> ∀ {f : Addr} {fd : FuncData}, Fun K x x st f fd -> FnOk P w K mg base CX0 (n + 1) f fd ps (sp (n + 1)))
  (hb : ∀ (kV doc pm : Value) (an : Option Addr) (cdv ct : Value) (us : List Value), us.length = ps.length -> bindArgs (PySem.W.fnOf x x (defArgs st) (defBody st) (defScope st) .none kV doc pm an cdv ct) ⟨us, []⟩ = pure (ps.zip us)) : ∀ n, Cal P w K mg base n x ps (sp n) := by
 obtain ⟨f, od, an, sl, oc, kV, dc, pm, cd, ct, a, l, c, k⟩ := hf
 have F := fun_mk l c k
 intro n
 induction n with
 | zero => exact ⟨_, _, ⟨fun vs H Q E z => absurd z (h0 _ _ _ _), fun A outer s H args us vs Q E hr he hb hv hs => absurd hs (h0 _ _ _ _)⟩, PySem.W.mg_of X G a, k, F.binds hb⟩
 | succ n ih => exact ⟨_, _, ok n ih F, PySem.W.mg_of X G a, k, F.binds hb⟩
end L2
set_option Elab.async false
set_option linter.all false
set_option maxRecDepth 100000
set_option maxHeartbeats 800000
namespace K80
open PySem L2
def top (i : Nat) : Stmt := PySem.Challenge.pw_ringfell_k80_numbers_and_logs_written.main.body.getD i (.Pass ⟨0, 0, 0, 0⟩)
abbrev sIsRising : Stmt := top 5
abbrev sWordsText : Stmt := top 11
abbrev sNumbersText : Stmt := top 12
abbrev sLogText : Stmt := top 13
abbrev sNumberRead : Stmt := top 14
abbrev sWordsOf : Stmt := top 15
abbrev sRowsWords : Stmt := top 16
abbrev sReadNumbers : Stmt := top 17
abbrev sStepRead : Stmt := top 18
abbrev sReadLog : Stmt := top 19
abbrev sLDeal : Stmt := top 21
abbrev sLTake : Stmt := top 22
abbrev sLSame : Stmt := top 23
abbrev sLRow : Stmt := top 24
abbrev sLSteps : Stmt := top 25
abbrev sLText : Stmt := top 26
abbrev sLaw : Stmt := top 27
structure Blt (mg : Str -> Option Value) : Prop where
 b_all : mg "all" = none
 b_bool : mg "bool" = none
 b_enumerate : mg "enumerate" = none
 b_int : mg "int" = none
 b_isinstance : mg "isinstance" = none
 b_len : mg "len" = none
 b_list : mg "list" = none
 b_min : mg "min" = none
 b_range : mg "range" = none
 b_str : mg "str" = none
 b_tuple : mg "tuple" = none
 b_zip : mg "zip" = none
theorem bt_all : bootBuiltins "all" = some (.builtin "all") := by decide +kernel
theorem bt_bool : bootBuiltins "bool" = some (.type "bool") := by decide +kernel
theorem bt_int : bootBuiltins "int" = some (.type "int") := by decide +kernel
theorem bt_isinstance : bootBuiltins "isinstance" = some (.builtin "isinstance") := by decide +kernel
theorem bt_len : bootBuiltins "len" = some (.builtin "len") := by decide +kernel
theorem bt_list : bootBuiltins "list" = some (.type "list") := by decide +kernel
theorem bt_min : bootBuiltins "min" = some (.builtin "min") := by decide +kernel
theorem bt_str : bootBuiltins "str" = some (.type "str") := by decide +kernel
theorem bt_tuple : bootBuiltins "tuple" = some (.type "tuple") := by decide +kernel
structure Cst (mg : Str -> Option Value) : Prop where
 c_MOST_PLACES : ∃ t, mg "MOST_PLACES" = some (.int 40 t)
 c_FIGURES : ∃ t, mg "FIGURES" = some (.str "0123456789" t)
 c_MOST_NUMBERS : ∃ t, mg "MOST_NUMBERS" = some (.int 60 t)
 c_MOST_STEPS : ∃ t, mg "MOST_STEPS" = some (.int 300 t)
abbrev spDealb : Sp := fun vs H Q _ => ∃ c m : Int, vs = [.int c, .int m] /\ 0 <= m /\ m <= 1000 /\ ∀ n : Int, Q (.int n) H
@[irreducible] def spDeal : Sp := spDealb
theorem spDeal_def {vs : List V} {H : Hp} {Q : VK} {E : XK} : spDeal vs H Q E ↔ spDealb vs H Q E := by
 delta spDeal
 exact Iff.rfl
abbrev spTakeb : Sp := fun vs H Q _ => ∃ (p : Addr) (m : Int), vs = [.ref p, .int m] /\ Pt 1 H p /\ 0 < m /\ Wd m /\ ∀ (d : Int) (H' : Hp), 0 <= d -> d < m -> Bu 1 p H H' -> Q (.int d) H'
@[irreducible] def spTake : Sp := spTakeb
theorem spTake_def {vs : List V} {H : Hp} {Q : VK} {E : XK} : spTake vs H Q E ↔ spTakeb vs H Q E := by
 delta spTake
 exact Iff.rfl
section
variable {P : Program} {w : World} {K : PySem.W.Frag} {mg : Str -> Option Value} {base : Heap} {f T : Addr} {fd : FuncData}
theorem scLTake : FnScope ["pot", "many", "digit"] ["pot", "many"] (defScope sLTake) := ⟨rfl, rfl, rfl, by decide +kernel, rfl, by decide +kernel, by decide +kernel⟩
theorem okLTake (F : Fun K "_law_take" "_law_take" sLTake f fd) (B : Blt mg) (C : Cst mg) : FnOk P w K mg base CX0 1 f fd ["pot", "many"] spTake := by
 refine F.ok scLTake (fun vs H Q E h => ?_) (fun cdv A outer s H vs Q E hr h => ?_)
 ·obtain ⟨_, _, rfl, _⟩ := spTake_def.mp h
  rfl
 obtain ⟨p, m, rfl, hp, h0, h1, q⟩ := spTake_def.mp h
 refine ⟨_, (@pss_cons _ _ _ _ _ (@ps_set _ _ 2 _ _ _ _ scLTake.nd rfl (Or.inl rfl) (@pe_op _ _ _ _ _ _ _ _ op_mod (@pe_ix _ _ _ _ _ _ _ ix_list (pv 0) pe_int (fun _ _ => rfl)) (pv 1)) rfl (by first | exact .inl rfl | exact .inr rfl | assumption))
  (@pss_cons _ _ _ _ _ (@ps_asg _ _ _ _ _ _ (@pe_op _ _ _ _ _ _ _ _ op_fdivW (@pe_ix _ _ _ _ _ _ _ ix_list (pv 0) pe_int (fun _ _ => rfl)) (pv 1)) (pg_sub (pv 0) pe_int set_list) rfl rfl rfl)
  (@pss_one _ _ _ (@ps_ret _ _ _ _ (pv 2))))), ?_⟩
 have bt := Bu.refl hp
 obtain ⟨xs, lx, ep⟩ := hp
 match xs, lx with
 | [x], _ =>
  refine ⟨_, rfl, p, _, 0, _, rfl, rfl, SqL.of ep, rfl, _, rfl, _, _, rfl, rfl, h0, ?_⟩
  refine ⟨_, rfl, p, _, 0, _, rfl, rfl, SqL.of ep, rfl, _, rfl, _, _, rfl, rfl, ⟨h0, h1⟩, _, rfl, p, _, 0, 0, rfl, rfl, ep, rfl, ?_⟩
  refine ⟨_, rfl, ?_⟩
  exact q _ _ (Int.emod_nonneg _ (by omega)) (Int.emod_lt_of_pos _ h0) (bt.put (ys := [x / m]) rfl)
end
section
variable {P : Program} {w : World} {K : PySem.W.Frag} {mg : Str -> Option Value} {base : Heap} {f T : Addr} {fd : FuncData}
theorem scLDeal : FnScope ["cell", "many", "number", "one", "k", "two"] ["cell", "many"] (defScope sLDeal) := ⟨rfl, rfl, rfl, by decide +kernel, rfl, by decide +kernel, by decide +kernel⟩
theorem okLDeal (F : Fun K "_law_deal" "_law_deal" sLDeal f fd) (B : Blt mg) (C : Cst mg) : FnOk P w K mg base CX0 1 f fd ["cell", "many"] spDeal := by
 refine F.ok scLDeal (fun vs H Q E h => ?_) (fun cdv A outer s H vs Q E hr h => ?_)
 ·obtain ⟨_, _, rfl, _⟩ := spDeal_def.mp h
  rfl
 obtain ⟨c, m, rfl, m0, m1, q⟩ := spDeal_def.mp h
 refine ⟨_, (@pss_cons _ _ _ _ _ (@ps_if _ _ _ _ _ _ _ _ (pt_cmpR op_ge (pv 0) (@pe_op _ _ _ _ _ _ _ _ op_pow pe_int pe_int) (nomark _)) (@pss_one _ _ _ (@ps_ret _ _ _ _ (@pe_op _ _ _ _ _ _ _ _ op_sub (pv 0) (@pe_op _ _ _ _ _ _ _ _ op_pow pe_int pe_int)))) pss_nil)
  (@pss_cons _ _ _ _ _ (@ps_set _ _ 2 _ _ _ _ scLDeal.nd rfl (Or.inl rfl) pe_int rfl (by first | exact .inl rfl | exact .inr rfl | assumption))
  (@pss_cons _ _ _ _ _ (@ps_set _ _ 3 _ _ _ _ scLDeal.nd rfl (Or.inl rfl) (@pe_op _ _ _ _ _ _ _ _ op_add (@pe_op _ _ _ _ _ _ _ _ op_mod (pv 0) pe_int) pe_int) rfl (by first | exact .inl rfl | exact .inr rfl | assumption))
  (@pss_cons _ _ _ _ _ (@ps_for _ _ _ _ _ _ _ _ PassesOwn.never rfl (pi_range1 rfl B.b_range (@pa_cons _ _ _ _ _ (pv 1) pa_nil rfl)) (pg_name (i := 4) scLDeal.nd rfl (Or.inl rfl))
   (@pss_cons _ _ _ _ _ (@ps_set _ _ 3 _ _ _ _ scLDeal.nd rfl (Or.inl rfl) (@pe_op _ _ _ _ _ _ _ _ op_mod (@pe_op _ _ _ _ _ _ _ _ op_add (@pe_op _ _ _ _ _ _ _ _ op_add (@pe_op _ _ _ _ _ _ _ _ op_mul (pv 3) pe_int) (@pe_op _ _ _ _ _ _ _ _ op_mul (@pe_op _ _ _ _ _ _ _ _ op_mul pe_int (pv 4)) (pv 4))) pe_int) pe_int) rfl (by first | exact .inl rfl | exact .inr rfl | assumption))
   (@pss_cons _ _ _ _ _ (@ps_set _ _ 5 _ _ _ _ scLDeal.nd rfl (Or.inl rfl) (@pe_op _ _ _ _ _ _ _ _ op_mod (@pe_op _ _ _ _ _ _ _ _ op_mul (pv 3) (pv 3)) pe_int) rfl (by first | exact .inl rfl | exact .inr rfl | assumption))
   (@pss_one _ _ _ (@ps_set _ _ 2 _ _ _ _ scLDeal.nd rfl (Or.inl rfl) (@pe_op _ _ _ _ _ _ _ _ op_add (@pe_op _ _ _ _ _ _ _ _ op_mul (pv 2) pe_int) (@pe_op _ _ _ _ _ _ _ _ op_mod (@pe_op _ _ _ _ _ _ _ _ op_fdiv (pv 5) pe_int) pe_int)) rfl (by first | exact .inl rfl | exact .inr rfl | assumption))))) (fun _ => rfl))
  (@pss_one _ _ _ (@ps_ret _ _ _ _ (pv 2))))))), ?_⟩
 refine ⟨_, rfl, _, _, rfl, rfl, ⟨by decide, by decide, by decide⟩, _, _, rfl, rfl, _, rfl, ite2 (fun z => ?_) (fun z => ?_)⟩
 ·exact ⟨_, rfl, _, _, rfl, rfl, ⟨by decide, by decide, by decide⟩, _, _, rfl, rfl, q _⟩
 refine ⟨_, rfl, _, _, rfl, rfl, (by show (0 : Int) < _; decide), _, _, rfl, rfl, ?_⟩
 have b1 := Int.emod_nonneg c (b := 2147483647) (by decide)
 have b2 := Int.emod_lt_of_pos c (b := 2147483647) (by decide)
 generalize c % 2147483647 + 16807 = o at b1 b2
 refine ⟨_, rfl, m, rfl, by omega, by omega, for_range (fun k σ H' => (∃ (gr on : Int) (c4 c5 : Option V), σ = [some (.int c), some (.int m), some (.int gr), some (.int on), c4, c5]) /\ H' = H) ⟨⟨_, _, _, _, rfl⟩, rfl⟩ ?_ ?_⟩
 ·rintro k σ H' hk ⟨⟨gr, on, c4, c5, rfl⟩, rfl⟩
  have hk' : (k : Int) < m := by omega
  refine ⟨_, rfl, _, _, rfl, rfl, .inr ⟨by decide, by decide⟩, _, rfl, _, _, rfl, rfl, .inl ⟨by decide, by decide⟩, _, rfl, _, _, rfl, rfl, .inl ⟨by omega, by omega⟩, _, _, rfl, rfl, _, _, rfl, rfl, _, _, rfl, rfl, (by show (0 : Int) < _; decide), ?_⟩
  have d1 := Int.emod_nonneg (on * 48271 + 7919 * (0 + (k : Int)) * (0 + (k : Int)) + 104729) (b := 2147483647) (by decide)
  have d2 := Int.emod_lt_of_pos (on * 48271 + 7919 * (0 + (k : Int)) * (0 + (k : Int)) + 104729) (b := 2147483647) (by decide)
  generalize (on * 48271 + 7919 * (0 + (k : Int)) * (0 + (k : Int)) + 104729) % 2147483647 = o2 at d1 d2 ⊢
  refine ⟨_, rfl, _, rfl, _, _, rfl, rfl, .inl ⟨by omega, by omega⟩, _, _, rfl, rfl, (by show (0 : Int) < _; decide), ?_⟩
  exact ⟨_, rfl, _, _, rfl, rfl, .inr ⟨by decide, by decide⟩, _, rfl, _, _, rfl, rfl, ⟨by decide, by decide⟩, _, _, rfl, rfl, (by show (0 : Int) < _; decide), _, _, rfl, rfl, ⟨_, _, _, _, rfl⟩, rfl⟩
 ·rintro σ H' ⟨⟨gr, on, c4, c5, rfl⟩, rfl⟩
  exact ⟨_, rfl, q _⟩
end
abbrev iv (n : Nat) : V := .int (n : Int)
theorem wd_small {m : Int} (h0 : 0 < m) (h1 : m < 1000) : Wd m := Nat.lt_of_le_of_lt (show m.natAbs <= 1000 by omega) (by decide +kernel)
theorem at5 {d : Int} (d0 : 0 <= d) (d1 : d < 5) : ∃ v : Int, atI [V.int 0, V.int 1, V.int 2, V.int 7, V.int 60] d = some (.int v) /\ 0 <= v /\ v <= 60 := by
 obtain rfl | rfl | rfl | rfl | rfl : d = 0 \/ d = 1 \/ d = 2 \/ d = 3 \/ d = 4 := by omega
 all_goals exact ⟨_, rfl, by decide, by decide⟩
theorem at5' {d : Int} (d0 : 0 <= d) (d1 : d < 5) : ∃ v : Int, atI [V.int 0, V.int 1, V.int 3, V.int 12, V.int 300] d = some (.int v) /\ 0 <= v /\ v <= 300 := by
 obtain rfl | rfl | rfl | rfl | rfl : d = 0 \/ d = 1 \/ d = 2 \/ d = 3 \/ d = 4 := by omega
 all_goals exact ⟨_, rfl, by decide, by decide⟩
theorem at4m {d : Int} (d0 : 0 <= d) (d1 : d < 4) : ∃ v : Int, atI [V.int 1, V.int 10, V.int 41, V.int (10 ^ (60 : Int).toNat + 1)] d = some (.int v) /\ 0 < v /\ v <= 10 ^ 60 + 1 /\ Wd v := by
 obtain rfl | rfl | rfl | rfl : d = 0 \/ d = 1 \/ d = 2 \/ d = 3 := by omega
 all_goals exact ⟨_, rfl, by decide +kernel, by decide +kernel, by unfold Wd; decide +kernel⟩
theorem at3n {x d : Int} (x0 : 0 <= x) (x1 : x < 10 ^ 60 + 1) (d0 : 0 <= d) (d1 : d < 3) : ∃ n : Nat, atI [V.int x, V.int 0, V.int (10 ^ (60 : Int).toNat)] d = some (iv n) /\ n <= 10 ^ 60 := by
 obtain rfl | rfl | rfl : d = 0 \/ d = 1 \/ d = 2 := by omega
 ·exact ⟨x.toNat, (by show some (V.int x) = some (V.int x.toNat); rw [Int.toNat_of_nonneg x0]), by omega⟩
 ·exact ⟨0, rfl, by decide⟩
 ·exact ⟨10 ^ 60, (by show some (V.int _) = some (V.int _); congr 2), Nat.le_refl _⟩
theorem at4w {d : Int} (d0 : 0 <= d) (d1 : d < 4) : ∃ v : Str, atI [V.str "lone", V.str "two", V.str "loop", V.str "many"] d = some (.str v) /\ (v = "lone" \/ v = "two" \/ v = "loop" \/ v = "many") := by
 obtain rfl | rfl | rfl | rfl : d = 0 \/ d = 1 \/ d = 2 \/ d = 3 := by omega
 ·exact ⟨_, rfl, .inl rfl⟩
 ·exact ⟨_, rfl, .inr (.inl rfl)⟩
 ·exact ⟨_, rfl, .inr (.inr (.inl rfl))⟩
 ·exact ⟨_, rfl, .inr (.inr (.inr rfl))⟩
abbrev spRowb : Sp := fun vs H Q _ => ∃ (p : Addr), vs = [.ref p] /\ Pt 1 H p /\ ∀ (l : Addr) (ns : List Nat) (H' : Hp), Bu 1 p H H' -> H l = none -> l ≠ p -> H' l = some (.lst (ns.map iv)) -> (∀ n ∈ ns, n <= 10 ^ 60) -> ns.length <= 60 -> Q (.ref l) H'
@[irreducible] def spRow : Sp := spRowb
theorem spRow_def {vs : List V} {H : Hp} {Q : VK} {E : XK} : spRow vs H Q E ↔ spRowb vs H Q E := by
 delta spRow
 exact Iff.rfl
section
variable {P : Program} {w : World} {K : PySem.W.Frag} {mg : Str -> Option Value} {base : Heap} {f T : Addr} {fd : FuncData}
theorem scLRow : FnScope ["pot", "row", "k", "most"] ["pot"] (defScope sLRow) := ⟨rfl, rfl, rfl, by decide +kernel, rfl, by decide +kernel, by decide +kernel⟩
theorem okLRow (F : Fun K "_law_row" "_law_row" sLRow f fd) (B : Blt mg) (cLTake : Cal P w K mg base 1 "_law_take" ["pot", "many"] spTake) (C : Cst mg) : FnOk P w K mg base CX0 2 f fd ["pot"] spRow := by
 refine F.ok scLRow (fun vs H Q E h => ?_) (fun cdv A outer s H vs Q E hr h => ?_)
 ·obtain ⟨_, rfl, _⟩ := spRow_def.mp h
  rfl
 obtain ⟨p, rfl, hp, q⟩ := spRow_def.mp h
 refine ⟨_, (@pss_cons _ _ _ _ _ (@ps_set _ _ 1 _ _ _ _ scLRow.nd rfl (Or.inl rfl) (@pe_lst _ _ _ _ pa_nil) rfl (by first | exact .inl rfl | exact .inr rfl | assumption))
  (@pss_cons _ _ _ _ _ (@ps_for _ _ _ _ _ _ _ _ PassesOwn.never rfl (pi_range1 rfl B.b_range (@pa_cons _ _ _ _ _ (@pe_ix _ _ _ _ _ _ _ ix_list (@pe_lst _ _ _ _ (@pa_cons _ _ _ _ _ pe_int (@pa_cons _ _ _ _ _ pe_int (@pa_cons _ _ _ _ _ pe_int (@pa_cons _ _ _ _ _ pe_int (@pa_cons _ _ _ _ _ pe_int pa_nil rfl) rfl) rfl) rfl) rfl)) (pe_cal cLTake hr (by decide) rfl (@pa_cons _ _ _ _ _ (pv 0) (@pa_cons _ _ _ _ _ pe_int pa_nil rfl) rfl)) (fun _ _ => rfl)) pa_nil rfl)) (pg_name (i := 2) scLRow.nd rfl (Or.inl rfl))
   (@pss_cons _ _ _ _ _ (@ps_set _ _ 3 _ _ _ _ scLRow.nd rfl (Or.inl rfl) (@pe_ix _ _ _ _ _ _ _ ix_list (@pe_lst _ _ _ _ (@pa_cons _ _ _ _ _ pe_int (@pa_cons _ _ _ _ _ pe_int (@pa_cons _ _ _ _ _ pe_int (@pa_cons _ _ _ _ _ (@pe_op _ _ _ _ _ _ _ _ op_add (@pe_op _ _ _ _ _ _ _ _ op_pow pe_int pe_int) pe_int) pa_nil rfl) rfl) rfl) rfl)) (pe_cal cLTake hr (by decide) rfl (@pa_cons _ _ _ _ _ (pv 0) (@pa_cons _ _ _ _ _ pe_int pa_nil rfl) rfl)) (fun _ _ => rfl)) rfl (by first | exact .inl rfl | exact .inr rfl | assumption))
   (@pss_one _ _ _ (ps_expr (pe_bm PySem.F.plainAttrs_list PySem.F.slot_list_append PySem.F.type_list_append mt_append (pv 1) (@pa_cons _ _ _ _ _ (@pe_ix _ _ _ _ _ _ _ ix_list (@pe_lst _ _ _ _ (@pa_cons _ _ _ _ _ (pe_cal cLTake hr (by decide) rfl (@pa_cons _ _ _ _ _ (pv 0) (@pa_cons _ _ _ _ _ (pv 3) pa_nil rfl) rfl)) (@pa_cons _ _ _ _ _ pe_int (@pa_cons _ _ _ _ _ (@pe_op _ _ _ _ _ _ _ _ op_pow pe_int pe_int) pa_nil rfl) rfl) rfl)) (pe_callB (call_min2 rfl) rfl B.b_min bt_min (@pa_cons _ _ _ _ _ pe_int (@pa_cons _ _ _ _ _ (@pe_op _ _ _ _ _ _ _ _ op_fdiv (pe_cal cLTake hr (by decide) rfl (@pa_cons _ _ _ _ _ (pv 0) (@pa_cons _ _ _ _ _ pe_int pa_nil rfl) rfl)) pe_int) pa_nil rfl) rfl)) (fun _ _ => rfl)) pa_nil rfl))))) (fun _ => rfl))
  (@pss_one _ _ _ (@ps_ret _ _ _ _ (pv 1))))), ?_⟩
 refine ⟨(by show 0 <= sizeLine; decide), fun l hl => ?_⟩
 have nl : l ≠ p := fun z => by
  obtain ⟨xs, _, e⟩ := hp
  rw [z, e] at hl; cases hl
 have b1 := (Bu.refl hp).same (same_new hl (.lst []))
 have el1 : upd H l (.lst []) l = some (.lst []) := upd_same
 generalize upd H l (.lst []) = H1 at b1 el1
 refine ⟨(by show 5 <= sizeLine; decide), fun c hc => ?_⟩
 have b2 := b1.same (same_new hc (.lst [.int 0, .int 1, .int 2, .int 7, .int 60]))
 have el2 := (same_new hc (.lst [.int 0, .int 1, .int 2, .int 7, .int 60])) _ _ el1
 have ec2 : upd H1 c (.lst [.int 0, .int 1, .int 2, .int 7, .int 60]) c = some (.lst [.int 0, .int 1, .int 2, .int 7, .int 60]) := upd_same
 have nc : c ≠ p := fun z => by
  obtain ⟨xs, _, e⟩ := b1.pot
  rw [z, e] at hc; cases hc
 generalize upd H1 c (.lst [.int 0, .int 1, .int 2, .int 7, .int 60]) = H2 at b2 el2 ec2
 refine ⟨_, rfl, spTake_def.mpr ⟨p, 5, rfl, b2.pot, by decide, wd_small (by decide) (by decide), fun d H3 d0 d1 b3 => ?_⟩⟩
 obtain ⟨v, hv, v0, v1⟩ := at5 d0 d1
 have el3 := b3.st _ _ nl el2
 refine ⟨c, _, d, _, rfl, rfl, SqL.of (b3.st _ _ nc ec2), hv, v, rfl, by omega, by omega, for_range (fun k σ H' => (∃ c3 c4, σ = [some (.ref p), some (.ref l), c3, c4]) /\ Bu 1 p H H' /\ ∃ ns : List Nat, H' l = some (.lst (ns.map iv)) /\ (∀ n ∈ ns, n <= 10 ^ 60) /\ ns.length <= k) ⟨⟨_, _, rfl⟩, b2.trans b3, [], el3, (fun u h => nomatch h), Nat.le_refl _⟩ ?_ ?_⟩
 ·rintro k σ H4 hk ⟨⟨c3, c4, rfl⟩, b4, ns, el4, nb, ln⟩
  refine ⟨_, _, rfl, rfl, ⟨by decide, by decide, by decide⟩, _, _, rfl, rfl, (by show 4 <= sizeLine; decide), fun e he => ?_⟩
  have g5 := same_new he (.lst [.int 1, .int 10, .int 41, .int (10 ^ (60 : Int).toNat + 1)])
  have b5 := b4.same g5
  have el5 := g5 _ _ el4
  have ee5 : upd H4 e (.lst [.int 1, .int 10, .int 41, .int (10 ^ (60 : Int).toNat + 1)]) e = some (.lst [.int 1, .int 10, .int 41, .int (10 ^ (60 : Int).toNat + 1)]) := upd_same
  have ne : e ≠ p := fun z => by
   obtain ⟨xs, _, h⟩ := b4.pot
   rw [z, h] at he; cases he
  generalize upd H4 e (.lst [.int 1, .int 10, .int 41, .int (10 ^ (60 : Int).toNat + 1)]) = H5 at b5 el5 ee5
  clear g5
  refine ⟨_, rfl, spTake_def.mpr ⟨p, 4, rfl, b5.pot, by decide, wd_small (by decide) (by decide), fun d2 H6 y0 y1 b6 => ?_⟩⟩
  obtain ⟨m, hm, m0, m1, mw⟩ := at4m y0 y1
  have el6 := b6.st _ _ nl el5
  refine ⟨e, _, d2, _, rfl, rfl, SqL.of (b6.st _ _ ne ee5), hm, ?_⟩
  have b46 := b5.trans b6
  refine ⟨_, rfl, .inl ⟨rfl, _, SqL.of el6⟩, _, rfl, _, rfl, spTake_def.mpr ⟨p, m, rfl, b46.pot, m0, mw, fun x H7 x0 x1 b7 => ?_⟩⟩
  have b47 := b46.trans b7
  have el7 := b7.st _ _ nl el6
  refine ⟨_, _, rfl, rfl, ⟨by decide, by decide, by decide⟩, (by show 3 <= sizeLine; decide), fun f hf => ?_⟩
  have g8 := same_new hf (.lst [.int x, .int 0, .int (10 ^ (60 : Int).toNat)])
  have b8 := b47.same g8
  have el8 := g8 _ _ el7
  have ef8 : upd H7 f (.lst [.int x, .int 0, .int (10 ^ (60 : Int).toNat)]) f = some (.lst [.int x, .int 0, .int (10 ^ (60 : Int).toNat)]) := upd_same
  have nf : f ≠ p := fun z => by
   obtain ⟨xs, _, h⟩ := b47.pot
   rw [z, h] at hf; cases hf
  generalize upd H7 f (.lst [.int x, .int 0, .int (10 ^ (60 : Int).toNat)]) = H8 at b8 el8 ef8
  clear g8
  refine ⟨_, rfl, spTake_def.mpr ⟨p, 9, rfl, b8.pot, by decide, wd_small (by decide) (by decide), fun d3 H9 z0 z1 b9 => ?_⟩⟩
  have el9 := b9.st _ _ nl el8
  refine ⟨_, _, rfl, rfl, ⟨by decide, by decide⟩, _, _, rfl, ?_⟩
  have mn : 0 <= (if d3 / 3 < 2 then d3 / 3 else 2) /\ (if d3 / 3 < 2 then d3 / 3 else 2) < 3 := by split <;> omega
  obtain ⟨n, hn, n1⟩ := at3n x0 (Int.lt_of_lt_of_le x1 m1) mn.1 mn.2
  refine ⟨f, _, _, _, rfl, rfl, SqL.of (b9.st _ _ nf ef8), hn, l, _, _, rfl, rfl, el9, ?_, ⟨_, _, rfl⟩, ((b8.trans b9).putNew hl nl _), ns ++ [n], by rw [upd_same, List.map_append]; rfl, fun u hu => ?_, by rw [List.length_append, List.length_singleton]; omega⟩
  ·rw [List.length_map]; exact Nat.lt_of_le_of_lt (show ns.length <= 5000 by omega) (by decide)
  ·rcases List.mem_append.mp hu with z | z
   ·exact nb u z
   ·rw [List.mem_singleton.mp z]; exact n1
 ·rintro σ H4 ⟨⟨c3, c4, rfl⟩, b4, ns, el4, nb, ln⟩
  exact ⟨_, rfl, q l ns H4 b4 hl nl el4 nb (by omega)⟩
end
end K80
set_option Elab.async false
set_option linter.all false
set_option maxRecDepth 100000
set_option maxHeartbeats 800000
namespace K80
open PySem L2
abbrev Stp := Str × List Nat
def Good (u : Stp) : Prop := ((u.1 = "lone" \/ u.1 = "two" \/ u.1 = "loop") /\ ∃ a, u.2 = [a] /\ a < 40) \/ (u.1 = "many" /\ ∃ a b, u.2 = [a, b] /\ a < b /\ b < 40)
def sv (u : Stp) : List V := .str u.1 :: u.2.map iv
abbrev spStepsb : Sp := fun vs H Q _ => ∃ (p : Addr), vs = [.ref p] /\ Pt 1 H p /\ ∀ (l : Addr) (us : List (Addr × Stp)) (H' : Hp), Bu 1 p H H' -> H l = none -> l ≠ p -> H' l = some (.lst (us.map fun u => .ref u.1)) -> (∀ u ∈ us, H' u.1 = some (.tup (sv u.2)) /\ Good u.2) -> us.length <= 300 -> Q (.ref l) H'
@[irreducible] def spSteps : Sp := spStepsb
theorem spSteps_def {vs : List V} {H : Hp} {Q : VK} {E : XK} : spSteps vs H Q E ↔ spStepsb vs H Q E := by
 delta spSteps
 exact Iff.rfl
section
variable {P : Program} {w : World} {K : PySem.W.Frag} {mg : Str -> Option Value} {base : Heap} {f T : Addr} {fd : FuncData}
theorem scLSteps : FnScope ["pot", "log", "k", "word", "place"] ["pot"] (defScope sLSteps) := ⟨rfl, rfl, rfl, by decide +kernel, rfl, by decide +kernel, by decide +kernel⟩
theorem okLSteps (F : Fun K "_law_steps" "_law_steps" sLSteps f fd) (B : Blt mg) (cLTake : Cal P w K mg base 1 "_law_take" ["pot", "many"] spTake) (C : Cst mg) : FnOk P w K mg base CX0 2 f fd ["pot"] spSteps := by
 refine F.ok scLSteps (fun vs H Q E h => ?_) (fun cdv A outer s H vs Q E hr h => ?_)
 ·obtain ⟨_, rfl, _⟩ := spSteps_def.mp h
  rfl
 obtain ⟨p, rfl, hp, q⟩ := spSteps_def.mp h
 refine ⟨_, (@pss_cons _ _ _ _ _ (@ps_set _ _ 1 _ _ _ _ scLSteps.nd rfl (Or.inl rfl) (@pe_lst _ _ _ _ pa_nil) rfl (by first | exact .inl rfl | exact .inr rfl | assumption))
  (@pss_cons _ _ _ _ _ (@ps_for _ _ _ _ _ _ _ _ PassesOwn.never rfl (pi_range1 rfl B.b_range (@pa_cons _ _ _ _ _ (@pe_ix _ _ _ _ _ _ _ ix_list (@pe_lst _ _ _ _ (@pa_cons _ _ _ _ _ pe_int (@pa_cons _ _ _ _ _ pe_int (@pa_cons _ _ _ _ _ pe_int (@pa_cons _ _ _ _ _ pe_int (@pa_cons _ _ _ _ _ pe_int pa_nil rfl) rfl) rfl) rfl) rfl)) (pe_cal cLTake hr (by decide) rfl (@pa_cons _ _ _ _ _ (pv 0) (@pa_cons _ _ _ _ _ pe_int pa_nil rfl) rfl)) (fun _ _ => rfl)) pa_nil rfl)) (pg_name (i := 2) scLSteps.nd rfl (Or.inl rfl))
   (@pss_cons _ _ _ _ _ (@ps_set _ _ 3 _ _ _ _ scLSteps.nd rfl (Or.inl rfl) (@pe_ix _ _ _ _ _ _ _ ix_list (@pe_lst _ _ _ _ (@pa_cons _ _ _ _ _ pe_str (@pa_cons _ _ _ _ _ pe_str (@pa_cons _ _ _ _ _ pe_str (@pa_cons _ _ _ _ _ pe_str pa_nil rfl) rfl) rfl) rfl)) (pe_cal cLTake hr (by decide) rfl (@pa_cons _ _ _ _ _ (pv 0) (@pa_cons _ _ _ _ _ pe_int pa_nil rfl) rfl)) (fun _ _ => rfl)) rfl (by first | exact .inl rfl | exact .inr rfl | assumption))
   (@pss_cons _ _ _ _ _ (@ps_set _ _ 4 _ _ _ _ scLSteps.nd rfl (Or.inl rfl) (pe_cal cLTake hr (by decide) rfl (@pa_cons _ _ _ _ _ (pv 0) (@pa_cons _ _ _ _ _ pe_int pa_nil rfl) rfl)) rfl (by first | exact .inl rfl | exact .inr rfl | assumption))
   (@pss_one _ _ _ (@ps_if _ _ _ _ _ _ _ _ (pt_cmpR op_eq (pv 3) pe_str (nomark _)) (@pss_cons _ _ _ _ _ (@ps_set _ _ 4 _ _ _ _ scLSteps.nd rfl (Or.inl rfl) (@pe_op _ _ _ _ _ _ _ _ op_mod (pv 4) pe_int) rfl (by first | exact .inl rfl | exact .inr rfl | assumption))
    (@pss_one _ _ _ (ps_expr (pe_bm PySem.F.plainAttrs_list PySem.F.slot_list_append PySem.F.type_list_append mt_append (pv 1) (@pa_cons _ _ _ _ _ (@pe_tup _ _ _ _ _ (@pa_cons _ _ _ _ _ (pv 3) (@pa_cons _ _ _ _ _ (pv 4) (@pa_cons _ _ _ _ _ (@pe_op _ _ _ _ _ _ _ _ op_add (@pe_op _ _ _ _ _ _ _ _ op_add (pv 4) pe_int) (pe_cal cLTake hr (by decide) rfl (@pa_cons _ _ _ _ _ (pv 0) (@pa_cons _ _ _ _ _ (@pe_op _ _ _ _ _ _ _ _ op_sub pe_int (pv 4)) pa_nil rfl) rfl))) pa_nil rfl) rfl) rfl)) pa_nil rfl))))) (@pss_one _ _ _ (ps_expr (pe_bm PySem.F.plainAttrs_list PySem.F.slot_list_append PySem.F.type_list_append mt_append (pv 1) (@pa_cons _ _ _ _ _ (@pe_tup _ _ _ _ _ (@pa_cons _ _ _ _ _ (pv 3) (@pa_cons _ _ _ _ _ (pv 4) pa_nil rfl) rfl)) pa_nil rfl)))))))) (fun _ => rfl))
  (@pss_one _ _ _ (@ps_ret _ _ _ _ (pv 1))))), ?_⟩
 refine ⟨(by show 0 <= sizeLine; decide), fun l hl => ?_⟩
 have nl : l ≠ p := fun z => by
  obtain ⟨xs, _, e⟩ := hp
  rw [z, e] at hl; cases hl
 have b1 := (Bu.refl hp).same (same_new hl (.lst []))
 have el1 : upd H l (.lst []) l = some (.lst []) := upd_same
 generalize upd H l (.lst []) = H1 at b1 el1
 refine ⟨(by show 5 <= sizeLine; decide), fun c hc => ?_⟩
 have b2 := b1.same (same_new hc (.lst [.int 0, .int 1, .int 3, .int 12, .int 300]))
 have el2 := (same_new hc (.lst [.int 0, .int 1, .int 3, .int 12, .int 300])) _ _ el1
 have ec2 : upd H1 c (.lst [.int 0, .int 1, .int 3, .int 12, .int 300]) c = some (.lst [.int 0, .int 1, .int 3, .int 12, .int 300]) := upd_same
 have nc : c ≠ p := fun z => by
  obtain ⟨xs, _, e⟩ := b1.pot
  rw [z, e] at hc; cases hc
 generalize upd H1 c (.lst [.int 0, .int 1, .int 3, .int 12, .int 300]) = H2 at b2 el2 ec2
 refine ⟨_, rfl, spTake_def.mpr ⟨p, 5, rfl, b2.pot, by decide, wd_small (by decide) (by decide), fun d H3 d0 d1 b3 => ?_⟩⟩
 obtain ⟨v, hv, v0, v1⟩ := at5' d0 d1
 have el3 := b3.st _ _ nl el2
 refine ⟨c, _, d, _, rfl, rfl, SqL.of (b3.st _ _ nc ec2), hv, v, rfl, by omega, by omega, for_range (fun k σ H' => (∃ c3 c4 c5, σ = [some (.ref p), some (.ref l), c3, c4, c5]) /\ Bu 1 p H H' /\ ∃ us : List (Addr × Stp), H' l = some (.lst (us.map fun u => .ref u.1)) /\ (∀ u ∈ us, H' u.1 = some (.tup (sv u.2)) /\ Good u.2) /\ us.length <= k) ⟨⟨_, _, _, rfl⟩, b2.trans b3, [], el3, (fun u h => nomatch h), Nat.le_refl _⟩ ?_ ?_⟩
 ·rintro k σ H4 hk ⟨⟨c3, c4, c5, rfl⟩, b4, us, el4, tu4, lu⟩
  refine ⟨(by show 4 <= sizeLine; decide), fun e he => ?_⟩
  have g5 := same_new he (.lst [.str "lone", .str "two", .str "loop", .str "many"])
  have b5 := b4.same g5
  have el5 := g5 _ _ el4
  have tu5 : ∀ u ∈ us, upd H4 e (.lst [.str "lone", .str "two", .str "loop", .str "many"]) u.1 = some (.tup (sv u.2)) /\ Good u.2 := fun u hu => ⟨g5 _ _ (tu4 u hu).1, (tu4 u hu).2⟩
  have ee5 : upd H4 e (.lst [.str "lone", .str "two", .str "loop", .str "many"]) e = some (.lst [.str "lone", .str "two", .str "loop", .str "many"]) := upd_same
  have ne : e ≠ p := fun z => by
   obtain ⟨xs, _, h⟩ := b4.pot
   rw [z, h] at he; cases he
  generalize upd H4 e (.lst [.str "lone", .str "two", .str "loop", .str "many"]) = H5 at b5 el5 ee5 tu5
  clear g5
  refine ⟨_, rfl, spTake_def.mpr ⟨p, 4, rfl, b5.pot, by decide, wd_small (by decide) (by decide), fun d2 H6 y0 y1 b6 => ?_⟩⟩
  obtain ⟨wd, hwd, wds⟩ := at4w y0 y1
  have el6 := b6.st _ _ nl el5
  have b46 := b5.trans b6
  refine ⟨e, _, d2, _, rfl, rfl, SqL.of (b6.st _ _ ne ee5), hwd, _, rfl, spTake_def.mpr ⟨p, 40, rfl, b46.pot, by decide, wd_small (by decide) (by decide), fun x H7 x0 x1 b7 => ?_⟩⟩
  have b47 := b46.trans b7
  have el7 := b7.st _ _ nl el6
  have tu7 : ∀ u ∈ us, H7 u.1 = some (.tup (sv u.2)) /\ Good u.2 := fun u hu => ⟨b7.tup b46.pot (b6.tup b5.pot (tu5 u hu).1), (tu5 u hu).2⟩
  refine ⟨_, rfl, rfl, _, rfl, ite2 (fun z => ?_) (fun z => ?_)⟩
  ·have ew : wd = "many" := V.str.inj (of_decide_eq_true z)
   refine ⟨_, rfl, _, _, rfl, rfl, (by show (0 : Int) < 39; decide), ?_⟩
   have r0 := Int.emod_nonneg x (b := 39) (by decide)
   have r1 := Int.emod_lt_of_pos x (b := 39) (by decide)
   refine ⟨_, rfl, .inl ⟨rfl, _, SqL.of el7⟩, _, rfl, _, rfl, _, rfl, _, _, rfl, rfl, _, rfl, _, rfl, _, _, rfl, rfl, spTake_def.mpr ⟨p, 39 - (x % 39), rfl, b47.pot, by omega, wd_small (by omega) (by omega), fun x2 H8 w0 w1 b8 => ?_⟩⟩
   have el8 := b8.st _ _ nl el7
   have b48 := b47.trans b8
   refine ⟨_, _, rfl, rfl, (by show 3 <= sizeLine; decide), fun t ht => ?_⟩
   have gt := same_new ht (.tup [.str wd, .int (x % 39), .int ((x % 39) + 1 + x2)])
   have el9 := gt _ _ el8
   have nt : t ≠ l := fun z => by rw [z, el8] at ht; cases ht
   refine ⟨l, _, _, rfl, rfl, el9, ?_, ⟨_, _, _, rfl⟩, (b48.same gt).putNew hl nl _, us ++ [(t, wd, [(x % 39).toNat, ((x % 39) + 1 + x2).toNat])], by rw [upd_same, List.map_append]; rfl, fun u hu => ?_, by rw [List.length_append, List.length_singleton]; omega⟩
   ·rw [List.length_map]; exact Nat.lt_of_le_of_lt (show us.length <= 5000 by omega) (by decide)
   ·rcases List.mem_append.mp hu with z | z
    ·have e := gt _ _ (b8.tup b47.pot (tu7 u z).1)
     exact ⟨by rw [upd_ne (ne_of e el9 nofun)]; exact e, (tu7 u z).2⟩
    ·rw [List.mem_singleton.mp z]
     refine ⟨?_, .inr ⟨ew, _, _, rfl, by omega, by omega⟩⟩
     rw [upd_ne nt, upd_same]
     show _ = some (HO.tup [.str wd, .int (x % 39).toNat, .int ((x % 39) + 1 + x2).toNat])
     rw [Int.toNat_of_nonneg r0, Int.toNat_of_nonneg (by omega)]
  ·have ew : wd = "lone" \/ wd = "two" \/ wd = "loop" := by
    rcases wds with h | h | h | h
    ·exact .inl h
    ·exact .inr (.inl h)
    ·exact .inr (.inr h)
    ·exact absurd (decide_eq_true (congrArg V.str h)) z
   refine ⟨_, rfl, .inl ⟨rfl, _, SqL.of el7⟩, _, rfl, _, rfl, (by show 2 <= sizeLine; decide), fun t ht => ?_⟩
   have gt := same_new ht (.tup [.str wd, .int x])
   have el9 := gt _ _ el7
   have nt : t ≠ l := fun z => by rw [z, el7] at ht; cases ht
   refine ⟨l, _, _, rfl, rfl, el9, ?_, ⟨_, _, _, rfl⟩, (b47.same gt).putNew hl nl _, us ++ [(t, wd, [x.toNat])], by rw [upd_same, List.map_append]; rfl, fun u hu => ?_, by rw [List.length_append, List.length_singleton]; omega⟩
   ·rw [List.length_map]; exact Nat.lt_of_le_of_lt (show us.length <= 5000 by omega) (by decide)
   ·rcases List.mem_append.mp hu with z | z
    ·have e := gt _ _ (tu7 u z).1
     exact ⟨by rw [upd_ne (ne_of e el9 nofun)]; exact e, (tu7 u z).2⟩
    ·rw [List.mem_singleton.mp z]
     refine ⟨?_, .inl ⟨ew, _, rfl, by omega⟩⟩
     rw [upd_ne nt, upd_same]
     show _ = some (HO.tup [.str wd, .int x.toNat])
     rw [Int.toNat_of_nonneg x0]
 ·rintro σ H4 ⟨⟨c3, c4, c5, rfl⟩, b4, us, el4, tu4, lu⟩
  exact ⟨_, rfl, q l us H4 b4 hl nl el4 tu4 (by omega)⟩
end
end K80
set_option Elab.async false
set_option linter.all false
set_option maxRecDepth 100000
set_option maxHeartbeats 800000
namespace K80
open PySem L2
theorem small5 {n : Nat} (h : n <= 300000) : n < sizeLine := Nat.lt_of_le_of_lt h (by decide)
theorem small6 {n : Nat} (h : n <= 300000) : n <= sizeLine := Nat.le_of_lt (small5 h)
theorem len1 : (" " : Str).length = 1 := rfl
theorem join_ok {ws : List Str} (h : ∀ w ∈ ws, w.length <= 200) (l : ws.length <= 1000) : JoinOk " " ws = true := by
 unfold JoinOk
 rw [StrLaws.joinFits (B := 200) h (by rw [len1]; omega)]
 rfl
theorem sum_le : ∀ {ws : List Str}, (∀ w ∈ ws, w.length <= 200) -> (ws.map (·.length)).sum <= 200 * ws.length
 | [], _ => by simp
 | w :: ws, h => by
  have a := h w List.mem_cons_self
  have b := sum_le fun x hx => h x (List.mem_cons_of_mem _ hx)
  rw [List.map_cons, List.sum_cons, List.length_cons]
  omega
theorem join_le {ws : List Str} (h : ∀ w ∈ ws, w.length <= 200) : (Txt.join " " ws).length <= 201 * ws.length := by
 have a := StrLaws.join_length_le " " ws
 have b := sum_le h
 show (Builtin.Str.glued " " ws).length <= _
 rw [StrLaws.glued_eq_join]
 rw [len1] at a
 omega
def wtx (ws : List Str) : Str := if ws = [] then "-" else Txt.join " " ws
theorem dec_len {n : Nat} (h : n <= 10 ^ 60) : (decT n).length <= 61 := Nat.le_trans (decT_mono h) (by decide +kernel)
theorem lg {n : Nat} (h : n <= 10 ^ 60) : (n : Int).natAbs.log2 < 1920 := by
 show n.log2 < 1920
 rcases Nat.eq_zero_or_pos n with rfl | p
 ·decide
 ·exact (Nat.log2_lt (by omega)).mpr (Nat.lt_of_le_of_lt h (by decide +kernel))
theorem shown_iv {n : Nat} (h : n <= 10 ^ 60) : shown (iv n) = some (decT n) := if_pos (lg h)
theorem item {α : Type} {f : α -> V} {ts : List α} {i : Nat} {x : V} (e : (ts.map f)[i]? = some x) : ∃ u, ts[i]? = some u /\ x = f u := by
 rw [List.getElem?_map] at e
 cases z : ts[i]? with
 | none => rw [z] at e; cases e
 | some tt => rw [z] at e; exact ⟨tt, rfl, (Option.some.inj e).symm⟩
def sw (u : Stp) : List Str := u.1 :: u.2.map decT
theorem join_two {c : Str} : ∀ {xs ys : List Str}, xs ≠ [] -> ys ≠ [] -> Str.join c (xs ++ ys) = Str.join c xs ++ c ++ Str.join c ys
 | [], _, h, _ => absurd rfl h
 | [x], y :: ys, _, _ => rfl
 | [x], [], _, h => absurd rfl h
 | x :: z :: xs, ys, _, h => by
  show x ++ c ++ Str.join c (z :: xs ++ ys) = x ++ c ++ Str.join c (z :: xs) ++ c ++ Str.join c ys
  rw [join_two (xs := z :: xs) (by simp) h]
  apply str_ext
  simp only [cat_cps, List.append_assoc]
theorem join_flat : ∀ {us : List Stp}, Str.join " " (us.map fun u => Str.join " " (sw u)) = Str.join " " (us.flatMap sw)
 | [] => rfl
 | [u] => by
  rw [List.flatMap_cons, List.flatMap_nil, List.append_nil]; rfl
 | u :: v :: us => by
  have ih := join_flat (us := v :: us)
  rw [List.flatMap_cons, join_two (by unfold sw; simp) (by rw [List.flatMap_cons]; unfold sw; simp), <- ih]
  rfl
theorem wtx_flat (us : List Stp) : wtx (us.map fun u => Txt.join " " (sw u)) = wtx (us.flatMap sw) := by
 cases us with
 | nil => rfl
 | cons u us =>
  unfold wtx
  rw [if_neg (by simp), if_neg (by rw [List.flatMap_cons]; unfold sw; simp)]
  unfold Txt.join
  simp only [StrLaws.glued_eq_join]
  exact join_flat
abbrev spWTb : Sp := fun vs H Q _ => ∃ (l : Addr) (ws : List Str), vs = [.ref l] /\ H l = some (.lst (ws.map V.str)) /\ (∀ w ∈ ws, w.length <= 200) /\ ws.length <= 1000 /\ Q (.str (wtx ws)) H
@[irreducible] def spWT : Sp := spWTb
theorem spWT_def {vs : List V} {H : Hp} {Q : VK} {E : XK} : spWT vs H Q E ↔ spWTb vs H Q E := by
 delta spWT
 exact Iff.rfl
section
variable {P : Program} {w : World} {K : PySem.W.Frag} {mg : Str -> Option Value} {base : Heap} {f T : Addr} {fd : FuncData}
theorem scWordsText : FnScope ["words"] ["words"] (defScope sWordsText) := ⟨rfl, rfl, rfl, by decide +kernel, rfl, by decide +kernel, by decide +kernel⟩
theorem okWordsText (F : Fun K "words_text" "words_text" sWordsText f fd) (B : Blt mg) (C : Cst mg) : FnOk P w K mg base CX0 1 f fd ["words"] spWT := by
 refine F.ok scWordsText (fun vs H Q E h => ?_) (fun cdv A outer s H vs Q E hr h => ?_)
 ·obtain ⟨_, _, rfl, _⟩ := spWT_def.mp h
  rfl
 obtain ⟨l, ws, rfl, el, hw, l1, q⟩ := spWT_def.mp h
 refine ⟨_, (@pss_cons _ _ _ _ _ (@ps_if _ _ _ _ _ _ _ _ (pt_cmpR op_eq (pe_callB call_len_seq rfl B.b_len bt_len (@pa_cons _ _ _ _ _ (pv 0) pa_nil rfl)) pe_int (nomark _)) (@pss_one _ _ _ (@ps_ret _ _ _ _ pe_str)) pss_nil)
  (@pss_one _ _ _ (@ps_ret _ _ _ _ (pe_bmS PySem.F.slot_str_join PySem.F.type_str_join mt_join pe_str (@pa_cons _ _ _ _ _ (pv 0) pa_nil rfl))))), ?_⟩
 refine ⟨_, rfl, l, _, rfl, .inl (SqL.of el), rfl, _, rfl, ?_⟩
 cases ws with
 | nil => exact iteT q
 | cons w ws =>
  rw [decide_eq_false fun z => by
   have := V.int.inj z
   rw [List.map_cons, List.length_cons] at this
   omega]
  exact iteF ⟨⟨_, rfl⟩, _, rfl, " ", l, _, rfl, rfl, SqL.of el, join_ok hw l1, q⟩
end
abbrev spLTb : Sp := fun vs H Q _ => ∃ (l : Addr) (ws : List Str), vs = [.ref l] /\ H l = some (.lst (ws.map V.str)) /\ (∀ w ∈ ws, w.length <= 200) /\ ws.length <= 1000 /\ ∀ H', Same H H' -> Q (.str (wtx ws)) H'
@[irreducible] def spLT : Sp := spLTb
theorem spLT_def {vs : List V} {H : Hp} {Q : VK} {E : XK} : spLT vs H Q E ↔ spLTb vs H Q E := by
 delta spLT
 exact Iff.rfl
section
variable {P : Program} {w : World} {K : PySem.W.Frag} {mg : Str -> Option Value} {base : Heap} {f T : Addr} {fd : FuncData}
theorem scLText : FnScope ["words"] ["words"] (defScope sLText) := ⟨rfl, rfl, rfl, by decide +kernel, rfl, by decide +kernel, by decide +kernel⟩
theorem okLText (F : Fun K "_law_text" "_law_text" sLText f fd) (B : Blt mg) (C : Cst mg) : FnOk P w K mg base CX0 1 f fd ["words"] spLT := by
 refine F.ok scLText (fun vs H Q E h => ?_) (fun cdv A outer s H vs Q E hr h => ?_)
 ·obtain ⟨_, _, rfl, _⟩ := spLT_def.mp h
  rfl
 obtain ⟨l, ws, rfl, el, hw, l1, q⟩ := spLT_def.mp h
 refine ⟨_, (@pss_cons _ _ _ _ _ (@ps_if _ _ _ _ _ _ _ _ (pt_cmpR (op_eqL hr) (pv 0) (@pe_lst _ _ _ _ pa_nil) (nomark _)) (@pss_one _ _ _ (@ps_ret _ _ _ _ pe_str)) pss_nil)
  (@pss_one _ _ _ (@ps_ret _ _ _ _ (pe_bmS PySem.F.slot_str_join PySem.F.type_str_join mt_join pe_str (@pa_cons _ _ _ _ _ (pv 0) pa_nil rfl))))), ?_⟩
 refine ⟨_, rfl, (by show 0 <= sizeLine; decide), fun e he => ?_⟩
 have g1 := same_new he (.lst [])
 have el1 := g1 _ _ el
 have ee : upd H e (.lst []) e = some (.lst []) := upd_same
 generalize upd H e (.lst []) = H1 at g1 el1 ee
 refine ⟨l, e, _, _, rfl, rfl, SqL.of el1, SqL.of ee, ?_⟩
 cases ws with
 | nil => exact .inr ⟨.nil, _, rfl, iteT (q _ g1)⟩
 | cons w ws => exact .inl ⟨by simp, _, rfl, iteF ⟨⟨_, rfl⟩, _, rfl, " ", l, _, rfl, rfl, SqL.of el1, join_ok hw l1, q _ g1⟩⟩
end
abbrev spNTb : Sp := fun vs H Q _ => ∃ (l : Addr) (ns : List Nat), vs = [.ref l] /\ (H l = some (.lst (ns.map iv)) \/ H l = some (.tup (ns.map iv))) /\ (∀ n ∈ ns, n <= 10 ^ 60) /\ ns.length <= 60 /\ ∀ H', Same H H' -> Q (.str (wtx (ns.map decT))) H'
@[irreducible] def spNT : Sp := spNTb
theorem spNT_def {vs : List V} {H : Hp} {Q : VK} {E : XK} : spNT vs H Q E ↔ spNTb vs H Q E := by
 delta spNT
 exact Iff.rfl
section
variable {P : Program} {w : World} {K : PySem.W.Frag} {mg : Str -> Option Value} {base : Heap} {f T : Addr} {fd : FuncData}
theorem scNumbersText : FnScope ["row"] ["row"] (defScope sNumbersText) := ⟨rfl, rfl, rfl, by decide +kernel, rfl, by decide +kernel, by decide +kernel⟩
theorem ndNumbersText_number : (["number"] : List Str).Nodup := by decide +kernel
theorem okNumbersText (F : Fun K "numbers_text" "numbers_text" sNumbersText f fd) (B : Blt mg) (cWordsText : Cal P w K mg base 1 "words_text" ["words"] spWT) (C : Cst mg) : FnOk P w K mg base CX0 2 f fd ["row"] spNT := by
 refine F.ok scNumbersText (fun vs H Q E h => ?_) (fun cdv A outer s H vs Q E hr h => ?_)
 ·obtain ⟨_, _, rfl, _⟩ := spNT_def.mp h
  rfl
 obtain ⟨l, ns, rfl, el, hn, l6, q⟩ := spNT_def.mp h
 refine ⟨_, (@pss_one _ _ _ (@ps_ret _ _ _ _ (pe_cal cWordsText hr (by decide) rfl (@pa_cons _ _ _ _ _ (pe_comp ["number"] [none] rfl (pi_seq (pv 0)) rfl (fun _ _ _ _ _ => (pg_name (i := 0) ndNumbersText_number rfl (Or.inl rfl))) (fun _ _ _ _ _ => pf_nil) (fun _ _ _ _ _ => (pe_callTy call_str_int rfl B.b_str bt_str (@pa_cons _ _ _ _ _ (pv 0) pa_nil rfl)))) pa_nil rfl)))), ?_⟩
 refine ⟨_, rfl, l, rfl, compN_seq (xs := ns.map iv) (fun i ys H' => H' = H /\ ys = ((ns.take i).map decT).map V.str) el ⟨rfl, rfl⟩ (by rw [List.length_map]; exact small6 (by omega)) (fun i ys H' z => by rw [z.1]) ?_ ?_⟩
 ·rintro i x ys H' hx hy ⟨rfl, rfl⟩ R1 R0 r1 r0
  obtain ⟨n, en, rfl⟩ := item hx
  refine iteT ⟨_, rfl, _, rfl, lg (hn n (List.mem_of_getElem? en)), r1 _ _ ⟨rfl, ?_⟩⟩
  rw [List.take_add_one, en, List.map_append, List.map_append]; rfl
 ·rintro ys H' hy ⟨rfl, rfl⟩ t ht
  rw [List.length_map, List.take_length]
  refine spWT_def.mpr ⟨t, _, rfl, upd_same, fun w hw => ?_, by rw [List.length_map]; omega, q _ (same_new ht _)⟩
  obtain ⟨n, hn', rfl⟩ := List.mem_map.mp hw
  exact Nat.le_trans (dec_len (hn n hn')) (by decide)
end
theorem good_le {u : Stp} (h : Good u) : u.1.length <= 4 /\ u.2.length <= 2 /\ 1 <= u.2.length /\ ∀ n ∈ u.2, n <= 39 := by
 rcases h with ⟨h, a, e, a1⟩ | ⟨h, a, b, e, a1, b1⟩
 ·refine ⟨?_, by rw [e]; simp, by rw [e]; simp, fun n hn => ?_⟩
  ·rcases h with h | h | h <;> rw [h] <;> decide
  ·rw [e] at hn
   rw [List.mem_singleton.mp hn]; omega
 ·refine ⟨by rw [h]; decide, by rw [e]; simp, by rw [e]; simp, fun n hn => ?_⟩
  rw [e] at hn
  rcases List.mem_cons.mp hn with rfl | hn
  ·omega
  ·rw [List.mem_singleton.mp hn]; omega
theorem le60 {n : Nat} (h : n <= 39) : n <= 10 ^ 60 := Nat.le_trans h (by decide)
theorem sw_len {u : Stp} (h : Good u) : ∀ w ∈ sw u, w.length <= 61 := fun w hw => by
 obtain ⟨h1, _, _, h2⟩ := good_le h
 rcases List.mem_cons.mp hw with rfl | hw
 ·omega
 ·obtain ⟨n, hn, rfl⟩ := List.mem_map.mp hw
  exact dec_len (le60 (h2 n hn))
theorem swj_len {u : Stp} (h : Good u) : (Txt.join " " (sw u)).length <= 200 := by
 have a := StrLaws.join_length_le " " (sw u)
 have b : ∀ ws : List Str, (∀ w ∈ ws, w.length <= 61) -> (ws.map (·.length)).sum <= 61 * ws.length := by
  intro ws
  induction ws with
  | nil => simp
  | cons w ws ih =>
   intro h
   have h1 := h w List.mem_cons_self
   have h2 := ih fun x hx => h x (List.mem_cons_of_mem _ hx)
   rw [List.map_cons, List.sum_cons, List.length_cons]
   omega
 have c := b (sw u) (sw_len h)
 have d : (sw u).length <= 3 := by
  unfold sw
  rw [List.length_cons, List.length_map]
  have := (good_le h).2.1
  omega
 show (Builtin.Str.glued " " (sw u)).length <= _
 rw [StrLaws.glued_eq_join]
 rw [len1] at a
 omega
theorem shown_sv {u : Stp} (h : Good u) {i : Nat} {x : V} (e : (sv u)[i]? = some x) : ∃ z, shown x = some z /\ (sw u)[i]? = some z := by
 cases i with
 | zero => cases e; exact ⟨u.1, rfl, rfl⟩
 | succ i =>
  have e : (u.2.map iv)[i]? = some x := e
  obtain ⟨n, en, rfl⟩ := item e
  exact ⟨_, shown_iv (le60 ((good_le h).2.2.2 n (List.mem_of_getElem? en))), (by show (u.2.map decT)[i]? = _; rw [List.getElem?_map, en]; rfl)⟩
theorem sv_len (u : Stp) : (sv u).length = (sw u).length := by
 unfold sv sw
 rw [List.length_cons, List.length_cons, List.length_map, List.length_map]
theorem svl {u : Stp} (h : Good u) : (sv u).length <= 3 := by
 unfold sv
 rw [List.length_cons, List.length_map]
 have := (good_le h).2.1
 omega
abbrev spLogb : Sp := fun vs H Q _ => ∃ (l : Addr) (us : List (Addr × Stp)), vs = [.ref l] /\ (H l = some (.lst (us.map fun u => .ref u.1)) \/ H l = some (.tup (us.map fun u => .ref u.1))) /\ (∀ u ∈ us, H u.1 = some (.tup (sv u.2)) /\ Good u.2) /\ us.length <= 300 /\ ∀ H', Same H H' -> Q (.str (wtx ((us.map (·.2)).flatMap sw))) H'
@[irreducible] def spLog : Sp := spLogb
theorem spLog_def {vs : List V} {H : Hp} {Q : VK} {E : XK} : spLog vs H Q E ↔ spLogb vs H Q E := by
 delta spLog
 exact Iff.rfl
section
variable {P : Program} {w : World} {K : PySem.W.Frag} {mg : Str -> Option Value} {base : Heap} {f T : Addr} {fd : FuncData}
theorem scLogText : FnScope ["log"] ["log"] (defScope sLogText) := ⟨rfl, rfl, rfl, by decide +kernel, rfl, by decide +kernel, by decide +kernel⟩
theorem ndLogText_step : (["step"] : List Str).Nodup := by decide +kernel
theorem ndLogText_part : (["part"] : List Str).Nodup := by decide +kernel
theorem okLogText (F : Fun K "log_text" "log_text" sLogText f fd) (B : Blt mg) (cWordsText : Cal P w K mg base 1 "words_text" ["words"] spWT) (C : Cst mg) : FnOk P w K mg base CX0 2 f fd ["log"] spLog := by
 refine F.ok scLogText (fun vs H Q E h => ?_) (fun cdv A outer s H vs Q E hr h => ?_)
 ·obtain ⟨_, _, rfl, _⟩ := spLog_def.mp h
  rfl
 obtain ⟨l, us, rfl, el, tu, l3, q⟩ := spLog_def.mp h
 refine ⟨_, (@pss_one _ _ _ (@ps_ret _ _ _ _ (pe_cal cWordsText hr (by decide) rfl (@pa_cons _ _ _ _ _ (pe_comp ["step"] [none] rfl (pi_seq (pv 0)) rfl (fun _ _ _ _ _ => (pg_name (i := 0) ndLogText_step rfl (Or.inl rfl))) (fun _ _ _ _ _ => pf_nil) (fun _ _ _ _ _ => (pe_bmS PySem.F.slot_str_join PySem.F.type_str_join (mt_joinK (K := K)) pe_str (@pa_cons _ _ _ _ _ (pe_comp ["part"] [none] rfl (pi_tupK (K := K) (pv 0)) rfl (fun _ _ _ _ _ => (pg_name (i := 0) ndLogText_part rfl (Or.inl rfl))) (fun _ _ _ _ _ => pf_nil) (fun _ _ _ _ _ => (pe_callTy call_strA rfl B.b_str bt_str (@pa_cons _ _ _ _ _ (pv 0) pa_nil rfl)))) pa_nil rfl)))) pa_nil rfl)))), ?_⟩
 refine ⟨_, rfl, l, rfl, compN_seq (xs := us.map fun u => .ref u.1) (fun i ys H' => Same H H' /\ ys = (((us.take i).map (·.2)).map fun u => Txt.join " " (sw u)).map V.str) el ⟨Same.refl _, rfl⟩ (by rw [List.length_map]; exact small6 (by omega)) (fun i ys H' z => by rcases el with e | e <;> exact z.1.at e) ?_ ?_⟩
 ·rintro i x ys H1 hx hy ⟨s1, rfl⟩ R1 R0 r1 r0
  obtain ⟨u, eu, rfl⟩ := item hx
  obtain ⟨tu1, gu⟩ := tu u (List.mem_of_getElem? eu)
  have tu2 := s1 _ _ tu1
  refine iteT ⟨⟨_, rfl⟩, _, rfl, u.1, rfl, ⟨_, SqT.of tu2⟩, compN_tup (xs := sv u.2) (fun j zs H' => H' = H1 /\ zs = ((sw u.2).take j).map V.str) ⟨rfl, rfl⟩ (small6 (Nat.le_trans (svl gu) (by decide))) (fun j zs H' _ z => by rw [z.1]; exact SqT.of tu2) ?_ ?_⟩
  ·rintro j y zs H' hy' hz ⟨rfl, rfl⟩ P1 P0 p1 p0
   obtain ⟨z, sz, ez⟩ := shown_sv gu hy'
   refine iteT ⟨_, rfl, y, z, rfl, sz, p1 _ _ ⟨rfl, ?_⟩⟩
   rw [List.take_add_one, ez, List.map_append]; rfl
  ·rintro zs H' hz ⟨rfl, rfl⟩ t ht
   rw [sv_len, List.take_length]
   refine ⟨" ", t, _, rfl, rfl, SqL.of upd_same, join_ok (fun w hw => Nat.le_trans (sw_len gu w hw) (by decide)) (by rw [<- sv_len]; exact Nat.le_trans (svl gu) (by decide)), r1 _ _ ⟨s1.trans (same_new ht _), ?_⟩⟩
   rw [List.take_add_one, eu, List.map_append, List.map_append, List.map_append]; rfl
 ·rintro ys H' hy ⟨s1, rfl⟩ t ht
  rw [List.length_map, List.take_length]
  refine spWT_def.mpr ⟨t, _, rfl, upd_same, fun w hw => ?_, by rw [List.length_map, List.length_map]; omega, ?_⟩
  ·obtain ⟨v, hv, rfl⟩ := List.mem_map.mp hw
   obtain ⟨u, hu, rfl⟩ := List.mem_map.mp hv
   exact swj_len (tu u hu).2
  ·rw [wtx_flat]
   exact q _ (s1.trans (same_new ht _))
end
end K80
set_option Elab.async false
set_option linter.all false
set_option maxRecDepth 100000
set_option maxHeartbeats 800000
namespace K80
open PySem L2
abbrev figs : Str := "0123456789"
def inFig (c : Nat) : Bool := !(Builtin.Str.occurrences figs ⟨#[c]⟩ 0 figs.length 1).isEmpty
theorem fig10 : ∀ k : Nat, k < 10 -> inFig (48 + k) = true := by decide +kernel
theorem fig_of {c : Nat} (h : 48 <= c /\ c <= 57) : inFig c = true := by
 have := fig10 (c - 48) (by omega)
 rwa [show 48 + (c - 48) = c by omega] at this
theorem dec_pos (n : Nat) : 1 <= (decT n).length := by rw [decT_len]; exact dg_pos n
theorem dec_ne (n : Nat) : decide (V.str (decT n) = V.str "") = false := decide_eq_false fun z => by
 have h := dec_pos n
 rw [V.str.inj z] at h
 exact absurd h (by decide)
theorem dec_z (n : Nat) : Txt.startswith (decT n) "0" = false \/ decide (V.str (decT n) = V.str "0") = true := by
 rcases Nat.eq_zero_or_pos n with rfl | p
 ·exact .inr (by decide +kernel)
 ·exact .inl (decT_zero p)
theorem dec_free (n : Nat) : 32 ∉ (decT n).cps.toList /\ decT n ≠ "-" := by
 refine ⟨fun h => ?_, fun h => ?_⟩
 ·have := decT_rng n 32 h
  omega
 ·have := decT_rng n 45 (by rw [h]; decide +kernel)
  omega
abbrev spNRb : Sp := fun vs H Q _ => ∃ n k : Nat, vs = [.str (decT n), .int (k : Int)] /\ n <= k /\ k <= 10 ^ 60 /\ ∀ H', Same H H' -> Q (.int (n : Int)) H'
@[irreducible] def spNR : Sp := spNRb
theorem spNR_def {vs : List V} {H : Hp} {Q : VK} {E : XK} : spNR vs H Q E ↔ spNRb vs H Q E := by
 delta spNR
 exact Iff.rfl
section
variable {P : Program} {w : World} {K : PySem.W.Frag} {mg : Str -> Option Value} {base : Heap} {f T : Addr} {fd : FuncData}
theorem scNumberRead : FnScope ["word", "most", "number"] ["word", "most"] (defScope sNumberRead) := ⟨rfl, rfl, rfl, by decide +kernel, rfl, by decide +kernel, by decide +kernel⟩
theorem ndNumberRead_sign : (["sign"] : List Str).Nodup := by decide +kernel
theorem okNumberRead (F : Fun K "number_read" "number_read" sNumberRead f fd) (B : Blt mg) (C : Cst mg) : FnOk P w K mg base CX0 1 f fd ["word", "most"] spNR := by
 refine F.ok scNumberRead (fun vs H Q E h => ?_) (fun cdv A outer s H vs Q E hr h => ?_)
 ·obtain ⟨_, _, rfl, _⟩ := spNR_def.mp h
  rfl
 obtain ⟨n, k, rfl, nk, k4, q⟩ := spNR_def.mp h
 obtain ⟨t_FIGURES, w_FIGURES⟩ := C.c_FIGURES
 refine ⟨_, (@pss_cons _ _ _ _ _ (@ps_if _ _ _ _ _ _ _ _ (PW.pt (pw_or (pt_cmpR op_eq (pv 0) pe_str (nomark _)) (pw_or1 (pt_not (pt_val (pe_callB (call_all rfl) rfl B.b_all bt_all (@pa_cons _ _ _ _ _ (pe_comp ["sign"] [none] rfl (pi_str (pv 0)) rfl (fun _ _ _ _ _ => (pg_name (i := 0) ndNumberRead_sign rfl (Or.inl rfl))) (fun _ _ _ _ _ => pf_nil) (fun _ _ _ _ _ => (pe_cmpR op_in_str (pv 0) (pe_glob (v := .str "0123456789") rfl w_FIGURES ⟨_, rfl⟩) rfl))) pa_nil rfl))))))) pss_never pss_nil)
  (@pss_cons _ _ _ _ _ (@ps_if _ _ _ _ _ _ _ _ (PW.pt (pw_and (pt_val (pe_bmS PySem.F.slot_str_startswith PySem.F.type_str_startswith mt_starts (pv 0) (@pa_cons _ _ _ _ _ pe_str pa_nil rfl))) (pw_and1 (pt_cmpR op_ne (pv 0) pe_str (nomark _))))) pss_never pss_nil)
  (@pss_cons _ _ _ _ _ (@ps_if _ _ _ _ _ _ _ _ (pt_cmpR op_gt (pe_callB call_len_str rfl B.b_len bt_len (@pa_cons _ _ _ _ _ (pv 0) pa_nil rfl)) (pe_callB call_len_str rfl B.b_len bt_len (@pa_cons _ _ _ _ _ (pe_callTy call_str_int rfl B.b_str bt_str (@pa_cons _ _ _ _ _ (pv 1) pa_nil rfl)) pa_nil rfl)) (nomark _)) pss_never pss_nil)
  (@pss_cons _ _ _ _ _ (@ps_set _ _ 2 _ _ _ _ scNumberRead.nd rfl (Or.inl rfl) (pe_callTy call_intS rfl B.b_int bt_int (@pa_cons _ _ _ _ _ (pv 0) pa_nil rfl)) rfl (by first | exact .inl rfl | exact .inr rfl | assumption))
  (@pss_cons _ _ _ _ _ (@ps_if _ _ _ _ _ _ _ _ (pt_cmpR op_gt (pv 2) (pv 1) (nomark _)) pss_never pss_nil)
  (@pss_one _ _ _ (@ps_ret _ _ _ _ (pv 2)))))))), ?_⟩
 have n4 : n <= 10 ^ 60 := Nat.le_trans nk k4
 refine ⟨_, rfl, rfl, _, rfl, ?_⟩
 rw [dec_ne n]
 refine iteF ⟨_, rfl, decT n, rfl, ?_⟩
 have l2 := dec_len n4
 refine compN_str (fun i ys H' => H' = H /\ ys = (List.replicate i true).map V.bl) ⟨rfl, rfl⟩ (small (by show (decT n).length <= 1000; omega)) ?_ ?_
 ·rintro i c ys H' hc hy ⟨rfl, rfl⟩ R1 R0 r1 r0
  have fc : inFig c = true := fig_of (decT_rng n c (List.mem_of_getElem? (by rw [Array.getElem?_toList]; exact hc)))
  refine iteT ⟨_, rfl, ⟨#[c]⟩, figs, rfl, rfl, ?_⟩
  show R1 (V.bl (inFig c)) H'
  rw [fc]
  refine r1 _ _ ⟨rfl, ?_⟩
  rw [List.replicate_succ', List.map_append]; rfl
 rintro ys H' hy ⟨rfl, rfl⟩ l hl
 have al : ∀ j : Nat, (List.replicate j true).all id = true := fun j => by simp
 have g1 := same_new hl (.lst ((List.replicate (decT n).cps.size true).map V.bl))
 refine ⟨l, _, rfl, SqL.of upd_same, ?_⟩
 rw [al]
 have mo := decT_mono nk
 have lk := dec_len k4
 refine ⟨_, rfl, iteF ⟨_, rfl, ⟨_, rfl⟩, decT n, "0", rfl, rfl, _, rfl, ?_⟩⟩
 cases hz : Txt.startswith (decT n) "0" with
 | false =>
  refine iteF (iteF ?_)
  refine ⟨_, rfl, decT n, rfl, small6 (by omega), _, rfl, (k : Int), rfl, lg k4, decT k, rfl, small6 (by omega), _, _, rfl, rfl, _, rfl, ?_⟩
  rw [decide_eq_false (show ¬ ((decT k).length : Int) < ((decT n).length : Int) by omega)]
  refine iteF ⟨_, rfl, decT n, (n : Int), rfl, decT_read (by omega), by omega, _, rfl, _, rfl, _, _, rfl, rfl, _, rfl, ?_⟩
  rw [decide_eq_false (show ¬ (k : Int) < (n : Int) by omega)]
  exact iteF ⟨_, rfl, q _ g1⟩
 | true =>
  have z := (dec_z n).resolve_left (by rw [hz]; decide)
  refine iteT ⟨_, rfl, rfl, _, rfl, ?_⟩
  rw [z]
  refine iteF ?_
  refine ⟨_, rfl, decT n, rfl, small6 (by omega), _, rfl, (k : Int), rfl, lg k4, decT k, rfl, small6 (by omega), _, _, rfl, rfl, _, rfl, ?_⟩
  rw [decide_eq_false (show ¬ ((decT k).length : Int) < ((decT n).length : Int) by omega)]
  refine iteF ⟨_, rfl, decT n, (n : Int), rfl, decT_read (by omega), by omega, _, rfl, _, rfl, _, _, rfl, rfl, _, rfl, ?_⟩
  rw [decide_eq_false (show ¬ (k : Int) < (n : Int) by omega)]
  exact iteF ⟨_, rfl, q _ g1⟩
end
abbrev spWOb : Sp := fun vs H Q _ => ∃ ws : List Str, vs = [.str (Txt.join " " ws)] /\ ws ≠ [] /\ (∀ w ∈ ws, w.length <= 200 /\ 32 ∉ w.cps.toList) /\ ws.length <= 1000 /\ ∀ (l : Addr) (H' : Hp), Same H H' -> H l = none -> H' l = some (.lst (ws.map V.str)) -> Q (.ref l) H'
@[irreducible] def spWO : Sp := spWOb
theorem spWO_def {vs : List V} {H : Hp} {Q : VK} {E : XK} : spWO vs H Q E ↔ spWOb vs H Q E := by
 delta spWO
 exact Iff.rfl
section
variable {P : Program} {w : World} {K : PySem.W.Frag} {mg : Str -> Option Value} {base : Heap} {f T : Addr} {fd : FuncData}
theorem scWordsOf : FnScope ["thing"] ["thing"] (defScope sWordsOf) := ⟨rfl, rfl, rfl, by decide +kernel, rfl, by decide +kernel, by decide +kernel⟩
theorem okWordsOf (F : Fun K "words_of" "words_of" sWordsOf f fd) (B : Blt mg) (C : Cst mg) : FnOk P w K mg base CX0 1 f fd ["thing"] spWO := by
 refine F.ok scWordsOf (fun vs H Q E h => ?_) (fun cdv A outer s H vs Q E hr h => ?_)
 ·obtain ⟨_, rfl, _⟩ := spWO_def.mp h
  rfl
 obtain ⟨ws, rfl, ne, hw, l3, q⟩ := spWO_def.mp h
 refine ⟨_, (@pss_cons _ _ _ _ _ (@ps_if _ _ _ _ _ _ _ _ (pt_not (pt_val (pe_callB call_isinst rfl B.b_isinstance bt_isinstance (@pa_cons _ _ _ _ _ (pv 0) (@pa_cons _ _ _ _ _ (pe_bltn (v := .ty "str") rfl B.b_str bt_str rfl) pa_nil rfl) rfl)))) pss_never pss_nil)
  (@pss_one _ _ _ (@ps_ret _ _ _ _ (pe_bmS PySem.F.slot_str_split PySem.F.type_str_split mt_split (pv 0) (@pa_cons _ _ _ _ _ pe_str pa_nil rfl))))), ?_⟩
 have jl := join_le (fun w h => (hw w h).1)
 refine ⟨_, rfl, .str (Txt.join " " ws), "str", _, true, rfl, .str (Txt.join " " ws), rfl, _, rfl, iteF ?_⟩
 refine ⟨_, rfl, ⟨_, rfl⟩, Txt.join " " ws, " ", rfl, rfl, rfl, small6 (by omega), ?_, fun l hl => ?_⟩
 ·have e1 := StrLaws.occ_length_le_len (Txt.join " " ws) " " 0 (Txt.join " " ws).length ((Txt.join " " ws).length + 1)
  rw [length_partsBetween]
  exact small6 (by omega)
 ·have sj : Txt.split (Txt.join " " ws) " " = ws := split_joined (c := 32) ne fun p hp => (hw p hp).2
  rw [sj]
  exact q l _ (same_new hl _) hl upd_same
end
abbrev spRWb : Sp := fun vs H Q _ => ∃ ws : List Str, vs = [.str (wtx ws)] /\ (∀ w ∈ ws, w.length <= 200 /\ 32 ∉ w.cps.toList /\ w ≠ "-") /\ ws.length <= 1000 /\ ∀ (l : Addr) (H' : Hp), Same H H' -> H l = none -> H' l = some (.lst (ws.map V.str)) -> Q (.ref l) H'
@[irreducible] def spRW : Sp := spRWb
theorem spRW_def {vs : List V} {H : Hp} {Q : VK} {E : XK} : spRW vs H Q E ↔ spRWb vs H Q E := by
 delta spRW
 exact Iff.rfl
section
variable {P : Program} {w : World} {K : PySem.W.Frag} {mg : Str -> Option Value} {base : Heap} {f T : Addr} {fd : FuncData}
theorem scRowsWords : FnScope ["thing", "words"] ["thing"] (defScope sRowsWords) := ⟨rfl, rfl, rfl, by decide +kernel, rfl, by decide +kernel, by decide +kernel⟩
theorem okRowsWords (F : Fun K "rows_words" "rows_words" sRowsWords f fd) (B : Blt mg) (cWordsOf : Cal P w K mg base 1 "words_of" ["thing"] spWO) (C : Cst mg) : FnOk P w K mg base CX0 2 f fd ["thing"] spRW := by
 refine F.ok scRowsWords (fun vs H Q E h => ?_) (fun cdv A outer s H vs Q E hr h => ?_)
 ·obtain ⟨_, rfl, _⟩ := spRW_def.mp h
  rfl
 obtain ⟨ws, rfl, hw, l3, q⟩ := spRW_def.mp h
 refine ⟨_, (@pss_cons _ _ _ _ _ (@ps_set _ _ 1 _ _ _ _ scRowsWords.nd rfl (Or.inl rfl) (pe_cal cWordsOf hr (by decide) rfl (@pa_cons _ _ _ _ _ (pv 0) pa_nil rfl)) rfl (by first | exact .inl rfl | exact .inr rfl | assumption))
  (@pss_cons _ _ _ _ _ (@ps_if _ _ _ _ _ _ _ _ (pt_cmpR op_ne (@pe_ix _ _ _ _ _ _ _ ix_list (pv 1) pe_int (fun _ _ => rfl)) pe_str (nomark _)) (@pss_one _ _ _ (@ps_ret _ _ _ _ (pv 1))) pss_nil)
  (@pss_cons _ _ _ _ _ (@ps_if _ _ _ _ _ _ _ _ (pt_cmpR op_gt (pe_callB call_len_seq rfl B.b_len bt_len (@pa_cons _ _ _ _ _ (pv 1) pa_nil rfl)) pe_int (nomark _)) pss_never pss_nil)
  (@pss_one _ _ _ (@ps_ret _ _ _ _ (@pe_lst _ _ _ _ pa_nil)))))), ?_⟩
 cases ws with
 | nil =>
  refine ⟨_, rfl, spWO_def.mpr ⟨["-"], rfl, by simp, fun w h => ?_, by decide, fun l H1 s1 hl el => ?_⟩⟩
  ·rw [List.mem_singleton.mp h]
   exact ⟨by decide, by decide +kernel⟩
  refine ⟨_, rfl, l, _, 0, .str "-", rfl, rfl, SqL.of el, rfl, rfl, _, rfl, iteF ⟨_, rfl, l, _, rfl, .inl (SqL.of el), _, _, rfl, rfl, _, rfl, iteF ⟨(by show 0 <= sizeLine; decide), fun r hr' => q r _ (s1.trans (same_new hr' _)) (s1.free hr') upd_same⟩⟩⟩
 | cons w ws =>
  have e : wtx (w :: ws) = Txt.join " " (w :: ws) := if_neg (by simp)
  rw [e]
  refine ⟨_, rfl, spWO_def.mpr ⟨w :: ws, rfl, by simp, fun w h => ⟨(hw w h).1, (hw w h).2.1⟩, l3, fun l H1 s1 hl el => ?_⟩⟩
  refine ⟨_, rfl, l, _, 0, .str w, rfl, rfl, SqL.of el, atI_nat (j := 0) rfl, rfl, _, rfl, ?_⟩
  rw [decide_eq_false fun z => (hw w List.mem_cons_self).2.2 (V.str.inj z)]
  exact iteT ⟨_, rfl, q l _ s1 hl el⟩
end
abbrev spRNb : Sp := fun vs H Q _ => ∃ ns : List Nat, vs = [.str (wtx (ns.map decT))] /\ (∀ n ∈ ns, n <= 10 ^ 60) /\ ns.length <= 60 /\ ∀ (t : Addr) (H' : Hp), Same H H' -> H' t = some (.tup (ns.map iv)) -> Q (.ref t) H'
@[irreducible] def spRN : Sp := spRNb
theorem spRN_def {vs : List V} {H : Hp} {Q : VK} {E : XK} : spRN vs H Q E ↔ spRNb vs H Q E := by
 delta spRN
 exact Iff.rfl
theorem e60 : (10 : Int) ^ (60 : Int).toNat = ((10 ^ 60 : Nat) : Int) := by decide +kernel
section
variable {P : Program} {w : World} {K : PySem.W.Frag} {mg : Str -> Option Value} {base : Heap} {f T : Addr} {fd : FuncData}
theorem scReadNumbers : FnScope ["thing", "numbers", "at", "word", "number"] ["thing"] (defScope sReadNumbers) := ⟨rfl, rfl, rfl, by decide +kernel, rfl, by decide +kernel, by decide +kernel⟩
theorem okReadNumbers (F : Fun K "read_numbers" "read_numbers" sReadNumbers f fd) (B : Blt mg) (cRowsWords : Cal P w K mg base 2 "rows_words" ["thing"] spRW) (cNumberRead : Cal P w K mg base 1 "number_read" ["word", "most"] spNR) (C : Cst mg) : FnOk P w K mg base CX0 3 f fd ["thing"] spRN := by
 refine F.ok scReadNumbers (fun vs H Q E h => ?_) (fun cdv A outer s H vs Q E hr h => ?_)
 ·obtain ⟨_, rfl, _⟩ := spRN_def.mp h
  rfl
 obtain ⟨ns, rfl, hn, l6, q⟩ := spRN_def.mp h
 obtain ⟨t_MOST_NUMBERS, w_MOST_NUMBERS⟩ := C.c_MOST_NUMBERS
 refine ⟨_, (@pss_cons _ _ _ _ _ (@ps_set _ _ 1 _ _ _ _ scReadNumbers.nd rfl (Or.inl rfl) (@pe_lst _ _ _ _ pa_nil) rfl (by first | exact .inl rfl | exact .inr rfl | assumption))
  (@pss_cons _ _ _ _ _ (@ps_for _ _ _ _ _ _ _ _ PassesOwn.never rfl (pi_enum rfl B.b_enumerate (@pa_cons _ _ _ _ _ (pe_cal cRowsWords hr (by decide) rfl (@pa_cons _ _ _ _ _ (pv 0) pa_nil rfl)) pa_nil rfl)) (pg_tup rfl (pgs_cons (pg_name (i := 2) scReadNumbers.nd rfl (Or.inl rfl)) (pgs_cons (pg_name (i := 3) scReadNumbers.nd rfl (Or.inl rfl)) pgs_nil)))
   (@pss_cons _ _ _ _ _ (@ps_set _ _ 4 _ _ _ _ scReadNumbers.nd rfl (Or.inl rfl) (pe_cal cNumberRead hr (by decide) rfl (@pa_cons _ _ _ _ _ (pv 3) (@pa_cons _ _ _ _ _ (@pe_op _ _ _ _ _ _ _ _ op_pow pe_int pe_int) pa_nil rfl) rfl)) rfl (by first | exact .inl rfl | exact .inr rfl | assumption))
   (@pss_cons _ _ _ _ _ (@ps_if _ _ _ _ _ _ _ _ (PW.pt (pw_or (pt_cmpR op_isN (pv 4) pe_non (nomark _)) (pw_or1 (pt_cmpR op_eq (pv 2) (pe_glob (v := .int 60) rfl w_MOST_NUMBERS ⟨_, rfl⟩) (nomark _))))) pss_never pss_nil)
   (@pss_one _ _ _ (ps_expr (pe_bm PySem.F.plainAttrs_list PySem.F.slot_list_append PySem.F.type_list_append mt_append (pv 1) (@pa_cons _ _ _ _ _ (pv 4) pa_nil rfl)))))) (fun _ => rfl))
  (@pss_one _ _ _ (@ps_ret _ _ _ _ (pe_callTy call_tuple_of rfl B.b_tuple bt_tuple (@pa_cons _ _ _ _ _ (pv 1) pa_nil rfl)))))), ?_⟩
 refine ⟨(by show 0 <= sizeLine; decide), fun lp hlp => ?_⟩
 have g1 := same_new hlp (.lst [])
 have elp : upd H lp (.lst []) lp = some (.lst []) := upd_same
 generalize upd H lp (.lst []) = H1 at g1 elp
 refine ⟨_, rfl, spRW_def.mpr ⟨ns.map decT, rfl, fun w hw => ?_, by rw [List.length_map]; omega, fun l H2 s2 hl el => ?_⟩⟩
 ·obtain ⟨n, hn', rfl⟩ := List.mem_map.mp hw
  exact ⟨Nat.le_trans (dec_len (hn n hn')) (by decide), dec_free n⟩
 have nl : l ≠ lp := fun z => by rw [z, elp] at hl; cases hl
 refine ⟨l, rfl, .inl ⟨⟨_, SqL.of el⟩, for_enumL (xs := (ns.map decT).map V.str) (fun i σ H' => (∃ c2 c3 c4, σ = [some (.str (wtx (ns.map decT))), some (.ref lp), c2, c3, c4]) /\ (∀ q o, q ≠ lp -> H2 q = some o -> H' q = some o) /\ H' lp = some (.lst ((ns.take i).map iv))) ⟨⟨_, _, _, rfl⟩, fun q o _ e => e, s2 _ _ elp⟩ (fun i σ H' _ k => SqL.of (k.2.1 _ _ nl el)) ?_ ?_⟩⟩
 ·rintro i x σ H3 T hx hT ⟨⟨c2, c3, c4, rfl⟩, k3, el3⟩
  obtain ⟨w, ew, rfl⟩ := item hx
  rw [List.getElem?_map] at ew
  obtain ⟨n, en, rfl⟩ := Option.map_eq_some_iff.mp ew
  have li := (List.getElem?_eq_some_iff.mp en).1
  have gT := same_new hT (.tup [.int i, .str (decT n)])
  refine ⟨T, _, rfl, SqT.of upd_same, rfl, _, _, rfl, _, _, rfl, rfl, ?_⟩
  have el4 := gT _ _ el3
  generalize upd H3 T (.tup [.int i, .str (decT n)]) = H4 at gT el4
  refine ⟨_, rfl, _, _, rfl, rfl, ⟨by decide, by decide, by decide⟩, spNR_def.mpr ⟨n, 10 ^ 60, (by show [V.str (decT n), V.int ((10 : Int) ^ (60 : Int).toNat)] = _; rw [e60]), hn n (List.mem_of_getElem? en), Nat.le_refl _, fun H5 s5 => ?_⟩⟩
  have el5 := s5 _ _ el4
  refine ⟨_, rfl, rfl, _, rfl, iteF ⟨_, rfl, rfl, _, rfl, ?_⟩⟩
  rw [decide_eq_false fun z => by
   have := V.int.inj z
   omega]
  refine iteF ⟨_, rfl, .inl ⟨rfl, _, SqL.of el5⟩, _, rfl, lp, _, _, rfl, rfl, el5, ?_, ⟨_, _, _, rfl⟩, fun q o nq e => by rw [upd_ne nq]; exact s5 _ _ (gT _ _ (k3 q o nq e)), ?_⟩
  ·rw [List.length_map, List.length_take]; exact small5 (by omega)
  ·rw [upd_same, List.take_add_one, en, List.map_append]; rfl
 ·rintro σ H3 ⟨⟨c2, c3, c4, rfl⟩, k3, el3⟩
  rw [List.length_map, List.length_map, List.take_length] at el3
  refine ⟨_, rfl, lp, _, rfl, .inl ⟨SqL.of el3, fun t ht => q t _ (fun q o e => ?_) upd_same⟩⟩
  exact (same_new ht _) _ _ (k3 q o (ne_of_none e hlp) (s2 _ _ (g1 _ _ e)))
end
end K80
set_option Elab.async false
set_option linter.all false
set_option maxRecDepth 100000
set_option maxHeartbeats 800000
namespace K80
open PySem L2
theorem cut1 (xs : List V) : cutV xs (some 1) none = xs.drop 1 := by
 unfold cutV HT.sIx
 cases xs with
 | nil => rfl
 | cons a l => simp
abbrev spRiseb : Sp := fun vs H Q _ => ∃ (p : Addr) (ns : List Nat), vs = [.ref p] /\ H p = some (.lst (ns.map iv)) /\ ns.Pairwise (· < ·) /\ ns.length <= 500 /\ ∀ H', Same H H' -> Q (.bl true) H'
@[irreducible] def spRise : Sp := spRiseb
theorem spRise_def {vs : List V} {H : Hp} {Q : VK} {E : XK} : spRise vs H Q E ↔ spRiseb vs H Q E := by
 delta spRise
 exact Iff.rfl
section
variable {P : Program} {w : World} {K : PySem.W.Frag} {mg : Str -> Option Value} {base : Heap} {f T : Addr} {fd : FuncData}
theorem scIsRising : FnScope ["row"] ["row"] (defScope sIsRising) := ⟨rfl, rfl, rfl, by decide +kernel, rfl, by decide +kernel, by decide +kernel⟩
theorem ndIsRising_one_other : (["one", "other"] : List Str).Nodup := by decide +kernel
theorem okIsRising (F : Fun K "is_rising" "is_rising" sIsRising f fd) (B : Blt mg) (C : Cst mg) : FnOk P w K mg base CX0 1 f fd ["row"] spRise := by
 refine F.ok scIsRising (fun vs H Q E h => ?_) (fun cdv A outer s H vs Q E hr h => ?_)
 ·obtain ⟨_, _, rfl, _⟩ := spRise_def.mp h
  rfl
 obtain ⟨p, ns, rfl, ep, pw, l5, q⟩ := spRise_def.mp h
 refine ⟨_, (@pss_one _ _ _ (@ps_ret _ _ _ _ (pe_callB (call_all rfl) rfl B.b_all bt_all (@pa_cons _ _ _ _ _ (pe_comp ["one", "other"] [none, none] rfl (pi_zipB true true rfl B.b_zip (@pa_cons _ _ _ _ _ (pv 0) (@pa_cons _ _ _ _ _ (pe_slice sl_list (pv 0) (po_some pe_int) po_none) pa_nil rfl) rfl)) rfl (fun _ _ _ _ _ => (pg_pairK (K := K) (i := 0) (j := 1) ndIsRising_one_other rfl rfl (Or.inl rfl) (Or.inl rfl))) (fun _ _ _ _ _ => pf_nil) (fun _ _ _ _ _ => (pe_cmpR op_lt (pv 0) (pv 1) (nomark _)))) pa_nil rfl)))), ?_⟩
 have lm : (ns.map iv).length = ns.length := List.length_map _
 refine ⟨_, rfl, _, rfl, 1, rfl, p, _, rfl, SqL.of ep, fun p2 hp2 => ?_⟩
 rw [cut1]
 have s2 := same_new hp2 (.lst ((ns.map iv).drop 1))
 have e2 : upd H p2 (.lst ((ns.map iv).drop 1)) p2 = some (.lst ((ns.map iv).drop 1)) := upd_same
 have ep2 := s2 _ _ ep
 generalize upd H p2 (.lst ((ns.map iv).drop 1)) = H2 at s2 e2 ep2
 have ld : ((ns.map iv).drop 1).length = ns.length - 1 := by rw [List.length_drop, lm]
 have al : ∀ j : Nat, (List.replicate j true).all id = true := fun j => by simp
 refine ⟨p, p2, rfl, ⟨_, SqL.of ep2⟩, ⟨_, SqL.of e2⟩, compZ (ns.length - 1) (by rw [lm]; omega) (by rw [ld]; omega) (.inr ld.symm) (fun i zs H' => Same H2 H' /\ zs = (List.replicate i true).map V.bl) (by decide) ⟨Same.refl _, rfl⟩ (small (by omega)) (fun i zs H' _ k => ⟨SqL.of (k.1 _ _ ep2), SqL.of (k.1 _ _ e2)⟩) ?_ ?_⟩
 ·rintro i x y zs H' T' hx hy lz hT' ⟨s', rfl⟩ R1 R0 r1 r0
  obtain ⟨u, eu, rfl⟩ := item hx
  rw [List.getElem?_drop, Nat.add_comm] at hy
  obtain ⟨v, ev, rfl⟩ := item hy
  obtain ⟨l1, e1⟩ := List.getElem?_eq_some_iff.mp eu
  obtain ⟨l2, e2⟩ := List.getElem?_eq_some_iff.mp ev
  have lt := List.pairwise_iff_getElem.mp pw i (i + 1) l1 l2 (by omega)
  rw [e1, e2] at lt
  refine iteT ⟨_, rfl, _, rfl, _, _, rfl, rfl, ?_⟩
  show R1 (V.bl (decide ((u : Int) < v))) _
  rw [decide_eq_true (show (u : Int) < v by omega)]
  refine r1 _ _ ⟨s'.trans (same_new hT' _), ?_⟩
  rw [List.replicate_succ', List.map_append]; rfl
 ·rintro zs H' lz ⟨s', rfl⟩ c5 hc5
  refine ⟨c5, _, rfl, SqL.of upd_same, ?_⟩
  rw [al]
  exact q _ (s2.trans (s'.trans (same_new hc5 _)))
end
structure Exs (w : World) (K : PySem.W.Frag) (mg : Str -> Option Value) (c_STEP_NUMBERS : Addr) : Prop where
 x_STEP_NUMBERS : mg "STEP_NUMBERS" = some (.ref c_STEP_NUMBERS)
 dl : DLit K w c_STEP_NUMBERS
 n1 : ∃ t, PySem.W.nsIn K c_STEP_NUMBERS "lone" = some (some (.int 1 t))
 n2 : ∃ t, PySem.W.nsIn K c_STEP_NUMBERS "two" = some (some (.int 1 t))
 n3 : ∃ t, PySem.W.nsIn K c_STEP_NUMBERS "loop" = some (some (.int 1 t))
 n4 : ∃ t, PySem.W.nsIn K c_STEP_NUMBERS "many" = some (some (.int 2 t))
theorem Exs.num {w : World} {K : PySem.W.Frag} {mg : Str -> Option Value} {c : Addr} (Z : Exs w K mg c) {u : Stp} (h : Good u) : ∃ t, PySem.W.nsIn K c u.1 = some (some (.int (u.2.length : Nat) t)) := by
 rcases h with ⟨h, a, e, _⟩ | ⟨h, a, b, e, _⟩
 ·rw [e]
  rcases h with h | h | h <;> rw [h]
  ·exact Z.n1
  ·exact Z.n2
  ·exact Z.n3
 ·rw [e, h]
  exact Z.n4
theorem good_pw {u : Stp} (h : Good u) : u.2.Pairwise (· < ·) := by
 rcases h with ⟨_, a, e, _⟩ | ⟨_, a, b, e, ab, _⟩
 ·rw [e]; simp
 ·rw [e]; simp [ab]
theorem cut_mid {α : Type} {xs us rest : List α} {a : Nat} {x : α} (f : α -> V) (h : xs.drop a = x :: us ++ rest) : cutV (xs.map f) (some ((a : Int) + 1)) (some ((a : Int) + (us.length : Nat) + 1)) = us.map f := by
 have hl := congrArg List.length h
 rw [List.length_drop, List.cons_append, List.length_cons, List.length_append] at hl
 unfold cutV
 rw [show ((a : Int) + 1) = ((a + 1 : Nat) : Int) by omega, show ((a : Int) + (us.length : Nat) + 1) = ((a + us.length + 1 : Nat) : Int) by omega, HT.sIx_nat, HT.sIx_nat, List.length_map, Nat.min_eq_left (by omega), Nat.min_eq_left (by omega), show a + us.length + 1 - (a + 1) = us.length by omega, <- List.map_drop, <- List.drop_drop, h]
 show List.take us.length (List.map f (us ++ rest)) = _
 rw [List.map_append, List.take_left' (List.length_map _)]
abbrev spSRb : Sp := fun vs H Q _ => ∃ (l : Addr) (ws : List Str) (a : Nat) (u : Stp) (rest : List Str), vs = [.ref l, .int (a : Int)] /\ H l = some (.lst (ws.map V.str)) /\ Good u /\ ws.drop a = sw u ++ rest /\ ws.length <= 1000 /\ ∀ (t : Addr) (H' : Hp), Same H H' -> H t = none -> H' t = some (.tup (sv u)) -> Q (.ref t) H'
@[irreducible] def spSR : Sp := spSRb
theorem spSR_def {vs : List V} {H : Hp} {Q : VK} {E : XK} : spSR vs H Q E ↔ spSRb vs H Q E := by
 delta spSR
 exact Iff.rfl
section
variable {P : Program} {w : World} {K : PySem.W.Frag} {mg : Str -> Option Value} {base : Heap} {f T : Addr} {fd : FuncData} {c_STEP_NUMBERS : Addr}
theorem scStepRead : FnScope ["words", "at", "last", "places", "word", "place"] ["words", "at"] (defScope sStepRead) := ⟨rfl, rfl, rfl, by decide +kernel, rfl, by decide +kernel, by decide +kernel⟩
theorem okStepRead (F : Fun K "step_read" "step_read" sStepRead f fd) (B : Blt mg) (Z : Exs w K mg c_STEP_NUMBERS) (cNumberRead : Cal P w K mg base 1 "number_read" ["word", "most"] spNR) (cIsRising : Cal P w K mg base 1 "is_rising" ["row"] spRise) (C : Cst mg) : FnOk P w K mg base CX0 2 f fd ["words", "at"] spSR := by
 refine F.ok scStepRead (fun vs H Q E h => ?_) (fun cdv A outer s H vs Q E hr h => ?_)
 ·obtain ⟨_, _, _, _, _, rfl, _⟩ := spSR_def.mp h
  rfl
 obtain ⟨l, ws, a, u, rest, rfl, el, gu, hd, l1, q⟩ := spSR_def.mp h
 obtain ⟨t_MOST_PLACES, w_MOST_PLACES⟩ := C.c_MOST_PLACES
 refine ⟨_, (@pss_cons _ _ _ _ _ (@ps_if _ _ _ _ _ _ _ _ (pt_cmpR op_notInDL (@pe_ix _ _ _ _ _ _ _ ix_list (pv 0) (pv 1) (fun _ _ => rfl)) (pe_glob (v := .ref c_STEP_NUMBERS) rfl Z.x_STEP_NUMBERS rfl) rfl) pss_never pss_nil)
  (@pss_cons _ _ _ _ _ (@ps_set _ _ 2 _ _ _ _ scStepRead.nd rfl (Or.inl rfl) (@pe_op _ _ _ _ _ _ _ _ op_add (pv 1) (pe_dgetL (pe_glob (v := .ref c_STEP_NUMBERS) rfl Z.x_STEP_NUMBERS rfl) (@pe_ix _ _ _ _ _ _ _ ix_list (pv 0) (pv 1) (fun _ _ => rfl)) (fun _ _ => rfl))) rfl (by first | exact .inl rfl | exact .inr rfl | assumption))
  (@pss_cons _ _ _ _ _ (@ps_set _ _ 3 _ _ _ _ scStepRead.nd rfl (Or.inl rfl) (@pe_lst _ _ _ _ pa_nil) rfl (by first | exact .inl rfl | exact .inr rfl | assumption))
  (@pss_cons _ _ _ _ _ (@ps_for _ _ _ _ _ _ _ _ PassesOwn.never rfl (@pi_list _ _ _ _ (pe_slice sl_list (pv 0) (po_some (@pe_op _ _ _ _ _ _ _ _ op_add (pv 1) pe_int)) (po_some (@pe_op _ _ _ _ _ _ _ _ op_add (pv 2) pe_int)))) (pg_name (i := 4) scStepRead.nd rfl (Or.inl rfl))
   (@pss_cons _ _ _ _ _ (@ps_set _ _ 5 _ _ _ _ scStepRead.nd rfl (Or.inl rfl) (pe_cal cNumberRead hr (by decide) rfl (@pa_cons _ _ _ _ _ (pv 4) (@pa_cons _ _ _ _ _ (@pe_op _ _ _ _ _ _ _ _ op_sub (pe_glob (v := .int 40) rfl w_MOST_PLACES ⟨_, rfl⟩) pe_int) pa_nil rfl) rfl)) rfl (by first | exact .inl rfl | exact .inr rfl | assumption))
   (@pss_cons _ _ _ _ _ (ps_expr (pe_bm PySem.F.plainAttrs_list PySem.F.slot_list_append PySem.F.type_list_append mt_append (pv 3) (@pa_cons _ _ _ _ _ (pv 5) pa_nil rfl)))
   (@pss_one _ _ _ (@ps_if _ _ _ _ _ _ _ _ (PW.pt (pw_or (pt_cmpR op_isN (pv 5) pe_non (nomark _)) (pw_or1 (pt_not (pt_val (pe_cal cIsRising hr (by decide) rfl (@pa_cons _ _ _ _ _ (pv 3) pa_nil rfl))))))) pss_never pss_nil)))) (fun _ => rfl))
  (@pss_cons _ _ _ _ _ (@ps_if _ _ _ _ _ _ _ _ (pt_cmpR op_ge (pv 2) (pe_callB call_len_seq rfl B.b_len bt_len (@pa_cons _ _ _ _ _ (pv 0) pa_nil rfl)) (nomark _)) pss_never pss_nil)
  (@pss_one _ _ _ (@ps_ret _ _ _ _ (@pe_op _ _ _ _ _ _ _ _ op_catTA (@pe_tup _ _ _ _ _ (@pa_cons _ _ _ _ _ (@pe_ix _ _ _ _ _ _ _ ix_list (pv 0) (pv 1) (fun _ _ => rfl)) pa_nil rfl)) (pe_callTy call_tuple_of rfl B.b_tuple bt_tuple (@pa_cons _ _ _ _ _ (pv 3) pa_nil rfl)))))))))), ?_⟩
 obtain ⟨tk, hn⟩ := Z.num gu
 obtain ⟨g1, g2, g3, g4⟩ := good_le gu
 have hl := congrArg List.length hd
 rw [List.length_drop, List.length_append] at hl
 have sl : (sw u).length = u.2.length + 1 := by unfold sw; rw [List.length_cons, List.length_map]
 have hat : ws[a]? = some u.1 := by
  have : (ws.drop a)[0]? = some u.1 := by rw [hd]; rfl
  rwa [List.getElem?_drop, Nat.add_zero] at this
 have hatV : atI (ws.map V.str) (a : Int) = some (.str u.1) := atI_nat (by rw [List.getElem?_map, hat]; rfl)
 refine ⟨_, rfl, _, rfl, l, _, (a : Int), .str u.1, rfl, rfl, SqL.of el, hatV, u.1, c_STEP_NUMBERS, _, rfl, rfl, Z.dl, hn, _, rfl, iteF ?_⟩
 refine ⟨_, rfl, _, rfl, _, rfl, l, _, (a : Int), .str u.1, rfl, rfl, SqL.of el, hatV, u.1, c_STEP_NUMBERS, _, tk, rfl, rfl, Z.dl, hn, _, _, rfl, rfl, ?_⟩
 refine ⟨(by show 0 <= sizeLine; decide), fun lp hlp => ?_⟩
 have s1 := same_new hlp (.lst [])
 have el1 := s1 _ _ el
 have elp : upd H lp (.lst []) lp = some (.lst []) := upd_same
 generalize upd H lp (.lst []) = H1 at s1 el1 elp
 refine ⟨_, rfl, _, rfl, _, _, rfl, rfl, _, rfl, _, rfl, _, _, rfl, rfl, _, rfl, l, _, rfl, SqL.of el1, fun w2 hw2 => ?_⟩
 have cu : cutV (ws.map V.str) (some ((a : Int) + 1)) (some ((a : Int) + (u.2.length : Nat) + 1)) = (u.2.map decT).map V.str := by
  have := cut_mid (x := u.1) (us := u.2.map decT) V.str hd
  rwa [List.length_map] at this
 rw [cu]
 have s2 := same_new hw2 (.lst ((u.2.map decT).map V.str))
 have ew2 : upd H1 w2 (.lst ((u.2.map decT).map V.str)) w2 = some (.lst ((u.2.map decT).map V.str)) := upd_same
 have el2 := s2 _ _ el1
 have elp2 := s2 _ _ elp
 have nw : w2 ≠ lp := fun z => by rw [z, elp] at hw2; cases hw2
 have nl : l ≠ lp := fun z => by rw [z, hlp] at el; cases el
 generalize upd H1 w2 (.lst ((u.2.map decT).map V.str)) = H2 at s2 ew2 el2 elp2
 refine ⟨w2, rfl, ⟨_, SqL.of ew2⟩, for_list (xs := (u.2.map decT).map V.str) (fun i σ H' => (∃ c4 c5, σ = [some (.ref l), some (.int (a : Int)), some (.int ((a : Int) + (u.2.length : Nat))), some (.ref lp), c4, c5]) /\ (∀ q o, q ≠ lp -> H2 q = some o -> H' q = some o) /\ H' lp = some (.lst ((u.2.take i).map iv))) ⟨⟨_, _, rfl⟩, fun q o _ e => e, elp2⟩ (fun i σ H' _ k => SqL.of (k.2.1 _ _ nw ew2)) ?_ ?_⟩
 ·rintro i x σ H3 hx ⟨⟨c4, c5, rfl⟩, k3, el3⟩
  obtain ⟨w', ew', rfl⟩ := item hx
  rw [List.getElem?_map] at ew'
  obtain ⟨n, en, rfl⟩ := Option.map_eq_some_iff.mp ew'
  have li := (List.getElem?_eq_some_iff.mp en).1
  refine ⟨_, rfl, _, _, rfl, rfl, spNR_def.mpr ⟨n, 39, rfl, g4 n (List.mem_of_getElem? en), by decide, fun H4 s4 => ?_⟩⟩
  have el4 := s4 _ _ el3
  refine ⟨_, rfl, .inl ⟨rfl, _, SqL.of el4⟩, _, rfl, lp, _, _, rfl, rfl, el4, ?_, ?_⟩
  ·rw [List.length_map, List.length_take]; exact small5 (by omega)
  have e5 : upd H4 lp (.lst ((u.2.take i).map iv ++ [.int n])) lp = some (.lst ((u.2.take (i + 1)).map iv)) := by rw [upd_same, List.take_add_one, en, List.map_append]; rfl
  have k5 : ∀ q o, q ≠ lp -> H2 q = some o -> upd H4 lp (.lst ((u.2.take i).map iv ++ [.int n])) q = some o := fun q o nq e => by rw [upd_ne nq]; exact s4 _ _ (k3 q o nq e)
  generalize upd H4 lp (.lst ((u.2.take i).map iv ++ [.int n])) = H5 at e5 k5
  refine ⟨_, rfl, rfl, _, rfl, iteF ⟨_, rfl, spRise_def.mpr ⟨lp, _, rfl, e5, (good_pw gu).sublist (List.take_sublist _ _), by rw [List.length_take]; omega, fun H6 s6 => ⟨_, rfl, iteF ⟨⟨_, _, rfl⟩, fun q o nq e => s6 _ _ (k5 q o nq e), s6 _ _ e5⟩⟩⟩⟩⟩
 ·rintro σ H3 ⟨⟨c4, c5, rfl⟩, k3, el3⟩
  rw [List.length_map, List.length_map, List.take_length] at el3
  have elw := k3 _ _ nl el2
  refine ⟨_, rfl, _, rfl, l, _, rfl, .inl (SqL.of elw), _, _, rfl, rfl, _, rfl, ?_⟩
  rw [decide_eq_false (show ¬ ((ws.map V.str).length : Int) <= (a : Int) + (u.2.length : Nat) by rw [List.length_map]; omega)]
  refine iteF ⟨_, rfl, _, rfl, l, _, (a : Int), .str u.1, rfl, rfl, SqL.of elw, hatV, (by show 1 <= sizeLine; decide), fun t1 ht1 => ?_⟩
  have s4 := same_new ht1 (.tup [.str u.1])
  have et1 : upd H3 t1 (.tup [.str u.1]) t1 = some (.tup [.str u.1]) := upd_same
  have el4 := s4 _ _ el3
  generalize upd H3 t1 (.tup [.str u.1]) = H4 at s4 et1 el4
  refine ⟨_, rfl, lp, _, rfl, .inl ⟨SqL.of el4, fun t2 ht2 => ?_⟩⟩
  have s5 := same_new ht2 (.tup (u.2.map iv))
  have k5 : Same H (upd H4 t2 (.tup (u.2.map iv))) := fun q o e => s5 _ _ (s4 _ _ (k3 q o (ne_of_none e hlp) (s2 _ _ (s1 _ _ e))))
  refine ⟨t1, t2, _, _, rfl, rfl, SqT.of (s5 _ _ et1), SqT.of upd_same, ?_, ?_, (fun z => nomatch z), fun _ t ht => q t _ (k5.trans (same_new ht _)) (k5.free ht) upd_same⟩
  ·intro z
   rw [List.map_eq_nil_iff.mp z] at g3
   exact absurd g3 (by decide)
  rw [List.length_map]
  exact small6 (show 1 + u.2.length <= 300000 by omega)
end
end K80
set_option Elab.async false
set_option linter.all false
set_option maxRecDepth 100000
set_option maxHeartbeats 800000
namespace K80
open PySem L2
theorem gname_on {i : Nat} {v : V} {σ : St} {H : Hp} {Q : St -> Hp -> Prop} (h : Q (σ.set i (some v)) H) : gName i v σ H Q := h
theorem seq_on {a b : TS} {D : Ends} {σ : St} {H : Hp} (h : a { D with nx := b D } σ H) : tSeq a b D σ H := h
theorem flat_split (us : List Stp) (j : Nat) : us.flatMap sw = (us.take j).flatMap sw ++ (us.drop j).flatMap sw := by
 rw [<- List.flatMap_append, List.take_append_drop]
theorem flat_drop (us : List Stp) (j : Nat) : (us.flatMap sw).drop ((us.take j).flatMap sw).length = (us.drop j).flatMap sw := by
 rw [flat_split us j, List.drop_left' rfl]
theorem sw_pos (u : Stp) : 1 <= (sw u).length := Nat.le_add_left _ _
theorem flat_len : ∀ {us : List Stp}, (∀ u ∈ us, Good u) -> (us.flatMap sw).length <= 3 * us.length
 | [], _ => Nat.le_refl _
 | u :: us, h => by
  have a := flat_len fun x hx => h x (List.mem_cons_of_mem _ hx)
  have b := svl (h u List.mem_cons_self)
  rw [sv_len] at b
  rw [List.flatMap_cons, List.length_append, List.length_cons]
  omega
theorem word_ok {us : List Stp} (h : ∀ u ∈ us, Good u) : ∀ w ∈ us.flatMap sw, w.length <= 200 /\ 32 ∉ w.cps.toList /\ w ≠ "-" := fun w hw => by
 obtain ⟨u, hu, hw⟩ := List.mem_flatMap.mp hw
 refine ⟨Nat.le_trans (sw_len (h u hu) w hw) (by decide), ?_⟩
 rcases List.mem_cons.mp hw with rfl | hw
 ·rcases h u hu with ⟨h, _⟩ | ⟨h, _⟩
  ·rcases h with h | h | h <;> rw [h] <;> decide +kernel
  ·rw [h]; decide +kernel
 ·obtain ⟨n, hn, rfl⟩ := List.mem_map.mp hw
  exact dec_free n
abbrev spRLb : Sp := fun vs H Q _ => ∃ us : List Stp, vs = [.str (wtx (us.flatMap sw))] /\ (∀ u ∈ us, Good u) /\ us.length <= 300 /\ ∀ (l : Addr) (ts : List (Addr × Stp)) (H' : Hp), Same H H' -> H l = none -> H' l = some (.lst (ts.map fun u => .ref u.1)) -> (∀ u ∈ ts, H' u.1 = some (.tup (sv u.2))) -> ts.map (·.2) = us -> Q (.ref l) H'
@[irreducible] def spRL : Sp := spRLb
theorem spRL_def {vs : List V} {H : Hp} {Q : VK} {E : XK} : spRL vs H Q E ↔ spRLb vs H Q E := by
 delta spRL
 exact Iff.rfl
section
variable {P : Program} {w : World} {K : PySem.W.Frag} {mg : Str -> Option Value} {base : Heap} {f T : Addr} {fd : FuncData}
theorem scReadLog : FnScope ["thing", "words", "log", "at", "step"] ["thing"] (defScope sReadLog) := ⟨rfl, rfl, rfl, by decide +kernel, rfl, by decide +kernel, by decide +kernel⟩
theorem okReadLog (F : Fun K "read_log" "read_log" sReadLog f fd) (B : Blt mg) (cRowsWords : Cal P w K mg base 2 "rows_words" ["thing"] spRW) (cStepRead : Cal P w K mg base 2 "step_read" ["words", "at"] spSR) (C : Cst mg) : FnOk P w K mg base CX0 3 f fd ["thing"] spRL := by
 refine F.ok scReadLog (fun vs H Q E h => ?_) (fun cdv A outer s H vs Q E hr h => ?_)
 ·obtain ⟨_, rfl, _⟩ := spRL_def.mp h
  rfl
 obtain ⟨us, rfl, gu, l3, q⟩ := spRL_def.mp h
 obtain ⟨t_MOST_STEPS, w_MOST_STEPS⟩ := C.c_MOST_STEPS
 refine ⟨_, (@pss_cons _ _ _ _ _ (@ps_set _ _ 1 _ _ _ _ scReadLog.nd rfl (Or.inl rfl) (pe_cal cRowsWords hr (by decide) rfl (@pa_cons _ _ _ _ _ (pv 0) pa_nil rfl)) rfl (by first | exact .inl rfl | exact .inr rfl | assumption))
  (@pss_cons _ _ _ _ _ (@ps_set _ _ 2 _ _ _ _ scReadLog.nd rfl (Or.inl rfl) (@pe_lst _ _ _ _ pa_nil) rfl (by first | exact .inl rfl | exact .inr rfl | assumption))
  (@pss_cons _ _ _ _ _ (@ps_set _ _ 3 _ _ _ _ scReadLog.nd rfl (Or.inl rfl) pe_int rfl (by first | exact .inl rfl | exact .inr rfl | assumption))
  (@pss_cons _ _ _ _ _ (ps_while PassesOwn.never (pt_cmpR op_lt (pv 3) (pe_callB call_len_seq rfl B.b_len bt_len (@pa_cons _ _ _ _ _ (pv 1) pa_nil rfl)) (nomark _))
   (@pss_cons _ _ _ _ _ (@ps_if _ _ _ _ _ _ _ _ (pt_cmpR op_eq (pe_callB call_len_seq rfl B.b_len bt_len (@pa_cons _ _ _ _ _ (pv 2) pa_nil rfl)) (pe_glob (v := .int 300) rfl w_MOST_STEPS ⟨_, rfl⟩) (nomark _)) pss_never pss_nil)
   (@pss_cons _ _ _ _ _ (@ps_set _ _ 4 _ _ _ _ scReadLog.nd rfl (Or.inl rfl) (pe_cal cStepRead hr (by decide) rfl (@pa_cons _ _ _ _ _ (pv 1) (@pa_cons _ _ _ _ _ (pv 3) pa_nil rfl) rfl)) rfl (by first | exact .inl rfl | exact .inr rfl | assumption))
   (@pss_cons _ _ _ _ _ (ps_expr (pe_bm PySem.F.plainAttrs_list PySem.F.slot_list_append PySem.F.type_list_append mt_append (pv 2) (@pa_cons _ _ _ _ _ (pv 4) pa_nil rfl)))
   (@pss_one _ _ _ (ps_aug (i := 3) scReadLog.nd rfl (Or.inl rfl) (pe_callB call_len_seq rfl B.b_len bt_len (@pa_cons _ _ _ _ _ (pv 4) pa_nil rfl)) ip_add))))))
  (@pss_one _ _ _ (@ps_ret _ _ _ _ (pv 2))))))), ?_⟩
 have fl := flat_len gu
 refine ⟨_, rfl, spRW_def.mpr ⟨us.flatMap sw, rfl, word_ok gu, by omega, fun l H1 s1 hl el => ?_⟩⟩
 refine ⟨(by show 0 <= sizeLine; decide), fun lp hlp => ?_⟩
 have s2 := same_new hlp (.lst [])
 have elp : upd H1 lp (.lst []) lp = some (.lst []) := upd_same
 have el2 := s2 _ _ el
 have s12 := s1.trans s2
 have nl : l ≠ lp := fun z => by rw [z, hlp] at el; cases el
 have hlp0 := s1.free hlp
 generalize upd H1 lp (.lst []) = H2 at s2 elp el2 s12
 refine gname_on ?_
 dsimp only
 refine seq_on ?_
 refine while_by (fun σ H' => ∃ (j : Nat) (ts : List (Addr × Stp)) (c4 : Option V), σ = [some (.str (wtx (us.flatMap sw))), some (.ref l), some (.ref lp), some (.int ((((us.take j).flatMap sw).length : Nat) : Int)), c4] /\ j <= us.length /\ (∀ q o, q ≠ lp -> H2 q = some o -> H' q = some o) /\ H' lp = some (.lst (ts.map fun u => .ref u.1)) /\ (∀ u ∈ ts, H' u.1 = some (.tup (sv u.2))) /\ ts.map (·.2) = us.take j) (fun σ _ => match σ with | [_, _, _, some (.int a), _] => 1000 - a.toNat | _ => 0) ⟨0, [], _, rfl, Nat.zero_le _, fun q o _ e => e, elp, (fun u h => nomatch h), rfl⟩ ?_ ?_
 ·rintro σ H3 ⟨j, ts, c4, rfl, hj, k3, el3, tt, et⟩
  have elw := k3 _ _ nl el2
  have lts : ts.length = j := by
   have := congrArg List.length et
   rw [List.length_map, List.length_take] at this
   omega
  refine ⟨_, rfl, _, rfl, l, _, rfl, .inl (SqL.of elw), _, _, rfl, rfl, _, rfl, ite2 (fun z => ?_) fun z => ?_⟩
  ·have z := of_decide_eq_true z
   rw [List.length_map] at z
   have jl : j < us.length := by
    rcases Nat.lt_or_ge j us.length with h | h
    ·exact h
    ·rw [List.take_of_length_le h] at z
     exact absurd z (Int.lt_irrefl _)
   obtain ⟨u, eu⟩ : ∃ u, us[j]? = some u := ⟨_, List.getElem?_eq_getElem jl⟩
   have gj := gu u (List.mem_of_getElem? eu)
   have hd : (us.flatMap sw).drop ((us.take j).flatMap sw).length = sw u ++ (us.drop (j + 1)).flatMap sw := by
    rw [flat_drop, List.drop_eq_getElem_cons jl, List.flatMap_cons]
    rw [List.getElem?_eq_getElem jl] at eu
    rw [Option.some.inj eu]
   have at1 : ((us.take (j + 1)).flatMap sw).length = ((us.take j).flatMap sw).length + (sw u).length := by
    rw [List.take_add_one, eu, List.flatMap_append, List.length_append]
    show _ + ([u].flatMap sw).length = _
    rw [List.flatMap_cons, List.flatMap_nil, List.append_nil]
   refine ⟨_, rfl, lp, _, rfl, .inl (SqL.of el3), rfl, _, rfl, ?_⟩
   rw [decide_eq_false fun y => by
    have := V.int.inj y
    rw [List.length_map] at this
    omega]
   refine iteF ⟨_, rfl, _, rfl, spSR_def.mpr ⟨l, _, _, u, _, rfl, elw, gj, hd, by omega, fun t H4 s4 ht et4 => ?_⟩⟩
   have el4 := s4 _ _ el3
   have nt : t ≠ lp := fun z => by rw [z, el3] at ht; cases ht
   refine ⟨_, rfl, .inl ⟨rfl, _, SqL.of el4⟩, _, rfl, lp, _, _, rfl, rfl, el4, ?_, ?_⟩
   ·rw [List.length_map]; exact small5 (by omega)
   have et5 : upd H4 lp (.lst ((ts.map fun u => V.ref u.1) ++ [.ref t])) t = some (.tup (sv u)) := by rw [upd_ne nt]; exact et4
   refine ⟨_, rfl, _, rfl, t, _, rfl, .inr (SqT.of et5), _, _, rfl, rfl, ⟨j + 1, ts ++ [(t, u)], some (.ref t), ?_, jl, fun q o nq e => by rw [upd_ne nq]; exact s4 _ _ (k3 q o nq e), by rw [upd_same, List.map_append]; rfl, fun v hv => ?_, ?_⟩, ?_⟩
   ·rw [at1, sv_len, Int.natCast_add]; rfl
   ·rcases List.mem_append.mp hv with y | y
    ·have e := s4 _ _ (tt v y)
     rw [upd_ne (ne_of e el4 nofun)]; exact e
    ·rw [List.mem_singleton.mp y]; exact et5
   ·rw [List.map_append, et, List.take_add_one, eu]; rfl
   ·show 1000 - ((((us.take j).flatMap sw).length : Int) + ((sv u).length : Nat)).toNat < 1000 - ((((us.take j).flatMap sw).length : Nat) : Int).toNat
    have p := sw_pos u
    rw [<- sv_len] at p
    omega
  ·have jl : j = us.length := by
    apply Classical.byContradiction
    intro h
    have jl : j < us.length := by omega
    apply z
    apply decide_eq_true
    rw [List.length_map, flat_split us j, List.length_append, List.drop_eq_getElem_cons jl, List.flatMap_cons, List.length_append]
    have := sw_pos us[j]
    omega
   subst jl
   rw [List.take_length] at et
   exact ⟨_, rfl, q lp ts H3 (fun q o e => k3 q o (ne_of_none e hlp0) (s12 _ _ e)) hlp0 el3 tt et⟩
 ·rintro σ H Q Q' h ⟨v, e, w, e', p, xs, h1, h2, i, j, h3, h4, b, h5, y⟩
  exact ⟨v, e, w, e', p, xs, h1, h2, i, j, h3, h4, b, h5, h _ _ y⟩
end
end K80
set_option Elab.async false
set_option linter.all false
set_option maxRecDepth 100000
set_option maxHeartbeats 800000
namespace K80
open PySem L2
def SameD (H : Hp) : Nat -> V -> V -> Prop
 | 0, x, y => (∃ z : Str, x = .str z /\ y = .str z) \/ ∃ i : Int, x = .int i /\ y = .int i
 | n + 1, x, y => (∃ z : Str, x = .str z /\ y = .str z) \/ (∃ i : Int, x = .int i /\ y = .int i) \/ ∃ (a b : Addr) (xs ys : List V), x = .ref a /\ y = .ref b /\ ((H a = some (.tup xs) /\ H b = some (.tup ys)) \/ (H a = some (.lst xs) /\ H b = some (.lst ys))) /\ xs.length = ys.length /\ xs.length <= 300 /\ ∀ (i : Nat) (u v : V), xs[i]? = some u -> ys[i]? = some v -> SameD H n u v
theorem SameD.same {H H' : Hp} (s : Same H H') : ∀ {n : Nat} {x y : V}, SameD H n x y -> SameD H' n x y
 | 0, _, _, h => h
 | n + 1, _, _, h => by
  rcases h with h | h | ⟨a, b, xs, ys, rfl, rfl, e, l1, l2, h⟩
  ·exact .inl h
  ·exact .inr (.inl h)
  ·exact .inr (.inr ⟨a, b, xs, ys, rfl, rfl, e.imp (fun e => ⟨s _ _ e.1, s _ _ e.2⟩) (fun e => ⟨s _ _ e.1, s _ _ e.2⟩), l1, l2, fun i u v hu hv => SameD.same s (h i u v hu hv)⟩)
@[irreducible] def spS : Nat -> Sp
 | 0 => fun _ _ _ _ => False
 | n + 1 => fun vs H Q _ => ∃ x y : V, vs = [x, y] /\ SameD H n x y /\ ∀ H', Same H H' -> Q (.bl true) H'
theorem spS_def {n : Nat} {vs : List V} {H : Hp} {Q : VK} {E : XK} : spS (n + 1) vs H Q E ↔ ∃ x y : V, vs = [x, y] /\ SameD H n x y /\ ∀ H', Same H H' -> Q (.bl true) H' := by
 unfold spS
 exact Iff.rfl
theorem spS_no {vs : List V} {H : Hp} {Q : VK} {E : XK} : ¬ spS 0 vs H Q E := by
 unfold spS
 exact id
section
variable {P : Program} {w : World} {K : PySem.W.Frag} {mg : Str -> Option Value} {base : Heap} {f T : Addr} {fd : FuncData}
theorem scLSame : FnScope ["found", "due"] ["found", "due"] (defScope sLSame) := ⟨rfl, rfl, rfl, by decide +kernel, rfl, by decide +kernel, by decide +kernel⟩
theorem ndLSame_one_other : (["one", "other"] : List Str).Nodup := by decide +kernel
theorem okLSame (F : Fun K "_law_same" "_law_same" sLSame f fd) (B : Blt mg) (n : Nat) (cLSame : Cal P w K mg base n "_law_same" ["found", "due"] (spS n)) (C : Cst mg) : FnOk P w K mg base CX0 (n + 1) f fd ["found", "due"] (spS (n + 1)) := by
 refine F.ok scLSame (fun vs H Q E h => ?_) (fun cdv A outer s H vs Q E hr h => ?_)
 ·obtain ⟨_, _, rfl, _⟩ := spS_def.mp h
  rfl
 obtain ⟨x, y, rfl, sd, q⟩ := spS_def.mp h
 have S : (∃ z : Str, x = .str z /\ y = .str z) \/ (∃ i : Int, x = .int i /\ y = .int i) \/ ∃ k, n = k + 1 /\ ∃ (a b : Addr) (xs ys : List V), x = .ref a /\ y = .ref b /\ ((H a = some (.tup xs) /\ H b = some (.tup ys)) \/ (H a = some (.lst xs) /\ H b = some (.lst ys))) /\ xs.length = ys.length /\ xs.length <= 300 /\ ∀ (i : Nat) (u v : V), xs[i]? = some u -> ys[i]? = some v -> SameD H k u v := by
  cases n with
  | zero => exact sd.imp id .inl
  | succ k => exact sd.imp id fun h => h.imp id fun h => ⟨k, rfl, h⟩
 rcases S with ⟨z, rfl, rfl⟩ | ⟨i, rfl, rfl⟩ | ⟨k, rfl, a, b, xs, ys, rfl, rfl, ⟨ea, eb⟩ | ⟨ea, eb⟩, l1, l3, hs⟩
 ·refine ⟨_, (@pss_cons _ _ _ _ _ (@ps_if _ _ _ _ _ _ _ _ (pt_val (pe_callB call_isinstT rfl B.b_isinstance bt_isinstance (@pa_cons _ _ _ _ _ (pv 1) (@pa_cons _ _ _ _ _ (@pe_tup _ _ _ _ _ (@pa_cons _ _ _ _ _ (pe_bltn (v := .ty "tuple") rfl B.b_tuple bt_tuple rfl) (@pa_cons _ _ _ _ _ (pe_bltn (v := .ty "list") rfl B.b_list bt_list rfl) pa_nil rfl) rfl)) pa_nil rfl) rfl))) (@pss_cons _ _ _ _ _ (@ps_if _ _ _ _ _ _ _ _ (PW.pt (pw_or (pt_cmpR op_ne (pe_callB call_isinst rfl B.b_isinstance bt_isinstance (@pa_cons _ _ _ _ _ (pv 0) (@pa_cons _ _ _ _ _ (pe_bltn (v := .ty "tuple") rfl B.b_tuple bt_tuple rfl) pa_nil rfl) rfl)) (pe_callB call_isinst rfl B.b_isinstance bt_isinstance (@pa_cons _ _ _ _ _ (pv 1) (@pa_cons _ _ _ _ _ (pe_bltn (v := .ty "tuple") rfl B.b_tuple bt_tuple rfl) pa_nil rfl) rfl)) (nomark _)) (pw_or1 (pt_not (pt_val (pe_callB call_isinstT rfl B.b_isinstance bt_isinstance (@pa_cons _ _ _ _ _ (pv 0) (@pa_cons _ _ _ _ _ (@pe_tup _ _ _ _ _ (@pa_cons _ _ _ _ _ (pe_bltn (v := .ty "tuple") rfl B.b_tuple bt_tuple rfl) (@pa_cons _ _ _ _ _ (pe_bltn (v := .ty "list") rfl B.b_list bt_list rfl) pa_nil rfl) rfl)) pa_nil rfl) rfl))))))) pss_never pss_nil)
   (@pss_one _ _ _ (@ps_ret _ _ _ _ (pe_and (pe_cmpR op_eq (pe_callB call_len_seq rfl B.b_len bt_len (@pa_cons _ _ _ _ _ (pv 0) pa_nil rfl)) (pe_callB call_len_seq rfl B.b_len bt_len (@pa_cons _ _ _ _ _ (pv 1) pa_nil rfl)) (nomark _)) (pe_one (pe_callB (call_all rfl) rfl B.b_all bt_all (@pa_cons _ _ _ _ _ (pe_comp ["one", "other"] [none, none] rfl (pi_zipB false false rfl B.b_zip (@pa_cons _ _ _ _ _ (pv 0) (@pa_cons _ _ _ _ _ (pv 1) pa_nil rfl) rfl)) rfl (fun _ _ _ _ _ => (pg_pairK (K := K) (i := 0) (j := 1) ndLSame_one_other rfl rfl (Or.inl rfl) (Or.inl rfl))) (fun _ _ _ _ _ => pf_nil) (fun _ _ _ _ _ => (pe_cal cLSame hr (Nat.le_refl _) rfl (@pa_cons _ _ _ _ _ (pv 0) (@pa_cons _ _ _ _ _ (pv 1) pa_nil rfl) rfl)))) pa_nil rfl))))))) pss_nil)
  (@pss_cons _ _ _ _ _ (@ps_if _ _ _ _ _ _ _ _ (pt_val (pe_callB call_isinst rfl B.b_isinstance bt_isinstance (@pa_cons _ _ _ _ _ (pv 1) (@pa_cons _ _ _ _ _ (pe_bltn (v := .ty "str") rfl B.b_str bt_str rfl) pa_nil rfl) rfl))) (@pss_one _ _ _ (@ps_ret _ _ _ _ (pe_and (pe_callB call_isinst rfl B.b_isinstance bt_isinstance (@pa_cons _ _ _ _ _ (pv 0) (@pa_cons _ _ _ _ _ (pe_bltn (v := .ty "str") rfl B.b_str bt_str rfl) pa_nil rfl) rfl)) (pe_one (pe_cmpR op_eq (pv 0) (pv 1) (nomark _)))))) pss_nil)
  (@pss_one _ _ _ (@ps_ret _ _ _ _ (pe_and (pe_callB call_isinst rfl B.b_isinstance bt_isinstance (@pa_cons _ _ _ _ _ (pv 0) (@pa_cons _ _ _ _ _ (pe_bltn (v := .ty "int") rfl B.b_int bt_int rfl) pa_nil rfl) rfl)) (pe_and (pe_not (pe_callB call_isinst rfl B.b_isinstance bt_isinstance (@pa_cons _ _ _ _ _ (pv 0) (@pa_cons _ _ _ _ _ (pe_bltn (v := .ty "bool") rfl B.b_bool bt_bool rfl) pa_nil rfl) rfl))) (pe_one (pe_cmpR op_eq (pv 0) (pv 1) (nomark _))))))))), ?_⟩
  refine ⟨_, rfl, (by show 2 <= sizeLine; decide), fun tp htp => ⟨.str z, tp, ["tuple", "list"], _, false, rfl, SqT.of upd_same, .str z, (fun _ _ _ _ _ h => by cases h), rfl, _, rfl, iteF ?_⟩⟩
  have g1 := same_new htp (.tup [.ty "tuple", .ty "list"])
  refine ⟨_, rfl, .str z, "str", _, true, rfl, .str z, rfl, _, rfl, iteT ?_⟩
  refine ⟨_, rfl, .str z, "str", _, true, rfl, .str z, rfl, _, rfl, iteT ?_⟩
  refine ⟨_, rfl, _, rfl, rfl, ?_⟩
  rw [decide_eq_true (rfl : V.str z = V.str z)]
  exact q _ g1
 ·refine ⟨_, (@pss_cons _ _ _ _ _ (@ps_if _ _ _ _ _ _ _ _ (pt_val (pe_callB call_isinstT rfl B.b_isinstance bt_isinstance (@pa_cons _ _ _ _ _ (pv 1) (@pa_cons _ _ _ _ _ (@pe_tup _ _ _ _ _ (@pa_cons _ _ _ _ _ (pe_bltn (v := .ty "tuple") rfl B.b_tuple bt_tuple rfl) (@pa_cons _ _ _ _ _ (pe_bltn (v := .ty "list") rfl B.b_list bt_list rfl) pa_nil rfl) rfl)) pa_nil rfl) rfl))) (@pss_cons _ _ _ _ _ (@ps_if _ _ _ _ _ _ _ _ (PW.pt (pw_or (pt_cmpR op_ne (pe_callB call_isinst rfl B.b_isinstance bt_isinstance (@pa_cons _ _ _ _ _ (pv 0) (@pa_cons _ _ _ _ _ (pe_bltn (v := .ty "tuple") rfl B.b_tuple bt_tuple rfl) pa_nil rfl) rfl)) (pe_callB call_isinst rfl B.b_isinstance bt_isinstance (@pa_cons _ _ _ _ _ (pv 1) (@pa_cons _ _ _ _ _ (pe_bltn (v := .ty "tuple") rfl B.b_tuple bt_tuple rfl) pa_nil rfl) rfl)) (nomark _)) (pw_or1 (pt_not (pt_val (pe_callB call_isinstT rfl B.b_isinstance bt_isinstance (@pa_cons _ _ _ _ _ (pv 0) (@pa_cons _ _ _ _ _ (@pe_tup _ _ _ _ _ (@pa_cons _ _ _ _ _ (pe_bltn (v := .ty "tuple") rfl B.b_tuple bt_tuple rfl) (@pa_cons _ _ _ _ _ (pe_bltn (v := .ty "list") rfl B.b_list bt_list rfl) pa_nil rfl) rfl)) pa_nil rfl) rfl))))))) pss_never pss_nil)
   (@pss_one _ _ _ (@ps_ret _ _ _ _ (pe_and (pe_cmpR op_eq (pe_callB call_len_seq rfl B.b_len bt_len (@pa_cons _ _ _ _ _ (pv 0) pa_nil rfl)) (pe_callB call_len_seq rfl B.b_len bt_len (@pa_cons _ _ _ _ _ (pv 1) pa_nil rfl)) (nomark _)) (pe_one (pe_callB (call_all rfl) rfl B.b_all bt_all (@pa_cons _ _ _ _ _ (pe_comp ["one", "other"] [none, none] rfl (pi_zipB false false rfl B.b_zip (@pa_cons _ _ _ _ _ (pv 0) (@pa_cons _ _ _ _ _ (pv 1) pa_nil rfl) rfl)) rfl (fun _ _ _ _ _ => (pg_pairK (K := K) (i := 0) (j := 1) ndLSame_one_other rfl rfl (Or.inl rfl) (Or.inl rfl))) (fun _ _ _ _ _ => pf_nil) (fun _ _ _ _ _ => (pe_cal cLSame hr (Nat.le_refl _) rfl (@pa_cons _ _ _ _ _ (pv 0) (@pa_cons _ _ _ _ _ (pv 1) pa_nil rfl) rfl)))) pa_nil rfl))))))) pss_nil)
  (@pss_cons _ _ _ _ _ (@ps_if _ _ _ _ _ _ _ _ (pt_val (pe_callB call_isinst rfl B.b_isinstance bt_isinstance (@pa_cons _ _ _ _ _ (pv 1) (@pa_cons _ _ _ _ _ (pe_bltn (v := .ty "str") rfl B.b_str bt_str rfl) pa_nil rfl) rfl))) (@pss_one _ _ _ (@ps_ret _ _ _ _ (pe_and (pe_callB call_isinst rfl B.b_isinstance bt_isinstance (@pa_cons _ _ _ _ _ (pv 0) (@pa_cons _ _ _ _ _ (pe_bltn (v := .ty "str") rfl B.b_str bt_str rfl) pa_nil rfl) rfl)) (pe_one (pe_cmpR op_eq (pv 0) (pv 1) (nomark _)))))) pss_nil)
  (@pss_one _ _ _ (@ps_ret _ _ _ _ (pe_and (pe_callB call_isinst rfl B.b_isinstance bt_isinstance (@pa_cons _ _ _ _ _ (pv 0) (@pa_cons _ _ _ _ _ (pe_bltn (v := .ty "int") rfl B.b_int bt_int rfl) pa_nil rfl) rfl)) (pe_and (pe_not (pe_callB call_isinst rfl B.b_isinstance bt_isinstance (@pa_cons _ _ _ _ _ (pv 0) (@pa_cons _ _ _ _ _ (pe_bltn (v := .ty "bool") rfl B.b_bool bt_bool rfl) pa_nil rfl) rfl))) (pe_one (pe_cmpR op_eq (pv 0) (pv 1) (nomark _))))))))), ?_⟩
  refine ⟨_, rfl, (by show 2 <= sizeLine; decide), fun tp htp => ⟨.int i, tp, ["tuple", "list"], _, false, rfl, SqT.of upd_same, .int i, (fun _ _ _ _ _ h => by cases h), rfl, _, rfl, iteF ?_⟩⟩
  have g1 := same_new htp (.tup [.ty "tuple", .ty "list"])
  refine ⟨_, rfl, .int i, "str", _, false, rfl, .int i, rfl, _, rfl, iteF ?_⟩
  refine ⟨_, rfl, .int i, "int", _, true, rfl, .int i, rfl, _, rfl, iteT ?_⟩
  refine ⟨_, rfl, .int i, "bool", _, false, rfl, .int i, rfl, _, rfl, _, rfl, iteT ?_⟩
  refine ⟨_, rfl, _, rfl, rfl, ?_⟩
  rw [decide_eq_true (rfl : V.int i = V.int i)]
  exact q _ g1
 ·refine ⟨_, (@pss_cons _ _ _ _ _ (@ps_if _ _ _ _ _ _ _ _ (pt_val (pe_callB call_isinstT rfl B.b_isinstance bt_isinstance (@pa_cons _ _ _ _ _ (pv 1) (@pa_cons _ _ _ _ _ (@pe_tup _ _ _ _ _ (@pa_cons _ _ _ _ _ (pe_bltn (v := .ty "tuple") rfl B.b_tuple bt_tuple rfl) (@pa_cons _ _ _ _ _ (pe_bltn (v := .ty "list") rfl B.b_list bt_list rfl) pa_nil rfl) rfl)) pa_nil rfl) rfl))) (@pss_cons _ _ _ _ _ (@ps_if _ _ _ _ _ _ _ _ (PW.pt (pw_or (pt_cmpR op_ne (pe_callB call_isinst rfl B.b_isinstance bt_isinstance (@pa_cons _ _ _ _ _ (pv 0) (@pa_cons _ _ _ _ _ (pe_bltn (v := .ty "tuple") rfl B.b_tuple bt_tuple rfl) pa_nil rfl) rfl)) (pe_callB call_isinst rfl B.b_isinstance bt_isinstance (@pa_cons _ _ _ _ _ (pv 1) (@pa_cons _ _ _ _ _ (pe_bltn (v := .ty "tuple") rfl B.b_tuple bt_tuple rfl) pa_nil rfl) rfl)) (nomark _)) (pw_or1 (pt_not (pt_val (pe_callB call_isinstT rfl B.b_isinstance bt_isinstance (@pa_cons _ _ _ _ _ (pv 0) (@pa_cons _ _ _ _ _ (@pe_tup _ _ _ _ _ (@pa_cons _ _ _ _ _ (pe_bltn (v := .ty "tuple") rfl B.b_tuple bt_tuple rfl) (@pa_cons _ _ _ _ _ (pe_bltn (v := .ty "list") rfl B.b_list bt_list rfl) pa_nil rfl) rfl)) pa_nil rfl) rfl))))))) pss_never pss_nil)
   (@pss_one _ _ _ (@ps_ret _ _ _ _ (pe_and (pe_cmpR op_eq (pe_callB call_len_seq rfl B.b_len bt_len (@pa_cons _ _ _ _ _ (pv 0) pa_nil rfl)) (pe_callB call_len_seq rfl B.b_len bt_len (@pa_cons _ _ _ _ _ (pv 1) pa_nil rfl)) (nomark _)) (pe_one (pe_callB (call_all rfl) rfl B.b_all bt_all (@pa_cons _ _ _ _ _ (pe_comp ["one", "other"] [none, none] rfl (pi_zipB false false rfl B.b_zip (@pa_cons _ _ _ _ _ (pv 0) (@pa_cons _ _ _ _ _ (pv 1) pa_nil rfl) rfl)) rfl (fun _ _ _ _ _ => (pg_pairK (K := K) (i := 0) (j := 1) ndLSame_one_other rfl rfl (Or.inl rfl) (Or.inl rfl))) (fun _ _ _ _ _ => pf_nil) (fun _ _ _ _ _ => (pe_cal cLSame hr (Nat.le_refl _) rfl (@pa_cons _ _ _ _ _ (pv 0) (@pa_cons _ _ _ _ _ (pv 1) pa_nil rfl) rfl)))) pa_nil rfl))))))) pss_nil)
  (@pss_cons _ _ _ _ _ (@ps_if _ _ _ _ _ _ _ _ (pt_val (pe_callB call_isinst rfl B.b_isinstance bt_isinstance (@pa_cons _ _ _ _ _ (pv 1) (@pa_cons _ _ _ _ _ (pe_bltn (v := .ty "str") rfl B.b_str bt_str rfl) pa_nil rfl) rfl))) (@pss_one _ _ _ (@ps_ret _ _ _ _ (pe_and (pe_callB call_isinst rfl B.b_isinstance bt_isinstance (@pa_cons _ _ _ _ _ (pv 0) (@pa_cons _ _ _ _ _ (pe_bltn (v := .ty "str") rfl B.b_str bt_str rfl) pa_nil rfl) rfl)) (pe_one (pe_cmpR op_eq (pv 0) (pv 1) (nomark _)))))) pss_nil)
  (@pss_one _ _ _ (@ps_ret _ _ _ _ (pe_and (pe_callB call_isinst rfl B.b_isinstance bt_isinstance (@pa_cons _ _ _ _ _ (pv 0) (@pa_cons _ _ _ _ _ (pe_bltn (v := .ty "int") rfl B.b_int bt_int rfl) pa_nil rfl) rfl)) (pe_and (pe_not (pe_callB call_isinst rfl B.b_isinstance bt_isinstance (@pa_cons _ _ _ _ _ (pv 0) (@pa_cons _ _ _ _ _ (pe_bltn (v := .ty "bool") rfl B.b_bool bt_bool rfl) pa_nil rfl) rfl))) (pe_one (pe_cmpR op_eq (pv 0) (pv 1) (nomark _))))))))), ?_⟩
  refine ⟨_, rfl, (by show 2 <= sizeLine; decide), fun tp htp => ⟨.ref b, tp, ["tuple", "list"], _, true, rfl, SqT.of upd_same, .tup ((same_new htp _) _ _ eb), (fun c C dx fs e h => by cases h; rw [(same_new htp _) _ _ eb] at e; cases e), rfl, _, rfl, iteT ?_⟩⟩
  have g1 := same_new htp (.tup [.ty "tuple", .ty "list"])
  have ea1 := g1 _ _ ea
  have eb1 := g1 _ _ eb
  generalize upd H tp (.tup [.ty "tuple", .ty "list"]) = H1 at g1 ea1 eb1
  refine ⟨_, rfl, .ref a, "tuple", _, true, rfl, .tup ea1, rfl, _, rfl, .ref b, "tuple", _, true, rfl, .tup eb1, rfl, rfl, _, rfl, iteF ?_⟩
  refine ⟨_, rfl, (by show 2 <= sizeLine; decide), fun tq htq => ⟨.ref a, tq, ["tuple", "list"], _, true, rfl, SqT.of upd_same, .tup ((same_new htq _) _ _ ea1), (fun c C dx fs e h => by cases h; rw [(same_new htq _) _ _ ea1] at e; cases e), rfl, _, rfl, iteF ?_⟩⟩
  have g2 := same_new htq (.tup [.ty "tuple", .ty "list"])
  have ea2 := g2 _ _ ea1
  have eb2 := g2 _ _ eb1
  have s2 := g1.trans g2
  generalize upd H1 tq (.tup [.ty "tuple", .ty "list"]) = H2 at g2 ea2 eb2 s2
  refine ⟨_, rfl, a, _, rfl, .inr (SqT.of ea2), _, rfl, b, _, rfl, .inr (SqT.of eb2), rfl, _, rfl, ?_⟩
  rw [decide_eq_true (by rw [l1])]
  have al : ∀ j : Nat, (List.replicate j true).all id = true := fun j => by simp
  refine iteT ⟨_, rfl, _, rfl, a, b, rfl, ⟨_, SqT.of ea2⟩, ⟨_, SqT.of eb2⟩, compZ xs.length (Nat.le_refl _) (by omega) (.inl rfl) (fun i zs H' => Same H2 H' /\ zs = (List.replicate i true).map V.bl) (by decide) ⟨Same.refl _, rfl⟩ (small (by omega)) (fun i zs H' _ k => ⟨SqT.of (k.1 _ _ ea2), SqT.of (k.1 _ _ eb2)⟩) ?_ ?_⟩
  ·rintro i u v zs H' T' hu hv lz hT' ⟨s', rfl⟩ R1 R0 r1 r0
   have sT := s'.trans (same_new hT' (.tup [u, v]))
   refine iteT ⟨_, rfl, _, rfl, (spS_def (E := E0)).mpr ⟨u, v, rfl, (hs i u v hu hv).same (s2.trans sT), fun H5 s5 => r1 _ _ ⟨sT.trans s5, ?_⟩⟩⟩
   rw [List.replicate_succ', List.map_append]; rfl
  ·rintro zs H' lz ⟨s', rfl⟩ c5 hc5
   refine ⟨c5, _, rfl, SqL.of upd_same, ?_⟩
   rw [al]
   exact q _ (s2.trans (s'.trans (same_new hc5 _)))
 ·refine ⟨_, (@pss_cons _ _ _ _ _ (@ps_if _ _ _ _ _ _ _ _ (pt_val (pe_callB call_isinstT rfl B.b_isinstance bt_isinstance (@pa_cons _ _ _ _ _ (pv 1) (@pa_cons _ _ _ _ _ (@pe_tup _ _ _ _ _ (@pa_cons _ _ _ _ _ (pe_bltn (v := .ty "tuple") rfl B.b_tuple bt_tuple rfl) (@pa_cons _ _ _ _ _ (pe_bltn (v := .ty "list") rfl B.b_list bt_list rfl) pa_nil rfl) rfl)) pa_nil rfl) rfl))) (@pss_cons _ _ _ _ _ (@ps_if _ _ _ _ _ _ _ _ (PW.pt (pw_or (pt_cmpR op_ne (pe_callB call_isinst rfl B.b_isinstance bt_isinstance (@pa_cons _ _ _ _ _ (pv 0) (@pa_cons _ _ _ _ _ (pe_bltn (v := .ty "tuple") rfl B.b_tuple bt_tuple rfl) pa_nil rfl) rfl)) (pe_callB call_isinst rfl B.b_isinstance bt_isinstance (@pa_cons _ _ _ _ _ (pv 1) (@pa_cons _ _ _ _ _ (pe_bltn (v := .ty "tuple") rfl B.b_tuple bt_tuple rfl) pa_nil rfl) rfl)) (nomark _)) (pw_or1 (pt_not (pt_val (pe_callB call_isinstT rfl B.b_isinstance bt_isinstance (@pa_cons _ _ _ _ _ (pv 0) (@pa_cons _ _ _ _ _ (@pe_tup _ _ _ _ _ (@pa_cons _ _ _ _ _ (pe_bltn (v := .ty "tuple") rfl B.b_tuple bt_tuple rfl) (@pa_cons _ _ _ _ _ (pe_bltn (v := .ty "list") rfl B.b_list bt_list rfl) pa_nil rfl) rfl)) pa_nil rfl) rfl))))))) pss_never pss_nil)
   (@pss_one _ _ _ (@ps_ret _ _ _ _ (pe_and (pe_cmpR op_eq (pe_callB call_len_seq rfl B.b_len bt_len (@pa_cons _ _ _ _ _ (pv 0) pa_nil rfl)) (pe_callB call_len_seq rfl B.b_len bt_len (@pa_cons _ _ _ _ _ (pv 1) pa_nil rfl)) (nomark _)) (pe_one (pe_callB (call_all rfl) rfl B.b_all bt_all (@pa_cons _ _ _ _ _ (pe_comp ["one", "other"] [none, none] rfl (pi_zipB true true rfl B.b_zip (@pa_cons _ _ _ _ _ (pv 0) (@pa_cons _ _ _ _ _ (pv 1) pa_nil rfl) rfl)) rfl (fun _ _ _ _ _ => (pg_pairK (K := K) (i := 0) (j := 1) ndLSame_one_other rfl rfl (Or.inl rfl) (Or.inl rfl))) (fun _ _ _ _ _ => pf_nil) (fun _ _ _ _ _ => (pe_cal cLSame hr (Nat.le_refl _) rfl (@pa_cons _ _ _ _ _ (pv 0) (@pa_cons _ _ _ _ _ (pv 1) pa_nil rfl) rfl)))) pa_nil rfl))))))) pss_nil)
  (@pss_cons _ _ _ _ _ (@ps_if _ _ _ _ _ _ _ _ (pt_val (pe_callB call_isinst rfl B.b_isinstance bt_isinstance (@pa_cons _ _ _ _ _ (pv 1) (@pa_cons _ _ _ _ _ (pe_bltn (v := .ty "str") rfl B.b_str bt_str rfl) pa_nil rfl) rfl))) (@pss_one _ _ _ (@ps_ret _ _ _ _ (pe_and (pe_callB call_isinst rfl B.b_isinstance bt_isinstance (@pa_cons _ _ _ _ _ (pv 0) (@pa_cons _ _ _ _ _ (pe_bltn (v := .ty "str") rfl B.b_str bt_str rfl) pa_nil rfl) rfl)) (pe_one (pe_cmpR op_eq (pv 0) (pv 1) (nomark _)))))) pss_nil)
  (@pss_one _ _ _ (@ps_ret _ _ _ _ (pe_and (pe_callB call_isinst rfl B.b_isinstance bt_isinstance (@pa_cons _ _ _ _ _ (pv 0) (@pa_cons _ _ _ _ _ (pe_bltn (v := .ty "int") rfl B.b_int bt_int rfl) pa_nil rfl) rfl)) (pe_and (pe_not (pe_callB call_isinst rfl B.b_isinstance bt_isinstance (@pa_cons _ _ _ _ _ (pv 0) (@pa_cons _ _ _ _ _ (pe_bltn (v := .ty "bool") rfl B.b_bool bt_bool rfl) pa_nil rfl) rfl))) (pe_one (pe_cmpR op_eq (pv 0) (pv 1) (nomark _))))))))), ?_⟩
  refine ⟨_, rfl, (by show 2 <= sizeLine; decide), fun tp htp => ⟨.ref b, tp, ["tuple", "list"], _, true, rfl, SqT.of upd_same, .lst ((same_new htp _) _ _ eb), (fun c C dx fs e h => by cases h; rw [(same_new htp _) _ _ eb] at e; cases e), rfl, _, rfl, iteT ?_⟩⟩
  have g1 := same_new htp (.tup [.ty "tuple", .ty "list"])
  have ea1 := g1 _ _ ea
  have eb1 := g1 _ _ eb
  generalize upd H tp (.tup [.ty "tuple", .ty "list"]) = H1 at g1 ea1 eb1
  refine ⟨_, rfl, .ref a, "tuple", _, false, rfl, .lst ea1, rfl, _, rfl, .ref b, "tuple", _, false, rfl, .lst eb1, rfl, rfl, _, rfl, iteF ?_⟩
  refine ⟨_, rfl, (by show 2 <= sizeLine; decide), fun tq htq => ⟨.ref a, tq, ["tuple", "list"], _, true, rfl, SqT.of upd_same, .lst ((same_new htq _) _ _ ea1), (fun c C dx fs e h => by cases h; rw [(same_new htq _) _ _ ea1] at e; cases e), rfl, _, rfl, iteF ?_⟩⟩
  have g2 := same_new htq (.tup [.ty "tuple", .ty "list"])
  have ea2 := g2 _ _ ea1
  have eb2 := g2 _ _ eb1
  have s2 := g1.trans g2
  generalize upd H1 tq (.tup [.ty "tuple", .ty "list"]) = H2 at g2 ea2 eb2 s2
  refine ⟨_, rfl, a, _, rfl, .inl (SqL.of ea2), _, rfl, b, _, rfl, .inl (SqL.of eb2), rfl, _, rfl, ?_⟩
  rw [decide_eq_true (by rw [l1])]
  have al : ∀ j : Nat, (List.replicate j true).all id = true := fun j => by simp
  refine iteT ⟨_, rfl, _, rfl, a, b, rfl, ⟨_, SqL.of ea2⟩, ⟨_, SqL.of eb2⟩, compZ xs.length (Nat.le_refl _) (by omega) (.inl rfl) (fun i zs H' => Same H2 H' /\ zs = (List.replicate i true).map V.bl) (by decide) ⟨Same.refl _, rfl⟩ (small (by omega)) (fun i zs H' _ k => ⟨SqL.of (k.1 _ _ ea2), SqL.of (k.1 _ _ eb2)⟩) ?_ ?_⟩
  ·rintro i u v zs H' T' hu hv lz hT' ⟨s', rfl⟩ R1 R0 r1 r0
   have sT := s'.trans (same_new hT' (.tup [u, v]))
   refine iteT ⟨_, rfl, _, rfl, (spS_def (E := E0)).mpr ⟨u, v, rfl, (hs i u v hu hv).same (s2.trans sT), fun H5 s5 => r1 _ _ ⟨sT.trans s5, ?_⟩⟩⟩
   rw [List.replicate_succ', List.map_append]; rfl
  ·rintro zs H' lz ⟨s', rfl⟩ c5 hc5
   refine ⟨c5, _, rfl, SqL.of upd_same, ?_⟩
   rw [al]
   exact q _ (s2.trans (s'.trans (same_new hc5 _)))
end
end K80
set_option Elab.async false
set_option linter.all false
set_option maxRecDepth 100000
set_option maxHeartbeats 800000
namespace K80
open PySem L2
theorem lgN {n : Nat} (h : n <= 10 ^ 60) : (n : Int).natAbs.log2 < 1920 := lg h
def spLaw (K : PySem.W.Frag) : Sp := fun vs H Q _ => ∃ (a : Addr) (ns : List Int), vs = [.ref a] /\ SqL K H a (ns.map V.int) /\ ns.length <= 63 /\ ∀ H', Q (.bl true) H'
theorem spLaw_def {K : PySem.W.Frag} {vs : List V} {H : Hp} {Q : VK} {E : XK} : spLaw K vs H Q E ↔ ∃ (a : Addr) (ns : List Int), vs = [.ref a] /\ SqL K H a (ns.map V.int) /\ ns.length <= 63 /\ ∀ H', Q (.bl true) H' := Iff.rfl
theorem sameS {H : Hp} {z : Str} : ∀ {n : Nat}, SameD H n (.str z) (.str z)
 | 0 => .inl ⟨z, rfl, rfl⟩
 | _ + 1 => .inl ⟨z, rfl, rfl⟩
theorem sameI {H : Hp} {i : Int} : ∀ {n : Nat}, SameD H n (.int i) (.int i)
 | 0 => .inr ⟨i, rfl, rfl⟩
 | _ + 1 => .inr (.inl ⟨i, rfl, rfl⟩)
theorem sameN {H : Hp} {a b : Addr} {ns : List Nat} {n : Nat} (ea : H a = some (.tup (ns.map iv))) (eb : H b = some (.tup (ns.map iv))) (l : ns.length <= 300) : SameD H (n + 1) (.ref a) (.ref b) := by
 refine .inr (.inr ⟨a, b, _, _, rfl, rfl, .inl ⟨ea, eb⟩, rfl, by rw [List.length_map]; exact l, fun i u v hu hv => ?_⟩)
 rw [hu] at hv
 cases hv
 obtain ⟨m, _, rfl⟩ := item hu
 exact sameI
theorem sameU {H : Hp} {a b : Addr} {u : Stp} {n : Nat} (ea : H a = some (.tup (sv u))) (eb : H b = some (.tup (sv u))) (g : Good u) : SameD H (n + 1) (.ref a) (.ref b) := by
 refine .inr (.inr ⟨a, b, _, _, rfl, rfl, .inl ⟨ea, eb⟩, rfl, Nat.le_trans (svl g) (by decide), fun i x y hx hy => ?_⟩)
 rw [hx] at hy
 cases hy
 cases i with
 | zero => cases hx; exact sameS
 | succ i =>
  have hx : (u.2.map iv)[i]? = some x := hx
  obtain ⟨m, _, rfl⟩ := item hx
  exact sameI
theorem sameG {H : Hp} {a b : Addr} {ts us : List (Addr × Stp)} {n : Nat} (ea : H a = some (.lst (ts.map fun u => .ref u.1))) (eb : H b = some (.lst (us.map fun u => .ref u.1))) (ta : ∀ u ∈ ts, H u.1 = some (.tup (sv u.2))) (tb : ∀ u ∈ us, H u.1 = some (.tup (sv u.2)) /\ Good u.2) (e : ts.map (·.2) = us.map (·.2)) (l : us.length <= 300) : SameD H (n + 2) (.ref a) (.ref b) := by
 have ll : ts.length = us.length := by
  have := congrArg List.length e
  rwa [List.length_map, List.length_map] at this
 refine .inr (.inr ⟨a, b, _, _, rfl, rfl, .inr ⟨ea, eb⟩, by rw [List.length_map, List.length_map]; exact ll, by rw [List.length_map]; omega, fun i x y hx hy => ?_⟩)
 obtain ⟨u, eu, rfl⟩ := item hx
 obtain ⟨v, ev, rfl⟩ := item hy
 have exy : u.2 = v.2 := by
  have h1 : (ts.map (·.2))[i]? = some u.2 := by rw [List.getElem?_map, eu]; rfl
  rw [e, List.getElem?_map, ev] at h1
  exact (Option.some.inj h1).symm
 obtain ⟨tv, gv⟩ := tb v (List.mem_of_getElem? ev)
 have tu := ta u (List.mem_of_getElem? eu)
 rw [exy] at tu
 exact sameU tu tv gv
theorem pairRefl {K : PySem.W.Frag} {H : Hp} : ∀ us : List (Addr × Stp), Paired (EqTrue K H 20) (us.map fun u => V.ref u.1) (us.map fun u => V.ref u.1)
 | [] => .nil
 | u :: us => .cons (.inr (.inl ⟨u.1, rfl, rfl⟩)) (pairRefl us)
theorem cutS (u : Stp) : cutV (sv u) (some 1) none = u.2.map iv := by rw [cut1]; rfl
structure Tn (H : Hp) (lr lg : Addr) (ns : List Nat) (us : List (Addr × Stp)) : Prop where
 er : H lr = some (.lst (ns.map iv))
 eg : H lg = some (.lst (us.map fun u => .ref u.1))
 tu : ∀ u ∈ us, H u.1 = some (.tup (sv u.2)) /\ Good u.2
theorem Tn.same {H H' : Hp} {lr lg : Addr} {ns : List Nat} {us : List (Addr × Stp)} (t : Tn H lr lg ns us) (s : Same H H') : Tn H' lr lg ns us := ⟨s _ _ t.er, s _ _ t.eg, fun u hu => ⟨s _ _ (t.tu u hu).1, (t.tu u hu).2⟩⟩
section
variable {P : Program} {w : World} {K : PySem.W.Frag} {mg : Str -> Option Value} {base : Heap} {f T : Addr} {fd : FuncData}
theorem scLaw : FnScope ["script", "cell", "pot", "row", "log", "words", "step", "first", "second", "handed", "told"] ["script"] (defScope sLaw) := ⟨rfl, rfl, rfl, by decide +kernel, rfl, by decide +kernel, by decide +kernel⟩
theorem ndLaw_place : (["place"] : List Str).Nodup := by decide +kernel
theorem ndLaw_number : (["number"] : List Str).Nodup := by decide +kernel
theorem okLaw (F : Fun K "law" "law" sLaw f fd) (B : Blt mg) (cLRow : Cal P w K mg base 2 "_law_row" ["pot"] spRow) (cLSteps : Cal P w K mg base 2 "_law_steps" ["pot"] spSteps) (cLText : Cal P w K mg base 1 "_law_text" ["words"] spLT) (cReadLog : Cal P w K mg base 3 "read_log" ["thing"] spRL) (cLDeal : Cal P w K mg base 1 "_law_deal" ["cell", "many"] spDeal) (cLSame : Cal P w K mg base 4 "_law_same" ["found", "due"] (spS 4)) (cNumbersText : Cal P w K mg base 2 "numbers_text" ["row"] spNT) (cLogText : Cal P w K mg base 2 "log_text" ["log"] spLog) (cReadNumbers : Cal P w K mg base 3 "read_numbers" ["thing"] spRN) (C : Cst mg) : FnOk P w K mg base CX0 5 f fd ["script"] (spLaw K) := by
 refine F.ok scLaw (fun vs H Q E h => ?_) (fun cdv A outer s H vs Q E hr h => ?_)
 ·obtain ⟨_, _, rfl, _⟩ := spLaw_def.mp h
  rfl
 obtain ⟨a, ns, rfl, hS, h63, q⟩ := spLaw_def.mp h
 refine ⟨_, (@pss_cons _ _ _ _ _ (@ps_for _ _ _ _ _ _ _ _ PassesOwn.never rfl (@pi_list _ _ _ _ (@pe_op _ _ _ _ _ _ _ _ op_catS (pe_slice sl_list (pv 0) po_none (po_some pe_int)) (@pe_lst _ _ _ _ (@pa_cons _ _ _ _ _ pe_int pa_nil rfl)))) (pg_name (i := 1) scLaw.nd rfl (Or.inl rfl))
   (@pss_cons _ _ _ _ _ (@ps_set _ _ 2 _ _ _ _ scLaw.nd rfl (Or.inl rfl) (@pe_lst _ _ _ _ (@pa_cons _ _ _ _ _ (pe_cal cLDeal hr (by decide) rfl (@pa_cons _ _ _ _ _ (pv 1) (@pa_cons _ _ _ _ _ pe_int pa_nil rfl) rfl)) pa_nil rfl)) rfl (by first | exact .inl rfl | exact .inr rfl | assumption))
   (@pss_cons _ _ _ _ _ (@ps_set _ _ 3 _ _ _ _ scLaw.nd rfl (Or.inl rfl) (pe_cal cLRow hr (by decide) rfl (@pa_cons _ _ _ _ _ (pv 2) pa_nil rfl)) rfl (by first | exact .inl rfl | exact .inr rfl | assumption))
   (@pss_cons _ _ _ _ _ (@ps_set _ _ 4 _ _ _ _ scLaw.nd rfl (Or.inl rfl) (pe_cal cLSteps hr (by decide) rfl (@pa_cons _ _ _ _ _ (pv 2) pa_nil rfl)) rfl (by first | exact .inl rfl | exact .inr rfl | assumption))
   (@pss_cons _ _ _ _ _ (@ps_set _ _ 5 _ _ _ _ scLaw.nd rfl (Or.inl rfl) (@pe_lst _ _ _ _ pa_nil) rfl (by first | exact .inl rfl | exact .inr rfl | assumption))
   (@pss_cons _ _ _ _ _ (@ps_for _ _ _ _ _ _ _ _ PassesOwn.never rfl (@pi_list _ _ _ _ (pv 4)) (pg_name (i := 6) scLaw.nd rfl (Or.inl rfl))
    (@pss_one _ _ _ (ps_expr (pe_bm PySem.F.plainAttrs_list PySem.F.slot_list_extend PySem.F.type_list_extend mt_extend (pv 5) (@pa_cons _ _ _ _ _ (@pe_op _ _ _ _ _ _ _ _ op_catS (@pe_lst _ _ _ _ (@pa_cons _ _ _ _ _ (@pe_ix _ _ _ _ _ _ _ ix_tup (pv 6) pe_int (fun _ _ => rfl)) pa_nil rfl)) (pe_comp ["place"] [none] rfl (@pi_tup _ _ _ _ (pe_slice sl_tupS (pv 6) (po_some pe_int) po_none)) rfl (fun _ _ _ _ _ => (pg_name (i := 0) ndLaw_place rfl (Or.inl rfl))) (fun _ _ _ _ _ => pf_nil) (fun _ _ _ _ _ => (pe_callTy call_str_int rfl B.b_str bt_str (@pa_cons _ _ _ _ _ (pv 0) pa_nil rfl))))) pa_nil rfl)))) (fun _ => rfl))
   (@pss_cons _ _ _ _ _ (@ps_set _ _ 7 _ _ _ _ scLaw.nd rfl (Or.inl rfl) (pe_cal cLText hr (by decide) rfl (@pa_cons _ _ _ _ _ (pe_comp ["number"] [none] rfl (@pi_list _ _ _ _ (pv 3)) rfl (fun _ _ _ _ _ => (pg_name (i := 0) ndLaw_number rfl (Or.inl rfl))) (fun _ _ _ _ _ => pf_nil) (fun _ _ _ _ _ => (pe_callTy call_str_int rfl B.b_str bt_str (@pa_cons _ _ _ _ _ (pv 0) pa_nil rfl)))) pa_nil rfl)) rfl (by first | exact .inl rfl | exact .inr rfl | assumption))
   (@pss_cons _ _ _ _ _ (@ps_set _ _ 8 _ _ _ _ scLaw.nd rfl (Or.inl rfl) (pe_cal cLText hr (by decide) rfl (@pa_cons _ _ _ _ _ (pv 5) pa_nil rfl)) rfl (by first | exact .inl rfl | exact .inr rfl | assumption))
   (@pss_cons _ _ _ _ _ (@ps_set _ _ 9 _ _ _ _ scLaw.nd rfl (Or.inl rfl) (pe_callTy call_list_of rfl B.b_list bt_list (@pa_cons _ _ _ _ _ (pv 4) pa_nil rfl)) rfl (by first | exact .inl rfl | exact .inr rfl | assumption))
   (@pss_cons _ _ _ _ _ (@ps_if _ _ _ _ _ _ _ _ (PW.pt (pw_or (pt_not (pt_val (pe_cal cLSame hr (by decide) rfl (@pa_cons _ _ _ _ _ (pe_cal cNumbersText hr (by decide) rfl (@pa_cons _ _ _ _ _ (pe_callTy call_list_of rfl B.b_list bt_list (@pa_cons _ _ _ _ _ (pv 3) pa_nil rfl)) pa_nil rfl)) (@pa_cons _ _ _ _ _ (pv 7) pa_nil rfl) rfl)))) (pw_or1 (pt_not (pt_val (pe_cal cLSame hr (by decide) rfl (@pa_cons _ _ _ _ _ (pe_cal cNumbersText hr (by decide) rfl (@pa_cons _ _ _ _ _ (pe_callTy call_tuple_of rfl B.b_tuple bt_tuple (@pa_cons _ _ _ _ _ (pv 3) pa_nil rfl)) pa_nil rfl)) (@pa_cons _ _ _ _ _ (pv 7) pa_nil rfl) rfl))))))) pss_never pss_nil)
   (@pss_cons _ _ _ _ _ (@ps_if _ _ _ _ _ _ _ _ (PW.pt (pw_or (pt_not (pt_val (pe_cal cLSame hr (by decide) rfl (@pa_cons _ _ _ _ _ (pe_cal cLogText hr (by decide) rfl (@pa_cons _ _ _ _ _ (pv 9) pa_nil rfl)) (@pa_cons _ _ _ _ _ (pv 8) pa_nil rfl) rfl)))) (pw_or (pt_not (pt_val (pe_cal cLSame hr (by decide) rfl (@pa_cons _ _ _ _ _ (pe_cal cLogText hr (by decide) rfl (@pa_cons _ _ _ _ _ (pe_callTy call_tuple_of rfl B.b_tuple bt_tuple (@pa_cons _ _ _ _ _ (pv 4) pa_nil rfl)) pa_nil rfl)) (@pa_cons _ _ _ _ _ (pv 8) pa_nil rfl) rfl)))) (pw_or1 (pt_cmpR (op_neL hr) (pv 9) (pv 4) (nomark _)))))) pss_never pss_nil)
   (@pss_cons _ _ _ _ _ (@ps_set _ _ 10 _ _ _ _ scLaw.nd rfl (Or.inl rfl) (pe_cal cReadLog hr (by decide) rfl (@pa_cons _ _ _ _ _ (pv 8) pa_nil rfl)) rfl (by first | exact .inl rfl | exact .inr rfl | assumption))
   (@pss_cons _ _ _ _ _ (@ps_if _ _ _ _ _ _ _ _ (PW.pt (pw_or (pt_not (pt_val (pe_cal cLSame hr (by decide) rfl (@pa_cons _ _ _ _ _ (pe_cal cReadNumbers hr (by decide) rfl (@pa_cons _ _ _ _ _ (pv 7) pa_nil rfl)) (@pa_cons _ _ _ _ _ (pe_callTy call_tuple_of rfl B.b_tuple bt_tuple (@pa_cons _ _ _ _ _ (pv 3) pa_nil rfl)) pa_nil rfl) rfl)))) (pw_or1 (pt_not (pt_val (pe_cal cLSame hr (by decide) rfl (@pa_cons _ _ _ _ _ (pv 10) (@pa_cons _ _ _ _ _ (pv 4) pa_nil rfl) rfl))))))) pss_never pss_nil)
   (@pss_cons _ _ _ _ _ (ps_expr (pe_bm PySem.F.plainAttrs_list PySem.F.slot_list_append PySem.F.type_list_append mt_append (pv 10) (@pa_cons _ _ _ _ _ (@pe_tup _ _ _ _ _ (@pa_cons _ _ _ _ _ pe_str (@pa_cons _ _ _ _ _ pe_int pa_nil rfl) rfl)) pa_nil rfl)))
   (@pss_one _ _ _ (@ps_if _ _ _ _ _ _ _ _ (pt_not (pt_val (pe_cal cLSame hr (by decide) rfl (@pa_cons _ _ _ _ _ (pe_cal cReadLog hr (by decide) rfl (@pa_cons _ _ _ _ _ (pv 8) pa_nil rfl)) (@pa_cons _ _ _ _ _ (pv 4) pa_nil rfl) rfl)))) pss_never pss_nil))))))))))))))) (fun _ => rfl))
  (@pss_one _ _ _ (@ps_ret _ _ _ _ pe_bl))), ?_⟩
 refine ⟨_, rfl, 10, rfl, a, _, rfl, hS, fun l0 hl0 => ?_⟩
 obtain ⟨ms, em, lt, _⟩ := cutV_ints ns none (some 10)
 rw [em]
 have s1 := same_new hl0 (.lst (ms.map V.int))
 refine ⟨(by show 1 <= sizeLine; decide), fun l1 hl1 => ⟨l0, l1, _, _, rfl, rfl, SqL.of ((same_new hl1 _) _ _ upd_same), SqL.of upd_same, ?_, fun l2 hl2 => ?_⟩⟩
 ·rw [List.length_map]
  exact small (by show _ + 1 <= _; omega)
 have s2 := (s1.trans (same_new hl1 (.lst [.int 8]))).trans (same_new hl2 (.lst (ms.map V.int ++ [.int 8])))
 have e2 : upd (upd (upd H l0 (.lst (ms.map V.int))) l1 (.lst [.int 8])) l2 (.lst (ms.map V.int ++ [.int 8])) l2 = some (.lst ((ms ++ [8]).map V.int)) := by rw [upd_same, List.map_append]; rfl
 generalize upd (upd (upd H l0 (.lst (ms.map V.int))) l1 (.lst [.int 8])) l2 (.lst (ms.map V.int ++ [.int 8])) = H2 at s2 e2
 refine ⟨l2, rfl, ⟨_, SqL.of e2⟩, for_list (xs := (ms ++ [8]).map V.int) (fun i σ H' => (∃ c1 c2 c3 c4 c5 c6 c7 c8 c9 c10, σ = [some (.ref a), c1, c2, c3, c4, c5, c6, c7, c8, c9, c10]) /\ Same H2 H') ⟨⟨_, _, _, _, _, _, _, _, _, _, rfl⟩, Same.refl _⟩ (fun i σ H' _ k => SqL.of (k.2 _ _ e2)) ?_ (fun σ H' _ => q _)⟩
 rintro i x σ H3 hx ⟨⟨c1, c2, c3, c4, c5, c6, c7, c8, c9, c10, rfl⟩, s3⟩
 rw [List.getElem?_map] at hx
 obtain ⟨cell, _, rfl⟩ := Option.map_eq_some_iff.mp hx
 refine ⟨_, rfl, spDeal_def.mpr ⟨cell, 300, rfl, by decide, by decide, fun n => ⟨(by show 1 <= sizeLine; decide), fun p hp => ?_⟩⟩⟩
 have p0 : Pt 1 (upd H3 p (.lst [.int n])) p := ⟨[n], rfl, upd_same⟩
 have b0 := Bu.refl p0
 have fr : ∀ {H' : Hp}, Bu 1 p (upd H3 p (.lst [.int n])) H' -> Same H3 H' := fun b => Bu.fresh hp b
 generalize upd H3 p (.lst [.int n]) = H4 at p0 b0 fr
 refine ⟨_, rfl, spRow_def.mpr ⟨p, rfl, b0.pot, fun lr ns H5 b5 hlr nlr elr nb ln => ?_⟩⟩
 refine ⟨_, rfl, spSteps_def.mpr ⟨p, rfl, b5.pot, fun lg us H6 b6 hlg nlg elg tu lu => ?_⟩⟩
 have s6 := s3.trans (fr (b5.trans b6))
 have T6 : Tn H6 lr lg ns us := ⟨b6.st _ _ nlr elr, elg, tu⟩
 clear b0 p0 fr b5 b6 hlr nlr elr hlg nlg elg tu
 have gus : ∀ u ∈ us.map (·.2), Good u := fun v hv => by
  obtain ⟨u, hu, rfl⟩ := List.mem_map.mp hv
  exact (T6.tu u hu).2
 have fl := flat_len gus
 rw [List.length_map] at fl
 refine ⟨(by show 0 <= sizeLine; decide), fun lw hlw => ?_⟩
 have g7 := same_new hlw (.lst [])
 have elw : upd H6 lw (.lst []) lw = some (.lst []) := upd_same
 have T7 := T6.same g7
 generalize upd H6 lw (.lst []) = H7 at g7 elw T7
 have nlw : lg ≠ lw := fun z => by
  have e := T6.eg
  rw [z, hlw] at e; cases e
 refine ⟨_, rfl, lg, rfl, ⟨_, SqL.of T7.eg⟩, for_list (xs := us.map fun u => .ref u.1) (fun j σ H' => (∃ c6, σ = [some (.ref a), some (.int cell), some (.ref p), some (.ref lr), some (.ref lg), some (.ref lw), c6, c7, c8, c9, c10]) /\ (∀ q o, q ≠ lw -> H7 q = some o -> H' q = some o) /\ H' lw = some (.lst ((((us.map (·.2)).take j).flatMap sw).map V.str))) ⟨⟨_, rfl⟩, fun q o _ e => e, elw⟩ (fun j σ H' _ k => SqL.of (k.2.1 _ _ nlw T7.eg)) ?_ ?_⟩
 ·rintro j x σ H8 hx ⟨⟨c6, rfl⟩, k8, el8⟩
  obtain ⟨u, eu, rfl⟩ := item hx
  have ej : (us.map (·.2))[j]? = some u.2 := by rw [List.getElem?_map, eu]; rfl
  obtain ⟨tu7, gu⟩ := T7.tu u (List.mem_of_getElem? eu)
  have tu8 := k8 _ _ (ne_of tu7 elw nofun) tu7
  have h39 := (good_le gu).2.2.2
  have fl1 := flat_len (us := (us.map (·.2)).take j) fun v hv => gus v (List.take_sublist _ _ |>.mem hv)
  rw [List.length_take, List.length_map] at fl1
  have lsu : (u.2.2).length <= 2 := (good_le gu).2.1
  refine ⟨_, rfl, .inl ⟨rfl, _, SqL.of el8⟩, _, rfl, u.1, _, 0, .str u.2.1, rfl, rfl, SqT.of tu8, atI_nat (j := 0) rfl, (by show 1 <= sizeLine; decide), fun l1 hl1 => ?_⟩
  have g9 := same_new hl1 (.lst [.str u.2.1])
  have el1 : upd H8 l1 (.lst [.str u.2.1]) l1 = some (.lst [.str u.2.1]) := upd_same
  have tu9 := g9 _ _ tu8
  have el9 := g9 _ _ el8
  generalize upd H8 l1 (.lst [.str u.2.1]) = H9 at g9 el1 tu9 el9
  refine ⟨_, rfl, 1, rfl, u.1, _, rfl, tu9, fun p2 Ha sa ea => ?_⟩
  rw [cutS] at ea
  refine ⟨p2, rfl, ⟨_, SqT.of ea⟩, compN_tup (xs := u.2.2.map iv) (fun i ys H' => H' = Ha /\ ys = ((u.2.2.take i).map decT).map V.str) ⟨rfl, rfl⟩ (by rw [List.length_map]; exact small6 (by omega)) (fun i ys H' _ z => by rw [z.1]; exact SqT.of ea) ?_ ?_⟩
  ·rintro i x ys H' hx hy ⟨rfl, rfl⟩ R1 R0 r1 r0
   obtain ⟨n, en, rfl⟩ := item hx
   refine iteT ⟨_, rfl, _, rfl, lgN (le60 (h39 n (List.mem_of_getElem? en))), r1 _ _ ⟨rfl, ?_⟩⟩
   rw [List.take_add_one, en, List.map_append, List.map_append]; rfl
  ·rintro ys H' hy ⟨rfl, rfl⟩ l4 hl4
   rw [List.length_map, List.take_length]
   have gb := same_new hl4 (.lst ((u.2.2.map decT).map V.str))
   have eb : upd H' l4 (.lst ((u.2.2.map decT).map V.str)) l4 = some (.lst ((u.2.2.map decT).map V.str)) := upd_same
   have s9b := (g9.trans sa).trans gb
   have el1b := gb _ _ (sa _ _ el1)
   generalize upd H' l4 (.lst ((u.2.2.map decT).map V.str)) = Hb at gb eb s9b el1b
   refine ⟨l1, l4, _, _, rfl, rfl, SqL.of el1b, SqL.of eb, ?_, fun l5 hl5 => ?_⟩
   ·rw [List.length_map, List.length_map]; exact small6 (show 1 + u.2.2.length <= 300000 by omega)
   have gc := same_new hl5 (.lst ([V.str u.2.1] ++ (u.2.2.map decT).map V.str))
   have ec : upd Hb l5 (.lst ([V.str u.2.1] ++ (u.2.2.map decT).map V.str)) l5 = some (.lst ((sw u.2).map V.str)) := upd_same
   have s8c := s9b.trans gc
   generalize upd Hb l5 (.lst ([V.str u.2.1] ++ (u.2.2.map decT).map V.str)) = Hc at gc ec s8c
   have el9c := s8c _ _ el8
   refine ⟨lw, l5, _, _, rfl, rfl, el9c, ec, ?_, ⟨_, rfl⟩, fun q o nq e => by rw [upd_ne nq]; exact s8c _ _ (k8 q o nq e), ?_⟩
   ·have lsw := svl gu
    rw [sv_len] at lsw
    rw [List.length_map, List.length_map]
    exact small6 (by omega)
   ·rw [upd_same, List.take_add_one, ej, List.flatMap_append, List.map_append]
    show _ = some (HO.lst (_ ++ ([u.2].flatMap sw).map V.str))
    rw [List.flatMap_cons, List.flatMap_nil, List.append_nil]
 rintro σ H8 ⟨⟨c6, rfl⟩, k8, el8⟩
 rw [List.length_map, List.take_of_length_le (by rw [List.length_map]; exact Nat.le_refl _)] at el8
 have s8 : Same H6 H8 := fun q o e => k8 q o (ne_of_none e hlw) (g7 _ _ e)
 have T8 := T6.same s8
 have s38 := s6.trans s8
 clear k8 g7 elw T7 T6 s6 s8
 refine ⟨_, rfl, lr, rfl, ⟨_, SqL.of T8.er⟩, compN_list (xs := ns.map iv) (fun i ys H' => H' = H8 /\ ys = ((ns.take i).map decT).map V.str) ⟨rfl, rfl⟩ (by rw [List.length_map]; exact small6 (by omega)) (fun i ys H' _ z => by rw [z.1]; exact SqL.of T8.er) ?_ ?_⟩
 ·rintro i x ys H' hx hy ⟨rfl, rfl⟩ R1 R0 r1 r0
  obtain ⟨n, en, rfl⟩ := item hx
  refine iteT ⟨_, rfl, _, rfl, lgN (nb n (List.mem_of_getElem? en)), r1 _ _ ⟨rfl, ?_⟩⟩
  rw [List.take_add_one, en, List.map_append, List.map_append]; rfl
 rintro ys H' hy ⟨rfl, rfl⟩ l4 hl4
 rw [List.length_map, List.take_length]
 have g9 := same_new hl4 (.lst ((ns.map decT).map V.str))
 refine spLT_def.mpr ⟨l4, _, rfl, upd_same, fun w hw => ?_, by rw [List.length_map]; omega, fun H9 s9 => ?_⟩
 ·obtain ⟨n, hn', rfl⟩ := List.mem_map.mp hw
  exact Nat.le_trans (dec_len (nb n hn')) (by decide)
 have s9 := g9.trans s9
 have T9 := T8.same s9
 have el9 := s9 _ _ el8
 have s39 := s38.trans s9
 clear g9 hl4 T8 el8 s38 s9
 refine ⟨_, rfl, spLT_def.mpr ⟨lw, _, rfl, el9, fun w hw => (word_ok gus w hw).1, by omega, fun H10 s10 => ?_⟩⟩
 have T10 := T9.same s10
 have s30 := s39.trans s10
 clear T9 el9 s39 s10
 refine ⟨_, rfl, lg, _, rfl, .inl (SqL.of T10.eg), fun lh hlh => ?_⟩
 have g11 := same_new hlh (.lst (us.map fun u => .ref u.1))
 have elh : upd H10 lh (.lst (us.map fun u => .ref u.1)) lh = some (.lst (us.map fun u => .ref u.1)) := upd_same
 have T11 := T10.same g11
 have s31 := s30.trans g11
 generalize upd H10 lh (.lst (us.map fun u => .ref u.1)) = H11 at g11 elh T11 s31
 clear T10 s30 g11
 refine ⟨_, rfl, lr, _, rfl, .inl (SqL.of T11.er), fun l5 hl5 => ?_⟩
 have g12 := same_new hl5 (.lst (ns.map iv))
 refine spNT_def.mpr ⟨l5, ns, rfl, .inl upd_same, nb, ln, fun H12 s12 => ?_⟩
 refine ⟨_, rfl, spS_def.mpr ⟨_, _, rfl, sameS, fun H13 s13 => ⟨_, rfl, iteF ?_⟩⟩⟩
 have s113 := g12.trans (s12.trans s13)
 have T13 := T11.same s113
 refine ⟨_, rfl, lr, _, rfl, .inl ⟨SqL.of T13.er, fun l6 hl6 => ?_⟩⟩
 have g14 := same_new hl6 (.tup (ns.map iv))
 refine spNT_def.mpr ⟨l6, ns, rfl, .inr upd_same, nb, ln, fun H14 s14 => ?_⟩
 refine ⟨_, rfl, spS_def.mpr ⟨_, _, rfl, sameS, fun H15 s15 => ⟨_, rfl, iteF ?_⟩⟩⟩
 have s115 := s113.trans (g14.trans (s14.trans s15))
 have T15 := T11.same s115
 have elh15 := s115 _ _ elh
 have s35 := s31.trans s115
 clear g12 s12 s13 s113 T13 g14 s14 s15 s115 T11 elh s31 hl5 hl6
 refine ⟨_, rfl, spLog_def.mpr ⟨lh, us, rfl, .inl elh15, T15.tu, lu, fun H16 s16 => ?_⟩⟩
 refine ⟨_, rfl, spS_def.mpr ⟨_, _, rfl, sameS, fun H17 s17 => ⟨_, rfl, iteF ?_⟩⟩⟩
 have s157 := s16.trans s17
 have T17 := T15.same s157
 refine ⟨_, rfl, lg, _, rfl, .inl ⟨SqL.of T17.eg, fun l7 hl7 => ?_⟩⟩
 have g18 := same_new hl7 (.tup (us.map fun u => .ref u.1))
 refine spLog_def.mpr ⟨l7, us, rfl, .inr upd_same, (T17.same g18).tu, lu, fun H18 s18 => ?_⟩
 refine ⟨_, rfl, spS_def.mpr ⟨_, _, rfl, sameS, fun H19 s19 => ⟨_, rfl, iteF ?_⟩⟩⟩
 have s159 := s157.trans (g18.trans (s18.trans s19))
 have T19 := T15.same s159
 refine ⟨_, rfl, _, rfl, lh, lg, _, _, rfl, rfl, SqL.of (s159 _ _ elh15), SqL.of T19.eg, .inr ⟨pairRefl us, _, rfl, iteF ?_⟩⟩
 have s39 := s35.trans s159
 clear s16 s17 s157 T17 g18 s18 s19 s159 T15 elh15 s35 hl7
 refine ⟨_, rfl, spRL_def.mpr ⟨us.map (·.2), rfl, gus, by rw [List.length_map]; exact lu, fun lt1 ts H20 s20 hlt elt tt et => ?_⟩⟩
 have T20 := T19.same s20
 refine ⟨_, rfl, spRN_def.mpr ⟨ns, rfl, nb, ln, fun t1 H21 s21 et1 => ?_⟩⟩
 have T21 := T20.same s21
 refine ⟨_, rfl, lr, _, rfl, .inl ⟨SqL.of T21.er, fun t2 ht2 => ?_⟩⟩
 have g22 := same_new ht2 (.tup (ns.map iv))
 refine spS_def.mpr ⟨_, _, rfl, sameN (g22 _ _ et1) upd_same (by omega), fun H23 s23 => ⟨_, rfl, iteF ?_⟩⟩
 have s203 := s21.trans (g22.trans s23)
 have T23 := T20.same s203
 have elt23 := s203 _ _ elt
 have tt23 : ∀ u ∈ ts, H23 u.1 = some (.tup (sv u.2)) := fun u hu => s203 _ _ (tt u hu)
 refine ⟨_, rfl, _, rfl, spS_def.mpr ⟨_, _, rfl, sameG elt23 T23.eg tt23 T23.tu et lu, fun H24 s24 => ⟨_, rfl, iteF ?_⟩⟩⟩
 have T24 := T23.same s24
 have elt24 := s24 _ _ elt23
 have s394 := s20.trans (s203.trans s24)
 have s34 := s39.trans s394
 have lts : ts.length <= 300 := by
  have := congrArg List.length et
  rw [List.length_map, List.length_map] at this
  omega
 clear s21 g22 s23 s203 T20 T21 T23 elt23 tt23 ht2
 refine ⟨_, rfl, .inl ⟨rfl, _, SqL.of elt24⟩, (by show 2 <= sizeLine; decide), fun t3 ht3 => ?_⟩
 have g25 := same_new ht3 (.tup [.str "lone", .int 0])
 refine ⟨lt1, _, _, rfl, rfl, g25 _ _ elt24, by rw [List.length_map]; exact small5 (by omega), ?_⟩
 have s26 : Same H19 (upd (upd H24 t3 (.tup [.str "lone", .int 0])) lt1 (.lst ((ts.map fun u => V.ref u.1) ++ [.ref t3]))) := fun q o e => by
  rw [upd_ne (ne_of_none e hlt)]; exact g25 _ _ (s394 _ _ e)
 generalize upd (upd H24 t3 (.tup [.str "lone", .int 0])) lt1 (.lst ((ts.map fun u => V.ref u.1) ++ [.ref t3])) = H26 at s26
 have T26 := T19.same s26
 refine ⟨_, rfl, spRL_def.mpr ⟨us.map (·.2), rfl, gus, by rw [List.length_map]; exact lu, fun lt2 ts2 H27 s27 hlt2 elt2 tt2 et2 => ?_⟩⟩
 have T27 := T26.same s27
 exact ⟨_, rfl, spS_def.mpr ⟨_, _, rfl, sameG elt2 T27.eg tt2 T27.tu et2 lu, fun H28 s28 => ⟨_, rfl, iteF ⟨⟨_, _, _, _, _, _, _, _, _, _, rfl⟩, s39.trans (s26.trans (s27.trans s28))⟩⟩⟩⟩
end
end K80
set_option Elab.async false
set_option linter.all false
set_option maxRecDepth 100000
set_option maxHeartbeats 800000
namespace K80
open PySem L2
theorem all_mk {l : PySem.W.OpenLaw} {w : World} {K : PySem.W.Frag} {h : Heap} {mg : Str -> Option Value} {fa : Addr} (X : K.In h) (G : h.Ns mainGlobals mg) (hfa : mg "law" = some (.ref fa))
  (h1 : HasF K "is_rising" sIsRising) (h2 : HasF K "words_text" sWordsText) (h3 : HasF K "numbers_text" sNumbersText) (h4 : HasF K "log_text" sLogText) (h5 : HasF K "number_read" sNumberRead) (h6 : HasF K "words_of" sWordsOf) (h7 : HasF K "rows_words" sRowsWords) (h8 : HasF K "read_numbers" sReadNumbers) (h9 : HasF K "step_read" sStepRead) (h10 : HasF K "read_log" sReadLog) (h11 : HasF K "_law_deal" sLDeal) (h12 : HasF K "_law_take" sLTake) (h13 : HasF K "_law_same" sLSame) (h14 : HasF K "_law_row" sLRow) (h15 : HasF K "_law_steps" sLSteps) (h16 : HasF K "_law_text" sLText) (h17 : HasF K "law" sLaw)
  (y_all : PySem.W.nsIn K mainGlobals "all" = some none) (y_bool : PySem.W.nsIn K mainGlobals "bool" = some none) (y_enumerate : PySem.W.nsIn K mainGlobals "enumerate" = some none) (y_int : PySem.W.nsIn K mainGlobals "int" = some none) (y_isinstance : PySem.W.nsIn K mainGlobals "isinstance" = some none) (y_len : PySem.W.nsIn K mainGlobals "len" = some none) (y_list : PySem.W.nsIn K mainGlobals "list" = some none) (y_min : PySem.W.nsIn K mainGlobals "min" = some none) (y_range : PySem.W.nsIn K mainGlobals "range" = some none) (y_str : PySem.W.nsIn K mainGlobals "str" = some none) (y_tuple : PySem.W.nsIn K mainGlobals "tuple" = some none) (y_zip : PySem.W.nsIn K mainGlobals "zip" = some none)
  {t_MOST_PLACES : Nat} (q_MOST_PLACES : PySem.W.nsIn K mainGlobals "MOST_PLACES" = some (some (.int 40 t_MOST_PLACES)))
  {t_FIGURES : Nat} (q_FIGURES : PySem.W.nsIn K mainGlobals "FIGURES" = some (some (.str "0123456789" t_FIGURES)))
  {t_MOST_NUMBERS : Nat} (q_MOST_NUMBERS : PySem.W.nsIn K mainGlobals "MOST_NUMBERS" = some (some (.int 60 t_MOST_NUMBERS)))
  {t_MOST_STEPS : Nat} (q_MOST_STEPS : PySem.W.nsIn K mainGlobals "MOST_STEPS" = some (some (.int 300 t_MOST_STEPS)))
  {c_STEP_NUMBERS : Addr} (e_STEP_NUMBERS : PySem.W.nsIn K mainGlobals "STEP_NUMBERS" = some (some (.ref c_STEP_NUMBERS)))
  {es_ : Array DictEntry} {n_ : Nat} {t1_ t2_ t3_ t4_ : Tok} (dlk : K.lookup c_STEP_NUMBERS = some ⟨.type "dict", none, .dict es_ n_, #[]⟩)
  (dl1 : PySem.W.nsIn K c_STEP_NUMBERS "lone" = some (some (.int 1 t1_)))
  (dl2 : PySem.W.nsIn K c_STEP_NUMBERS "two" = some (some (.int 1 t2_)))
  (dl3 : PySem.W.nsIn K c_STEP_NUMBERS "loop" = some (some (.int 1 t3_)))
  (dl4 : PySem.W.nsIn K c_STEP_NUMBERS "many" = some (some (.int 2 t4_)))
  (dls : (c_STEP_NUMBERS == sysModules) = false)
  (dlq : PySem.W.KeysLit w.params es_.toList)
  : ∃ fd : FuncData, (∀ (s : Shared) (v : Value), BindsTo s fd ⟨[v], []⟩ [("script", v)]) /\ ∀ base : Heap, K.In base -> base.Ns mainGlobals mg -> FnOk l.prog w K mg base CX0 5 fa fd ["script"] (spLaw K) := by
 obtain ⟨fl, od, an, sl, oc, kV, dc, pm, cd, ct, al, ll, cl, kl⟩ := h17
 have e := hfa.symm.trans (PySem.W.mg_of X G al)
 cases e
 have F17 := fun_mk ll cl kl
 have z_all := PySem.W.mg_none_of X G y_all
 have z_bool := PySem.W.mg_none_of X G y_bool
 have z_enumerate := PySem.W.mg_none_of X G y_enumerate
 have z_int := PySem.W.mg_none_of X G y_int
 have z_isinstance := PySem.W.mg_none_of X G y_isinstance
 have z_len := PySem.W.mg_none_of X G y_len
 have z_list := PySem.W.mg_none_of X G y_list
 have z_min := PySem.W.mg_none_of X G y_min
 have z_range := PySem.W.mg_none_of X G y_range
 have z_str := PySem.W.mg_none_of X G y_str
 have z_tuple := PySem.W.mg_none_of X G y_tuple
 have z_zip := PySem.W.mg_none_of X G y_zip
 have w_MOST_PLACES := PySem.W.mg_of X G q_MOST_PLACES
 have w_FIGURES := PySem.W.mg_of X G q_FIGURES
 have w_MOST_NUMBERS := PySem.W.mg_of X G q_MOST_NUMBERS
 have w_MOST_STEPS := PySem.W.mg_of X G q_MOST_STEPS
 refine ⟨PySem.W.fnOf "law" "law" (defArgs sLaw) (defBody sLaw) (defScope sLaw) .none kV dc pm an cd ct, fun s v => .of_eq rfl, fun base kb nb => ?_⟩
 have B : Blt mg := ⟨z_all, z_bool, z_enumerate, z_int, z_isinstance, z_len, z_list, z_min, z_range, z_str, z_tuple, z_zip⟩
 have C : Cst mg := ⟨⟨_, w_MOST_PLACES⟩, ⟨_, w_FIGURES⟩, ⟨_, w_MOST_NUMBERS⟩, ⟨_, w_MOST_STEPS⟩⟩
 have x_STEP_NUMBERS := PySem.W.mg_of X G e_STEP_NUMBERS
 have Z : Exs w K mg c_STEP_NUMBERS := ⟨x_STEP_NUMBERS, ⟨dls, _, _, dlk, dlq⟩, ⟨_, dl1⟩, ⟨_, dl2⟩, ⟨_, dl3⟩, ⟨_, dl4⟩⟩
 have cLTake := h12.cal l.prog w base X G (fun F => okLTake F B C) fun _ _ _ _ _ _ us hl => match us, hl with | [_, _], _ => rfl
 have cLRow := h14.cal l.prog w base X G (fun F => okLRow F B cLTake C) fun _ _ _ _ _ _ us hl => match us, hl with | [_], _ => rfl
 have cLSteps := h15.cal l.prog w base X G (fun F => okLSteps F B cLTake C) fun _ _ _ _ _ _ us hl => match us, hl with | [_], _ => rfl
 have cLText := h16.cal l.prog w base X G (fun F => okLText F B C) fun _ _ _ _ _ _ us hl => match us, hl with | [_], _ => rfl
 have cWordsOf := h6.cal l.prog w base X G (fun F => okWordsOf F B C) fun _ _ _ _ _ _ us hl => match us, hl with | [_], _ => rfl
 have cRowsWords := h7.cal l.prog w base X G (fun F => okRowsWords F B cWordsOf C) fun _ _ _ _ _ _ us hl => match us, hl with | [_], _ => rfl
 have cNumberRead := h5.cal l.prog w base X G (fun F => okNumberRead F B C) fun _ _ _ _ _ _ us hl => match us, hl with | [_, _], _ => rfl
 have cIsRising := h1.cal l.prog w base X G (fun F => okIsRising F B C) fun _ _ _ _ _ _ us hl => match us, hl with | [_], _ => rfl
 have cStepRead := h9.cal l.prog w base X G (fun F => okStepRead F B Z cNumberRead cIsRising C) fun _ _ _ _ _ _ us hl => match us, hl with | [_, _], _ => rfl
 have cReadLog := h10.cal l.prog w base X G (fun F => okReadLog F B cRowsWords cStepRead C) fun _ _ _ _ _ _ us hl => match us, hl with | [_], _ => rfl
 have cLDeal := h11.cal l.prog w base X G (fun F => okLDeal F B C) fun _ _ _ _ _ _ us hl => match us, hl with | [_, _], _ => rfl
 have cLSame := h13.selfs l.prog w base X G (fun _ _ _ _ => spS_no) (fun n c => fun F => okLSame F B n c C) (fun _ _ _ _ _ _ us hl => match us, hl with | [_, _], _ => rfl) 4
 have cWordsText := h2.cal l.prog w base X G (fun F => okWordsText F B C) fun _ _ _ _ _ _ us hl => match us, hl with | [_], _ => rfl
 have cNumbersText := h3.cal l.prog w base X G (fun F => okNumbersText F B cWordsText C) fun _ _ _ _ _ _ us hl => match us, hl with | [_], _ => rfl
 have cLogText := h4.cal l.prog w base X G (fun F => okLogText F B cWordsText C) fun _ _ _ _ _ _ us hl => match us, hl with | [_], _ => rfl
 have cReadNumbers := h8.cal l.prog w base X G (fun F => okReadNumbers F B cRowsWords cNumberRead C) fun _ _ _ _ _ _ us hl => match us, hl with | [_], _ => rfl
 exact okLaw F17 B cLRow cLSteps cLText cReadLog cLDeal cLSame cNumbersText cLogText cReadNumbers C
theorem walk {l : PySem.W.OpenLaw} {q : Program} {loose : List Str} {XP : (Str -> Option Value) -> Heap -> Prop} {YP : World -> Heap -> Prop} {d : DefRec} {K : Params -> PySem.W.Frag} (hn : l.most = some 63) (hdf : d.params.defaults = [])
  (hY : ∀ (w : World) (h : Heap), YP w h -> (K w.params).In h)
  (F : ∀ (w : World) (mg : Str -> Option Value) (fa : Addr) (h : Heap), (K w.params).In h -> h.Ns mainGlobals mg -> mg d.name = some (.ref fa) →
   ∃ fd : FuncData, (∀ (s : Shared) (u : Value), BindsTo s fd ⟨[u], []⟩ [("script", u)]) /\ ∀ base : Heap, (K w.params).In base -> base.Ns mainGlobals mg -> FnOk l.prog w (K w.params) mg base CX0 5 fa fd ["script"] (spLaw (K w.params))) :
  PySem.W.WalkO q loose XP YP l.row.toRowW d [] (fun f vs => PySem.call f vs) :=
 L2.walk_of (n := 63) (k := 5) (x := "script") (CX := fun _ => CX0) (sp := fun w => spLaw (K w.params)) hn (by decide) hdf ⟨rfl, by decide, by decide⟩ hY F (fun _ _ a ns hl _ hS => ⟨a, ns, rfl, hS, hl, fun _ => rfl⟩) fun _ _ _ _ _ z => z
end K80
def PySem.W.Fast.tw14672610761139840166 : Nat := 0
def PySem.W.Fast.tw2832602045887799058 : Nat := 0
def PySem.W.Fast.tw2627595045091298576 : Nat := 0
def PySem.W.Fast.tw15368746391073762650 : Nat := 0
def PySem.W.Fast.tw1071445792877146456 : Nat := 0
def PySem.W.Fast.tw833649930118374165 : Nat := 0
def PySem.W.Fast.tw2509071074110233575 : Nat := 0
def PySem.W.Fast.tw6623325928647490500 : Nat := 0
def PySem.W.Fast.tw10506672183433539829 : Nat := 0
def PySem.W.Fast.tw17251296413542905244 : Nat := 0
def PySem.W.Fast.tw16666273276168983075 : Nat := 0
def PySem.W.Fast.tw16696433224135135460 : Nat := 0
def PySem.W.Fast.tw1958976742767563715 : Nat := 0
def PySem.W.Fast.tw287920898048105203 : Nat := 0
def PySem.W.Fast.tw13783626516768734557 : Nat := 0
def PySem.W.Fast.tw2298939659787245162 : Nat := 0
def PySem.W.Fast.tw13635789820388662623 : Nat := 0
def PySem.W.Fast.tw16274910523075055743 : Nat := 0
def PySem.W.Fast.tw15373596618037767736 : Nat := 0
def PySem.W.Fast.tw4305143463585324062 : Nat := 0
def PySem.W.Fast.tw5012908678095930615 : Nat := 0
def PySem.W.Fast.tw14349388302289325838 : Nat := 0
def PySem.W.Fast.tw12252673985433648592 : Nat := 0
def PySem.W.Fast.tw11844145841504659521 : Nat := 0
def PySem.W.Fast.tw5385473812190197441 : Nat := 0
def PySem.W.Fast.tw6282896057407114832 : Nat := 0
def PySem.W.Fast.tw13305991374665706134 : Nat := 0
def PySem.W.Fast.tw9151264644696614574 : Nat := 0
def PySem.W.Fast.tw7176386076806930860 : Nat := 0
def PySem.W.Fast.tw1056174208280531942 : Nat := 0
def PySem.W.Fast.tw14653750908775710675 : Nat := 0
def PySem.W.Fast.tw3748668316711094454 : Nat := 0
def PySem.W.Fast.tw6789107704410408592 : Nat := 0
def PySem.W.Fast.tw9759575878497947475 : Nat := 0
def PySem.W.Fast.tw5659566200465313045 : Nat := 0
def PySem.W.Fast.tw14488992080675779331 : Nat := 0
def PySem.W.Fast.tw7122637213180468224 : Nat := 0
def PySem.W.Fast.tw4019932258411214723 : Nat := 0
def PySem.W.Fast.tw15142010876602963973 : Nat := 0
def PySem.W.Fast.tw17146296681571388565 : Nat := 0
def PySem.W.Fast.tw7255552399828880652 : Nat := 0
def PySem.W.Fast.tw4675700551036768151 : Nat := 0
def PySem.W.Fast.tw959285258383993494 : Nat := 0
def PySem.W.Fast.tw3318949678672344080 : Nat := 0
def PySem.W.Fast.tw5809574814020344523 : Nat := 0
def PySem.W.Fast.tw8339192984495899628 : Nat := 0
def PySem.W.Fast.tw17212771593657086487 : Nat := 0
def PySem.W.Fast.tw5745525735920109799 : Nat := 0
def PySem.W.Fast.tw4393367916437217966 : Nat := 0
def PySem.W.Fast.tw15937032094608275412 : Nat := 0
def PySem.W.Fast.tw14759470218261645863 : Nat := 0
def PySem.W.Fast.tw1280733190149281333 : Nat := 0
def PySem.W.Fast.tw5104079164372206989 : Nat := 0
def PySem.W.Fast.tw1852614952726558694 : Nat := 0
def PySem.W.Fast.tw7908495607965551902 : Nat := 0
def PySem.W.Fast.tw14514258448165478126 : Nat := 0
def PySem.W.Fast.tw2555700360862412471 : Nat := 0
def PySem.W.Fast.tw10408076523688752800 : Nat := 0
def PySem.W.Fast.tw4495534940430036875 : Nat := 0
def PySem.W.Fast.tw15162218425304617813 : Nat := 0
def PySem.W.Fast.tw18069962794183402301 : Nat := 0
def PySem.W.Fast.tw7977391591879551012 : Nat := 0
def PySem.W.Fast.tw14749443087519192872 : Nat := 0
def PySem.W.Fast.tw18001120885217655882 : Nat := 0
def PySem.W.Fast.tw8812909023512996291 : Nat := 0
def PySem.W.Fast.tw17099092707831831503 : Nat := 0
def PySem.W.Fast.tw17077858519475704658 : Nat := 0
def PySem.W.Fast.tw5815288242819805994 : Nat := 0
def PySem.W.Fast.tw1373079578491336108 : Nat := 0
def PySem.W.Fast.tw12476936946136112552 : Nat := 0
def PySem.W.Fast.tw5745253609900724508 : Nat := 0
def PySem.W.Fast.tw3487994330860468901 : Nat := 0
def PySem.W.Fast.tw7835820470180585378 : Nat := 0
def PySem.W.Fast.tw17649290275586995803 : Nat := 0
def PySem.W.Fast.tw15799088823545311943 : Nat := 0
def PySem.W.Fast.tw14899486647633489018 : Nat := 0
def PySem.W.Fast.tw3609287944475487337 : Nat := 0
def PySem.W.Fast.tw16387714639894268318 : Nat := 0
def PySem.W.Fast.tw18148057120727759114 : Nat := 0
def PySem.W.Fast.tw4753371380223322080 : Nat := 0
def PySem.W.Fast.tw16170093366804044313 : Nat := 0
def PySem.W.Fast.tw3589745101266148716 : Nat := 0
def PySem.W.Fast.tw17857632476767036096 : Nat := 0
def PySem.W.Fast.tw976908801160337859 : Nat := 0
def PySem.W.Fast.tw5729080314015992559 : Nat := 0
def PySem.W.Fast.tw422550487394474939 : Nat := 0
def PySem.W.Fast.tw12723400288462819710 : Nat := 0
open PySem PySem.W PyProof.Rows
set_option maxRecDepth 100000 in
set_option maxHeartbeats 0 in
theorem PySem.Challenge.cw_ringfell_k80_numbers_and_logs_written_holds : PySem.Challenge.rw_ringfell_k80_numbers_and_logs_written.Holds := by
 w_on; o_law; k_head; (case hw => w_witness2)
 k_fill
 refine K80.walk (l := PySem.Challenge.rw_ringfell_k80_numbers_and_logs_written) rfl rfl (fun w h Y => PySem.W.kIn_of Y) ?F
 case F =>
  intro w mg fa h KX G hmg
  refine' K80.all_mk KX G hmg ?_ ?_ ?_ ?_ ?_ ?_ ?_ ?_ ?_ ?_ ?_ ?_ ?_ ?_ ?_ ?_ ?_ ?_ ?_ ?_ ?_ ?_ ?_ ?_ ?_ ?_ ?_ ?_ ?_ ?_ ?_ ?_ ?_ ?_ ?_ ?_ ?_ ?_ ?_ ?_ ?_
  any_goals k_is
  any_goals (refine' L2.HasF.mk ?a ?l ?c ?k; (case a => k_is); (case l => k_is); (case c => k_is); (case k => k_is))
  any_goals k_keys
  all_goals kernel_rfl
