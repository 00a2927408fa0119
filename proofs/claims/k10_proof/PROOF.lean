import PyProof.Rows.All
import Wide.All
import OpenK.AllK
import Wide.FinOn
import Lean
import PyProof.EqAt
import PyProof.EqKinds
import PyProof.TupleCall
import KE.KTryMore
import PyProof.NsDelKeeps
import KE.KNest
import PyProof.StrLawsTight
import PyProof.StrBlockI
import PyProof.StrBlock2
import PyProof.StrCalls6
import PyProof.Rows.StrCase
import PyProof.Rows.StrFirst
import PySem.Challenge.RW_lightmark_k10_beside
-- CHANGE: your row's module here, as the last of these rows
set_option Elab.async false
set_option linter.all false
set_option maxRecDepth 100000
/-! THE HAND LAYER, for ints, bools, texts, own classes, LISTS and tuples (index, slices, in, append, pop ..), calls, loops. Paste it whole ahead of your own text; what your proof does not reach may be deleted. -/
namespace L2
open PySem PySem.Spec PyProof.Rows

/-- a key: an int or a str -/
abbrev Key := Sum Int Str
def keyIs : Key → Value → Bool
  | .inl k, v => Value.isInt k v
  | .inr x, v => Value.isStrOf x v
def keyH (w : World) : Key → Int
  | .inl k => hashInt k
  | .inr x => hashStr w x
theorem keyIs_shape : ∀ {k : Key} {v : Value}, keyIs k v = true → (∃ i t, k = Sum.inl i ∧ v = Value.int i t) ∨ (∃ x t, k = Sum.inr x ∧ v = Value.str x t)
  | .inl i, v, h => by
    obtain ⟨t, e⟩ := Value.isInt_shape (k := i) (v := v) h
    exact .inl ⟨i, t, rfl, e⟩
  | .inr x, v, h => by
    obtain ⟨t, e⟩ := Value.isStrOf_shape (x := x) (v := v) h
    exact .inr ⟨x, t, rfl, e⟩
theorem key_ll (a b : Int) : decide ((Sum.inl a : Key) = Sum.inl b) = (a == b) := by
  by_cases e : a = b
  · subst e; simp
  · have h : ¬ (Sum.inl a : Key) = Sum.inl b := fun q => e (Sum.inl.inj q)
    rw [decide_eq_false h]
    exact (beq_eq_false_iff_ne.mpr e).symm
theorem key_rr (a b : Str) : decide ((Sum.inr a : Key) = Sum.inr b) = decide (a = b) := by
  by_cases e : a = b
  · subst e; simp
  · have h : ¬ (Sum.inr a : Key) = Sum.inr b := fun q => e (Sum.inr.inj q)
    rw [decide_eq_false h, decide_eq_false e]
theorem key_lr (a : Int) (b : Str) : decide ((Sum.inl a : Key) = Sum.inr b) = false := decide_eq_false (fun q => nomatch q)
theorem key_rl (a : Str) (b : Int) : decide ((Sum.inr a : Key) = Sum.inl b) = false := decide_eq_false (fun q => nomatch q)

def mixKind (prog : Program) (w : World) : PySem.KeyKind prog w Key where
  is := keyIs
  hash := keyH w
  inj := fun v a b ha hb => by
    rcases keyIs_shape ha with ⟨i, t, rfl, rfl⟩ | ⟨x, t, rfl, rfl⟩
    · rcases keyIs_shape hb with ⟨j, u, rfl, e⟩ | ⟨y, u, rfl, e⟩
      · injection e with e1 _; rw [e1]
      · exact nomatch e
    · rcases keyIs_shape hb with ⟨j, u, rfl, e⟩ | ⟨y, u, rfl, e⟩
      · exact nomatch e
      · injection e with e1 _; rw [e1]
  byValue := fun k v h => by
    rcases keyIs_shape h with ⟨i, t, rfl, rfl⟩ | ⟨x, t, rfl, rfl⟩ <;> rfl
  pyHash := fun hv h => by
    rcases keyIs_shape hv with ⟨i, t, rfl, rfl⟩ | ⟨x, t, rfl, rfl⟩
    · exact wpAny_pyHash_int h
    · exact wpAny_pyHash_str h
  eqBool := fun hu hv h => by
    rcases keyIs_shape hu with ⟨i, t, rfl, rfl⟩ | ⟨x, t, rfl, rfl⟩
    · rcases keyIs_shape hv with ⟨j, u, rfl, rfl⟩ | ⟨y, u, rfl, rfl⟩
      · rw [key_ll] at h; exact wpAny_eqBool_int h
      · rw [key_lr] at h; exact SeqAt.EqAt.int_str i t y u _ _ _ _ h
    · rcases keyIs_shape hv with ⟨j, u, rfl, rfl⟩ | ⟨y, u, rfl, rfl⟩
      · rw [key_rl] at h; exact SeqAt.EqAt.str_int x t j u _ _ _ _ h
      · rw [key_rr] at h; exact wpAny_eqBool_str h
  «strs» := fun k x t v h => by
    rcases keyIs_shape h with ⟨i, u, rfl, e⟩ | ⟨y, u, rfl, e⟩
    · exact nomatch e
    · injection e with e1 _
      subst e1
      cases v <;> rfl

end L2

namespace L2
open PySem PySem.Spec PyProof.Rows

/-- a value, without the heap -/
inductive V where
  | non | bl (b : Bool) | int (i : Int) | str (x : Str) | byt (b : Array UInt8) | flt (b : UInt64) | ref (a : Addr) | ty (n : String)
  deriving DecidableEq

def RelV : V → Value → Prop
  | .non, u => u = Value.none
  | .bl b, u => u = Value.bool b
  | .int i, u => ∃ t, u = Value.int i t
  | .str x, u => ∃ t, u = Value.str x t
  | .byt b, u => ∃ t, u = Value.bytes b t
  | .flt b, u => ∃ t, u = Value.float b t
  | .ref a, u => u = Value.ref a
  | .ty n, u => u = Value.type n

abbrev Vals : List V → List Value → Prop := Paired RelV
theorem Vals.length {xs : List V} {us : List Value} (r : Vals xs us) : xs.length = us.length := Paired.length r
theorem Vals.get : ∀ {xs : List V} {us : List Value} {i : Nat} {x : V}, Vals xs us → xs[i]? = some x → ∃ u, us[i]? = some u ∧ RelV x u
  | _, _, _, _, .nil, e => by simp at e
  | _, _, 0, _, .cons r _, e => by simp at e; subst e; exact ⟨_, rfl, r⟩
  | _, _, i + 1, x, .cons _ t, e => by
    obtain ⟨u, h1, h2⟩ := Vals.get (i := i) (x := x) t (by simpa using e)
    exact ⟨u, by simpa using h1, h2⟩
theorem Vals.set {x : V} {u : Value} (r : RelV x u) : ∀ {xs : List V} {us : List Value} (i : Nat), Vals xs us → Vals (xs.set i x) (us.set i u)
  | _, _, _, .nil => .nil
  | _, _, 0, .cons _ t => .cons r t
  | _, _, i + 1, .cons q t => .cons q (Vals.set r i t)
theorem Vals.append : ∀ {xs ys : List V} {us ws : List Value}, Vals xs us → Vals ys ws → Vals (xs ++ ys) (us ++ ws)
  | _, _, _, _, .nil, s => s
  | _, _, _, _, .cons r t, s => .cons r (Vals.append t s)
theorem Vals.take : ∀ {xs : List V} {us : List Value} (n : Nat), Vals xs us → Vals (xs.take n) (us.take n)
  | _, _, 0, _ => .nil
  | _, _, _ + 1, .nil => .nil
  | _, _, n + 1, .cons r t => .cons r (Vals.take n t)
theorem Vals.drop : ∀ {xs : List V} {us : List Value} (n : Nat), Vals xs us → Vals (xs.drop n) (us.drop n)
  | _, _, 0, r => r
  | _, _, _ + 1, .nil => .nil
  | _, _, n + 1, .cons _ t => Vals.drop n t

def RelO : Option V → Option Value → Prop
  | some v, some u => RelV v u
  | none, none => True
  | _, _ => False
def KV {κ : Type} : List (κ × V) → List (κ × Value) → Prop := Paired fun (p : κ × V) (q : κ × Value) => p.1 = q.1 ∧ RelV p.2 q.2

/-- a key of a dict (00_mix): an int or a text -/
def kV : Key → V
  | .inl i => .int i
  | .inr x => .str x

/-- what stands at a tracked address -/
inductive HO where
  /-- a list -/
  | lst (xs : List V)
  /-- a tuple (never changes) -/
  | tup (xs : List V)
  /-- a dict whose keys are ints and texts; one whose keys are tuples of ints and texts (the empty one is both) -/
  | dK (kvs : List (Key × V)) | dT (kvs : List (List Key × V))
  /-- a set of ints: its members, its size -/
  | set (S : Int → Bool) (n : Nat)
  /-- an instance of the class at C, its dict at dx, its attributes -/
  | ins (C dx : Addr) (fs : List (Str × V))
  /-- the dict of the instance at x -/
  | own (x : Addr)
  /-- the dict of an exception -/
  | xd (fs : List (Str × V))
  /-- a bound method, f of x -/
  | met (f x : Addr)
  /-- a range object lo, lo + 1, .. below hi -/
  | rng (lo hi : Int)
  /-- a thing that is known to the object (the script; a dict while a loop walks it): read, never written while it is so -/
  | frz (o : Obj) (u : HO)
  /-- a code object's table -/
  | tbl (ps : Array Value)
  /-- any other thing, by what is true of its one object (a def of one's own: SetO a S n := HO.ext fun h => ..) -/
  | ext (φ : Heap → Prop)

abbrev Hp := Addr → Option HO
def upd (H : Hp) (a : Addr) (o : HO) : Hp := fun b => if b = a then some o else H b
theorem upd_same {H : Hp} {a : Addr} {o : HO} : upd H a o a = some o := by unfold upd; rw [if_pos rfl]
theorem upd_ne {H : Hp} {a b : Addr} {o : HO} (h : b ≠ a) : upd H a o b = H b := by unfold upd; rw [if_neg h]
theorem ne_of_none {H : Hp} {a b : Addr} {o : HO} (h : H a = some o) (h' : H b = none) : a ≠ b := by
  intro e; subst e; rw [h] at h'; cases h'

section
variable (P : Program) (w : World)
def ObjOk (H : Hp) (h : Heap) (a : Addr) : HO → Prop
  | .lst xs => xs.length ≤ sizeLine ∧ ∃ (its : List Value) (n : Nat), Vals xs its ∧ h.get? a = some { cls := .type "list", data := .seq its.toArray n }
  | .tup xs => xs.length ≤ sizeLine ∧ ∃ its : List Value, Vals xs its ∧ IsTup h a its.toArray
  | .dK kvs => kvs.length ≤ sizeLine ∧ (a == sysModules) = false ∧ ∃ vs, KV kvs vs ∧ h.DictOf (mixKind P w) a vs
  | .dT kvs => kvs.length ≤ sizeLine ∧ (a == sysModules) = false ∧ ∃ xs : List (List Key × Addr × Value),
      Paired (fun (p : List Key × V) (q : List Key × Addr × Value) => p.1 = q.1 ∧ H q.2.1 = some (.tup (p.1.map kV)) ∧ RelV p.2 q.2.2) kvs xs ∧
      ∃ o es ep, h.get? a = some o ∧ o.ExactDict ∧ o.data = .dict es ep ∧ es.toList = xs.map (entryOfKey (tupleKind (mixKind P w))) ∧ (xs.map (·.1)).Nodup
  | .set S n => h.SetOf (intKind P w) a S n
  | .ins C dx fs => H dx = some (.own a) ∧ fs.length ≤ 1000 ∧ dx ≠ a ∧ h.get? a = some (PySem.W.instObj C dx) ∧
      ∃ mA, h.Ns1 dx mA ∧ (∀ f, RelO (fs.lookup f) (mA f)) ∧ PySem.Within mA (fs.map (·.1))
  | .own _ => ∃ o, h.get? a = some o
  | .xd fs => ∃ mA, h.Ns1 a mA ∧ ∀ f, RelO (fs.lookup f) (mA f)
  | .rng lo hi => ∃ t u v, h.get? a = some { cls := .type "range", data := .fields #[.int lo t, .int hi u, .int 1 v] }
  | .frz o u => h.get? a = some o ∧ ObjOk H h a u
  | .tbl ps => h.get? a = some { cls := .none, data := .fields ps }
  | .met f x => h.get? a = some (PySem.W.methodObj (.ref f) (.ref x))
  | .ext φ => φ h ∧ (∃ o, h.get? a = some o) ∧ ∀ h1 h2 : Heap, φ h1 → (∀ o, h1.get? a = some o → h2.get? a = some o) → φ h2
/-- the abstract heap is held -/
def HOk (H : Hp) (h : Heap) : Prop := ∀ a o, H a = some o → ObjOk P w H h a o
end

section
variable {P : Program} {w : World} {H H' : Hp} {h h' : Heap} {a : Addr} {o : HO}
theorem ObjOk.lt (x : ObjOk P w H h a o) : a < h.objs.size := by
  cases o with
  | lst xs => obtain ⟨_, _, _, _, e⟩ := x; exact Heap.lt_size e
  | tup xs => obtain ⟨_, _, _, p⟩ := x; exact p.lt
  | dK kvs => obtain ⟨_, _, _, _, o, _, _, e, _⟩ := x; exact Heap.lt_size e
  | dT kvs => obtain ⟨_, _, _, _, o, _, _, e, _⟩ := x; exact Heap.lt_size e
  | set S n => obtain ⟨o, _, _, _, e, _⟩ := x; exact Heap.lt_size e
  | ins C dx fs => obtain ⟨_, _, _, e, _⟩ := x; exact Heap.lt_size e
  | own y => obtain ⟨_, e⟩ := x; exact Heap.lt_size e
  | xd fs => obtain ⟨_, ⟨_, _, _, e, _⟩, _⟩ := x; exact Heap.lt_size e
  | rng lo hi => obtain ⟨_, _, _, e⟩ := x; exact Heap.lt_size e
  | frz ob u => obtain ⟨e, _⟩ := x; exact Heap.lt_size e
  | tbl ps => exact Heap.lt_size (show h.get? a = some _ from x)
  | met f y => exact Heap.lt_size (show h.get? a = some _ from x)
  | ext φ => obtain ⟨_, ⟨_, e⟩, _⟩ := x; exact Heap.lt_size e
theorem Paired.mapP {α β : Type} {F G : α → β → Prop} : ∀ {l₁ : List α} {l₂ : List β}, Paired F l₁ l₂ → (∀ a b, F a b → G a b) → Paired G l₁ l₂
  | _, _, .nil, _ => .nil
  | _, _, .cons r t, f => .cons (f _ _ r) (Paired.mapP t f)
/-- what an object's description leans on: its own object, its own dict, the tuples -/
theorem ObjOk.stay (x : ObjOk P w H h a o) (k : ∀ b u, (b = a ∨ H b = some (.own a)) → h.get? b = some u → h'.get? b = some u)
    (ho : ∀ b, H b = some (.own a) → H' b = some (.own a)) (ht : ∀ b xs, H b = some (.tup xs) → H' b = some (.tup xs)) : ObjOk P w H' h' a o := by
  induction o with
  | lst xs => obtain ⟨z, its, n, r, e⟩ := x; exact ⟨z, its, n, r, k _ _ (.inl rfl) e⟩
  | tup xs => obtain ⟨z, its, r, ob, e, c⟩ := x; exact ⟨z, its, r, ob, k _ _ (.inl rfl) e, c⟩
  | dK kvs => obtain ⟨z, y, vs, r, ob, es, ep, e, c⟩ := x; exact ⟨z, y, vs, r, ob, es, ep, k _ _ (.inl rfl) e, c⟩
  | dT kvs =>
    obtain ⟨z, y, xs, r, ob, es, ep, e, c⟩ := x
    exact ⟨z, y, xs, Paired.mapP r fun p q z => ⟨z.1, ht _ _ z.2.1, z.2.2⟩, ob, es, ep, k _ _ (.inl rfl) e, c⟩
  | set S n => obtain ⟨ob, es, ep, t, e, c⟩ := x; exact ⟨ob, es, ep, t, k _ _ (.inl rfl) e, c⟩
  | ins C dx fs =>
    obtain ⟨d, z, ne, e, mA, ⟨od, es, ep, e2, c⟩, r⟩ := x
    exact ⟨ho _ d, z, ne, k _ _ (.inl rfl) e, mA, ⟨od, es, ep, k _ _ (.inr d) e2, c⟩, r⟩
  | own y => obtain ⟨ob, e⟩ := x; exact ⟨ob, k _ _ (.inl rfl) e⟩
  | xd fs => obtain ⟨mA, ⟨od, es, ep, e, c⟩, r⟩ := x; exact ⟨mA, ⟨od, es, ep, k _ _ (.inl rfl) e, c⟩, r⟩
  | rng lo hi => obtain ⟨t, u, v, e⟩ := x; exact ⟨t, u, v, k _ _ (.inl rfl) e⟩
  | frz ob u ih => obtain ⟨e, q⟩ := x; exact ⟨k _ _ (.inl rfl) e, ih q⟩
  | tbl ps =>
    have e : h.get? a = some { cls := .none, data := .fields ps } := x
    show h'.get? a = some { cls := .none, data := .fields ps }
    exact k a _ (.inl rfl) e
  | met f y =>
    have e : h.get? a = some (PySem.W.methodObj (.ref f) (.ref y)) := x
    show h'.get? a = some (PySem.W.methodObj (.ref f) (.ref y))
    exact k a _ (.inl rfl) e
  | ext φ => obtain ⟨p, ⟨o, e⟩, st⟩ := x; exact ⟨st _ _ p fun o q => k _ _ (.inl rfl) q, ⟨o, k _ _ (.inl rfl) e⟩, st⟩
theorem HOk.lt (x : HOk P w H h) (e : H a = some o) : a < h.objs.size := (x a o e).lt
theorem HOk.fresh (x : HOk P w H h) (e : h.objs.size ≤ a) : H a = none := by
  cases q : H a with
  | none => rfl
  | some u => exact absurd (Nat.lt_of_lt_of_le (x.lt q) e) (Nat.lt_irrefl _)
/-- every object of the heap is kept -/
theorem HOk.kept (x : HOk P w H h) (k : ∀ b u, h.get? b = some u → h'.get? b = some u) : HOk P w H h' := fun a o e =>
  (x a o e).stay (fun b u _ q => k b u q) (fun _ q => q) fun _ _ q => q
/-- a new object is laid and tracked -/
theorem HOk.laid (x : HOk P w H h) (k : ∀ b u, h.get? b = some u → h'.get? b = some u) (hp : h.objs.size ≤ a) (new : ObjOk P w (upd H a o) h' a o) : HOk P w (upd H a o) h' := fun b u e => by
  have hn := x.fresh hp
  by_cases hb : b = a
  · subst hb; rw [upd_same] at e; cases e; exact new
  · rw [upd_ne hb] at e
    exact (x b u e).stay (fun c v _ q => k c v q) (fun c q => by rw [upd_ne (ne_of_none q hn)]; exact q) fun c xs q => by rw [upd_ne (ne_of_none q hn)]; exact q
end

/-- what may be read as u: it is u, or a known u -/
def Rd (H : Hp) (a : Addr) (u : HO) : Prop := H a = some u ∨ ∃ o, H a = some (.frz o u)
theorem Rd.ok {P : Program} {w : World} {H : Hp} {h : Heap} {a : Addr} {u : HO} (r : Rd H a u) (x : HOk P w H h) : ObjOk P w H h a u := by
  rcases r with r | ⟨o, r⟩
  · exact x a u r
  · obtain ⟨_, q⟩ := x a _ r
    exact q
/-- what may be written -/
def Mut : Option HO → Prop
  | some (.lst _) => True
  | some (.dK _) => True
  | some (.dT _) => True
  | some (.set _ _) => True
  | some (.ins _ _ _) => True
  | some (.ext _) => True
  | _ => False
section
variable {P : Program} {w : World} {H : Hp} {h h' : Heap} {x e : Addr} {o' : HO}
/-- the object at e is changed: x itself, or the dict of the instance x -/
theorem HOk.write (ok : HOk P w H h) (mu : Mut (H x)) (he : e = x ∨ H e = some (.own x)) (k : ∀ b u, b ≠ e → h.get? b = some u → h'.get? b = some u) (heo : ∃ u, h'.get? e = some u)
    (new : ObjOk P w (upd H x o') h' x o') : HOk P w (upd H x o') h' := fun b u q => by
  have nown : ∀ c y, H c = some (.own y) → c ≠ x := fun c y r z => by subst z; rw [r] at mu; exact mu
  have ntup : ∀ c xs, H c = some (.tup xs) → c ≠ x := fun c xs r z => by subst z; rw [r] at mu; exact mu
  by_cases hb : b = x
  · subst hb; rw [upd_same] at q; cases q; exact new
  · rw [upd_ne hb] at q
    by_cases hbe : b = e
    · have q' : H b = some (.own x) := by
        rcases he with z | z
        · exact absurd (hbe.trans z) hb
        · rw [hbe]; exact z
      rw [q] at q'; cases q'
      obtain ⟨v, hv⟩ := heo
      exact ⟨v, by rw [hbe]; exact hv⟩
    · refine (ok b u q).stay (fun c v hc r => k c v ?_ r) (fun c r => by rw [upd_ne (nown c b r)]; exact r) fun c xs r => by rw [upd_ne (ntup c xs r)]; exact r
      rcases hc with rfl | hc
      · exact hbe
      · rintro rfl
        rcases he with z | z
        · exact nown c b hc z
        · rw [hc] at z; cases z; exact hb rfl
end

/-! ### kept unless tracked; of the frames at fs (the callers') the slots may change (an exception that passes writes there); of the records at ex (iterators) nothing is said -/
structure Un (fs ex : List Addr) (H H' : Hp) (h h' : Heap) : Prop where
  keep : ∀ b o, h.get? b = some o → H b = none → b ∉ fs → b ∉ ex → h'.get? b = some o
  slot : ∀ b o, h.get? b = some o → H b = none → b ∈ fs → b ∉ ex → ∃ sl, h'.get? b = some { o with slots := sl }
  free : ∀ b o, h.get? b = some o → H b = none → b ∉ ex → H' b = none
  there : ∀ b o, h.get? b = some o → b ∉ ex → ∃ o', h'.get? b = some o'
  tups : ∀ b xs, H b = some (.tup xs) → H' b = some (.tup xs)
  frzs : ∀ b o u, H b = some (.frz o u) → H' b = some (.frz o u)
  tbls : ∀ b ps, H b = some (.tbl ps) → ∃ more, H' b = some (.tbl (ps ++ more))
section
variable {fs fs' ex ex' : List Addr} {H H1 H2 : Hp} {h h1 h2 h' : Heap} {a x e : Addr} {o : HO}
theorem Un.any (u : Un fs ex H H1 h h1) {b : Addr} {ob : Obj} (q : h.get? b = some ob) (n : H b = none) (hx : b ∉ ex) : ∃ sl, h1.get? b = some { ob with slots := sl } := by
  by_cases hb : b ∈ fs
  · exact u.slot b ob q n hb hx
  · exact ⟨ob.slots, u.keep b ob q n hb hx⟩
theorem Un.kept (k : ∀ b u, h.get? b = some u → h'.get? b = some u) : Un fs ex H H h h' :=
  ⟨fun b ob q _ _ _ => k b ob q, fun b ob q _ _ _ => ⟨ob.slots, k b ob q⟩, fun _ _ _ n _ => n, fun b ob q _ => ⟨ob, k b ob q⟩, fun _ _ q => q, fun _ _ _ q => q, fun _ ps q => ⟨#[], by rw [q]; simp⟩⟩
theorem Un.refl : Un fs ex H H h h := Un.kept fun _ _ q => q
theorem Un.laid (k : ∀ b u, h.get? b = some u → h'.get? b = some u) (hp : h.objs.size ≤ a) (hn : H a = none) : Un fs ex H (upd H a o) h h' where
  keep := fun b u q _ _ _ => k b u q
  slot := fun b u q _ _ _ => ⟨u.slots, k b u q⟩
  free := fun b u q n _ => by rw [upd_ne (Nat.ne_of_lt (Nat.lt_of_lt_of_le (Heap.lt_size q) hp))]; exact n
  there := fun b u q _ => ⟨u, k b u q⟩
  tups := fun b xs q => by rw [upd_ne (ne_of_none q hn)]; exact q
  frzs := fun b u xs q => by rw [upd_ne (ne_of_none q hn)]; exact q
  tbls := fun b ps q => ⟨#[], by rw [upd_ne (ne_of_none q hn), q]; simp⟩
theorem Un.write (mu : Mut (H x)) (he : e = x ∨ H e = some (.own x)) (k : ∀ b u, b ≠ e → h.get? b = some u → h'.get? b = some u) (heo : ∃ u, h'.get? e = some u) : Un fs ex H (upd H x o) h h' := by
  have hx : ∀ b, H b = none → b ≠ x := fun b n z => by subst z; rw [n] at mu; exact mu
  have hb : ∀ b, H b = none → b ≠ e := fun b n z => by
    subst z
    rcases he with r | r
    · exact hx b n r
    · rw [n] at r; cases r
  have hm : ∀ b u, H b = some u → ¬ Mut (some u) → b ≠ x := fun b u q nm z => by subst z; rw [q] at mu; exact nm mu
  refine ⟨fun b u q n _ _ => k b u (hb b n) q, fun b u q n _ _ => ⟨u.slots, k b u (hb b n) q⟩, fun b u q n _ => by rw [upd_ne (hx b n)]; exact n, fun b u q _ => ?_,
    fun b xs q => by rw [upd_ne (hm b _ q fun z => z)]; exact q, fun b u xs q => by rw [upd_ne (hm b _ q fun z => z)]; exact q, fun b ps q => ⟨#[], by rw [upd_ne (hm b _ q fun z => z), q]; simp⟩⟩
  by_cases hbe : b = e
  · subst hbe; exact heo
  · exact ⟨u, k b u hbe q⟩
end

/-! ### the heap without what is tracked -/
def trk (h : Heap) (H : Hp) : List Addr := (List.range h.objs.size).filter fun a => (H a).isSome
def hidT (h : Heap) (H : Hp) : Heap := PySem.W.hideAll h (trk h H)
theorem hidT_size (h : Heap) (H : Hp) : (hidT h H).objs.size = h.objs.size := PySem.W.hideAll_size _ _
theorem hidT_get {h : Heap} {H : Hp} {b : Addr} {o : Obj} (e : h.get? b = some o) (n : H b = none) : (hidT h H).get? b = some o :=
  PySem.W.hideAll_get _ e fun hm => by
    have q : (H b).isSome = true := (List.mem_filter.mp hm).2
    rw [n] at q; simp at q
theorem of_hidT {h : Heap} {H : Hp} {b : Addr} {o : Obj} (e : (hidT h H).get? b = some o) : h.get? b = some o ∧ H b = none := by
  have e' : h.get? b = some o := PySem.W.of_hideAll (trk h H) e
  refine ⟨e', ?_⟩
  cases q : H b with
  | none => rfl
  | some x =>
    have hm : b ∈ trk h H := List.mem_filter.mpr ⟨List.mem_range.mpr (Heap.lt_size e'), by simp [q]⟩
    have z : (hidT h H).get? b = none := PySem.W.hideAll_none (trk h H) hm
    rw [z] at e; cases e

/-! ### OpenK's ledger, filled with every new object but one -/
end L2

namespace L2
open PySem PySem.Spec PyProof.Rows

/-- the module's facts, over the base: the heap at the law's entry without what is tracked there -/
structure Mod (K : PySem.W.Frag) (mg : Str → Option Value) (base : Heap) : Prop where
  kin : K.In base
  glob : base.Ns mainGlobals mg
  blt : ∃ mb, base.Ns builtinsNs mb ∧ ∀ x : Str, x ≠ "__name__" → mb x = bootBuiltins x
  nolimit : base.NoLimit

/-- the context: a def's body (or a comprehension's block) running. base: fixed through the whole law; s₀, H₀: the entry; outer: the frames whose slots others may change (a def's callers); stack: all frames that run;
   ex: iterators that were made ahead of the entry and are walked here (a comprehension's); fn: the names whose cells were made at the entry (a def: all; a comprehension's block: its own); calm: not within an except suite; pn: pins that every state bears; xe: what is wanted of an exception that leaves the code -/
structure Cx where
  prog : Program
  w : World
  K : PySem.W.Frag
  mg : Str → Option Value
  base : Heap
  A : Around
  N : List Str
  s₀ : Shared
  H₀ : Hp
  env : Env
  outer : List Env
  stack : List Env
  ex : List Addr
  fn : Str → Bool
  calm : Bool
  pn : List (Addr × Obj)
  xe : Value → Shared → Prop
/-- the callers' frames -/
def frs (l : List Env) : List Addr := l.filterMap (·.frame)
abbrev Cx.fs (X : Cx) : List Addr := frs X.outer

def Vis (sc : Scope) (x : Str) : Prop := sc.names.lookup x = some .local ∨ sc.names.lookup x = some .cell ∨ sc.names.lookup x = some .free
def Loc (sc : Scope) (x : Str) : Prop := sc.names.lookup x = some .local ∨ sc.names.lookup x = some .cell
def Look (env : Env) (h : Heap) (m : Str → Option Value) (x : Str) (u : Value) : Prop :=
  (env.kindOf x = some .local ∧ m x = some u) ∨ ((env.kindOf x = some .cell ∨ env.kindOf x = some .free) ∧ ∃ c, env.cells.lookup x = some c ∧ h.IsCell c (some u))

structure Cx.Ok (X : Cx) : Prop where
  mod : Mod X.K X.mg X.base
  kind : X.env.scope.kind = .function
  glob : X.env.globals = mainGlobals
  blt : X.env.builtins = builtinsNs
  above : X.s₀.heap.objs.size ≤ X.env.locals
  inj : ∀ x y c, X.env.cells.lookup x = some c → X.env.cells.lookup y = some c → x = y
  has : ∀ x, (X.env.kindOf x = some .cell ∨ X.env.kindOf x = some .free) → ∃ c, X.env.cells.lookup x = some c
  cab : ∀ x c, X.fn x = true → X.env.cells.lookup x = some c → X.s₀.heap.objs.size ≤ c
  hd : X.calm = true → X.A.handled = none
  frames : X.A.frames = some X.stack
  stk : X.stack = X.outer ∨ (X.stack = X.env :: X.outer ∧ X.env.frame = some X.env.locals)
  exf : ∀ b ∈ X.ex, b ≠ X.env.locals ∧ ∀ x c, X.env.cells.lookup x = some c → c ≠ b
  bs : ∀ b o, X.base.get? b = some o → X.s₀.heap.get? b = some o ∧ X.H₀ b = none
  bsz : X.base.objs.size ≤ X.s₀.heap.objs.size
  noex : ∀ b o, X.base.get? b = some o → b ∉ X.ex
  exfs : ∀ b ∈ X.ex, b ∉ X.fs
  funs : X.s₀.heap.FunFrames X.base X.outer
  frf : ∀ b ∈ X.fs, X.H₀ b = none

structure Inv (X : Cx) (pins : List (Addr × Obj)) (σ : List (Option V)) (H : Hp) (s : Shared) : Prop where
  ok : X.Ok
  os : s.os = X.s₀.os
  bare : AllBare s.gens
  base : Un X.fs X.ex X.H₀ H X.s₀.heap s.heap
  loc : ∃ m, s.heap.Ns X.env.locals m ∧ ∀ (i : Nat) (x : Str) (v : V), X.N[i]? = some x → σ[i]? = some (some v) → Vis X.env.scope x → ∃ u, RelV v u ∧ Look X.env s.heap m x u
  cell : ∀ x c, X.env.cells.lookup x = some c → ∃ v, s.heap.IsCell c v
  free : H X.env.locals = none
  freeC : ∀ x c, X.env.cells.lookup x = some c → H c = none
  pin : ∀ p ∈ X.pn ++ pins, s.heap.get? p.1 = some p.2 ∧ H p.1 = none ∧ p.1 ≠ X.env.locals ∧ p.1 ∉ X.fs ∧ ∀ v, p.2.data ≠ .cell v
  hok : HOk X.prog X.w H s.heap
  len : σ.length = X.N.length
  tk : 0 < s.toks

section
variable {X : Cx} {pins : List (Addr × Obj)} {σ : List (Option V)} {H H' : Hp} {s : Shared} {h' : Heap}

theorem Cx.Ok.nofr (ok : X.Ok) {b : Addr} {o : Obj} (e : X.base.get? b = some o) : b ∉ X.fs := fun hb => by
  have := (ok.funs.mem hb).1
  rw [e] at this; cases this
theorem Inv.bs (I : Inv X pins σ H s) : ∀ b o, X.base.get? b = some o → s.heap.get? b = some o ∧ H b = none := fun b o e =>
  ⟨I.base.keep b o (I.ok.bs b o e).1 (I.ok.bs b o e).2 (I.ok.nofr e) (I.ok.noex b o e), I.base.free b o (I.ok.bs b o e).1 (I.ok.bs b o e).2 (I.ok.noex b o e)⟩
theorem Inv.bk (I : Inv X pins σ H s) : ∀ b o, X.base.get? b = some o → s.heap.get? b = some o := fun b o e => (I.bs b o e).1
theorem Inv.mod (I : Inv X pins σ H s) : Mod X.K X.mg X.base := I.ok.mod
theorem Inv.kIn (I : Inv X pins σ H s) : X.K.In s.heap := I.ok.mod.kin.keeps I.bk
theorem Inv.lt (I : Inv X pins σ H s) : X.env.locals < s.heap.objs.size := let ⟨_, hn, _⟩ := I.loc; hn.lt
theorem Inv.sz (I : Inv X pins σ H s) : X.s₀.heap.objs.size ≤ s.heap.objs.size := Nat.le_trans I.ok.above (Nat.le_of_lt I.lt)
theorem Inv.nofs (I : Inv X pins σ H s) {a : Addr} (h : s.heap.objs.size ≤ a) : a ∉ X.fs := fun hb => by
  obtain ⟨_, o, ho, _⟩ := I.ok.funs.mem hb
  exact absurd (Nat.lt_of_lt_of_le (Heap.lt_size ho) (Nat.le_trans I.sz h)) (Nat.lt_irrefl _)
theorem Inv.cne (I : Inv X pins σ H s) : ∀ x c, X.env.cells.lookup x = some c → c ≠ X.env.locals := fun x c e z => by
  obtain ⟨v, o, ho, hd⟩ := I.cell x c e
  obtain ⟨m, ⟨o', es, ep, ho', hd', _⟩, _⟩ := I.loc
  rw [z, ho'] at ho; cases ho; rw [hd'] at hd; cases hd
theorem Inv.funs (I : Inv X pins σ H s) : s.heap.FunFrames X.base X.outer := by
  have all : ∀ (l : List Env), (∀ b ∈ frs l, b ∈ X.fs) → X.s₀.heap.FunFrames X.base l → s.heap.FunFrames X.base l := by
    intro l
    induction l with
    | nil => intro _ _; trivial
    | cons env r ih =>
      intro hs hl
      obtain ⟨hk, ⟨L, o, hf, hn, ho, hd⟩, hr⟩ := hl
      have hL : L ∈ X.fs := hs L (by unfold frs; rw [List.filterMap_cons, hf]; exact List.mem_cons_self)
      obtain ⟨sl, e⟩ := I.base.slot L o ho (I.ok.frf L hL) hL fun z => I.ok.exfs L z hL
      exact ⟨hk, ⟨L, _, hf, hn, e, hd⟩, ih (fun b hb => hs b (by unfold frs; rw [List.filterMap_cons, hf]; exact List.mem_cons_of_mem _ hb)) hr⟩
  exact all X.outer (fun _ hb => hb) I.ok.funs

/-- the frames that run, for a call -/
theorem Inv.stack (I : Inv X pins σ H s) : s.heap.FunFrames X.base X.stack := by
  rcases I.ok.stk with e | ⟨e, hf⟩
  · rw [e]; exact I.funs
  · rw [e]
    obtain ⟨m, hn, _⟩ := I.loc
    refine .cons (by rw [I.ok.kind]; decide) hf hn ?_ I.funs
    exact Heap.get?_none_of_le (Nat.le_trans I.ok.bsz I.ok.above)
theorem Inv.stkSub (I : Inv X pins σ H s) : ∀ b ∈ frs X.stack, b ∈ X.env.locals :: X.fs := fun b hb => by
  rcases I.ok.stk with e | ⟨e, hf⟩
  · rw [e] at hb; exact List.mem_cons_of_mem _ hb
  · rw [e] at hb
    unfold frs at hb
    rw [List.filterMap_cons, hf] at hb
    exact hb
theorem Inv.stkFree (I : Inv X pins σ H s) : ∀ b ∈ frs X.stack, H b = none := fun b hb => by
  rcases List.mem_cons.mp (I.stkSub b hb) with e | hb
  · rw [e]; exact I.free
  · obtain ⟨_, o, ho, _⟩ := I.ok.funs.mem hb
    exact I.base.free b o ho (I.ok.frf b hb) fun z => I.ok.exfs b z hb

/-- THE STEP: the untracked objects but the frame and the records at ch are kept (the callers' frames up to slots), the frame's map is kept, the new abstract heap is held -/
theorem Inv.step {g' : Array GenState} {t' : Nat} {d' : Drawn} {ch : List Addr} (I : Inv X pins σ H s)
    (hch : ∀ b ∈ ch, (b ∈ X.ex ∨ X.s₀.heap.objs.size ≤ b) ∧ b ≠ X.env.locals ∧ (∀ x c, X.env.cells.lookup x = some c → c ≠ b) ∧ ∀ p ∈ X.pn ++ pins, p.1 ≠ b)
    (keep : ∀ b o, b ≠ X.env.locals → b ∉ X.fs → b ∉ ch → s.heap.get? b = some o → H b = none → h'.get? b = some o)
    (slot : ∀ b o, b ≠ X.env.locals → b ∈ X.fs → b ∉ ch → s.heap.get? b = some o → H b = none → ∃ sl, h'.get? b = some { o with slots := sl }) (free : ∀ b o, b ∉ ch → s.heap.get? b = some o → H b = none → H' b = none)
    (there : ∀ b o, b ∉ ch → s.heap.get? b = some o → ∃ o', h'.get? b = some o')
    (tups : ∀ b xs, H b = some (.tup xs) → H' b = some (.tup xs)) (frzs : ∀ b o u, H b = some (.frz o u) → H' b = some (.frz o u)) (tbls : ∀ b ps, H b = some (.tbl ps) → ∃ more, H' b = some (.tbl (ps ++ more)))
    (ns : ∀ m, s.heap.Ns X.env.locals m → h'.Ns X.env.locals m) (hok : HOk X.prog X.w H' h') (hg : AllBare g') (ht : 0 < t' := by first | assumption | exact Nat.succ_pos _ | (apply Inv.tk; assumption)) :
    Inv X pins σ H' { s with heap := h', gens := g', drawn := d', toks := t' } := by
  have neL : ∀ b o, X.s₀.heap.get? b = some o → b ≠ X.env.locals := fun b o e => Nat.ne_of_lt (Nat.lt_of_lt_of_le (Heap.lt_size e) I.ok.above)
  have neC : ∀ b o, X.s₀.heap.get? b = some o → b ∉ X.ex → b ∉ ch := fun b o e hx hb => by
    rcases (hch b hb).1 with z | z
    · exact hx z
    · exact absurd (Nat.lt_of_lt_of_le (Heap.lt_size e) z) (Nat.lt_irrefl _)
  have cellK : ∀ x c, X.env.cells.lookup x = some c → ∀ v, s.heap.IsCell c v → h'.IsCell c v := fun x c e v ⟨o, ho, hd⟩ => by
    have nch : c ∉ ch := fun z => (hch c z).2.2.1 x c e rfl
    by_cases hc : c ∈ X.fs
    · obtain ⟨sl, q⟩ := slot c o (I.cne x c e) hc nch ho (I.freeC x c e)
      exact ⟨_, q, hd⟩
    · exact ⟨o, keep c o (I.cne x c e) hc nch ho (I.freeC x c e), hd⟩
  refine ⟨I.ok, I.os, hg, ⟨fun b o e n hb hx => ?_, fun b o e n hb hx => ?_, fun b o e n hx => ?_, fun b o e hx => ?_, fun b xs e => tups b xs (I.base.tups b xs e), fun b o xs e => frzs b o xs (I.base.frzs b o xs e), fun b ps e => ?_⟩, ?_, fun x c e => ?_, ?_, fun x c e => ?_, fun p hp => ?_, hok, I.len, ht⟩
  · exact keep b o (neL b o e) hb (neC b o e hx) (I.base.keep b o e n hb hx) (I.base.free b o e n hx)
  · obtain ⟨sl, e1⟩ := I.base.slot b o e n hb hx
    obtain ⟨sl', e2⟩ := slot b _ (neL b o e) hb (neC b o e hx) e1 (I.base.free b o e n hx)
    exact ⟨sl', e2⟩
  · obtain ⟨o', e1⟩ := I.base.there b o e hx
    exact free b o' (neC b o e hx) e1 (I.base.free b o e n hx)
  · obtain ⟨o', e1⟩ := I.base.there b o e hx
    exact there b o' (neC b o e hx) e1
  · obtain ⟨m1, e1⟩ := I.base.tbls b ps e
    obtain ⟨m2, e2⟩ := tbls b _ e1
    exact ⟨m1 ++ m2, by rw [e2, Array.append_assoc]⟩
  · obtain ⟨m, hn, hl⟩ := I.loc
    refine ⟨m, ns m hn, fun i x v e1 e2 e3 => ?_⟩
    obtain ⟨u, r, l⟩ := hl i x v e1 e2 e3
    refine ⟨u, r, ?_⟩
    rcases l with l | ⟨k, c, e, z⟩
    · exact .inl l
    · exact .inr ⟨k, c, e, cellK x c e _ z⟩
  · obtain ⟨v, z⟩ := I.cell x c e
    exact ⟨v, cellK x c e v z⟩
  · obtain ⟨m, ⟨o, _, _, ho, _⟩, _⟩ := I.loc
    exact free _ o (fun z => (hch _ z).2.1 rfl) ho I.free
  · obtain ⟨v, o, ho, hd⟩ := I.cell x c e
    exact free c o (fun z => (hch c z).2.2.1 x c e rfl) ho (I.freeC x c e)
  · obtain ⟨e, n, ne, nf, d⟩ := I.pin p hp
    have nch : p.1 ∉ ch := fun z => (hch p.1 z).2.2.2 p hp rfl
    exact ⟨keep p.1 p.2 ne nf nch e n, free p.1 p.2 nch e n, ne, nf, d⟩
/-- .. where the frame's own object is kept too -/
theorem Inv.un {t' : Nat} (I : Inv X pins σ H s) (u : Un X.fs [] H H' s.heap h') (hok : HOk X.prog X.w H' h') (ht : 0 < t' := by first | assumption | exact Nat.succ_pos _ | (apply Inv.tk; assumption)) : Inv X pins σ H' { s with heap := h', toks := t' } := by
  obtain ⟨m, ⟨o, es, ep, ho, r⟩, _⟩ := id I.loc
  obtain ⟨sl, hL⟩ := u.any ho I.free (by simp)
  exact I.step (g' := s.gens) (d' := s.drawn) (ch := []) (fun _ z => nomatch z) (fun b o _ hb _ e n => u.keep b o e n hb (by simp)) (fun b o _ hb _ e n => u.slot b o e n hb (by simp)) (fun b o _ e n => u.free b o e n (by simp)) (fun b o _ e => u.there b o e (by simp)) u.tups u.frzs u.tbls (fun m' hm => by
    obtain ⟨o', es', ep', ho', r'⟩ := hm
    rw [ho] at ho'; cases ho'
    exact ⟨_, es', ep', hL, r'⟩) hok I.bare
/-- behind a call (or a comprehension's block): the slots of this frame may have changed too, the records at ch may have turned -/
theorem Inv.call {g' : Array GenState} {t' : Nat} {d' : Drawn} {ch : List Addr} (I : Inv X pins σ H s) (u : Un (frs X.stack) ch H H' s.heap h') (hok : HOk X.prog X.w H' h') (hg : AllBare g')
    (hch : ∀ b ∈ ch, (b ∈ X.ex ∨ X.s₀.heap.objs.size ≤ b) ∧ b ≠ X.env.locals ∧ (∀ x c, X.env.cells.lookup x = some c → c ≠ b) ∧ ∀ p ∈ X.pn ++ pins, p.1 ≠ b) (ht : 0 < t' := by first | assumption | exact Nat.succ_pos _ | (apply Inv.tk; assumption)) :
    Inv X pins σ H' { s with heap := h', gens := g', drawn := d', toks := t' } := by
  obtain ⟨m, ⟨o, es, ep, ho, r⟩, _⟩ := id I.loc
  obtain ⟨sl, hL⟩ := u.any ho I.free fun z => (hch _ z).2.1 rfl
  exact I.step (ch := ch) hch (fun b o hL hb hc e n => u.keep b o e n (fun z => (List.mem_cons.mp (I.stkSub b z)).elim hL hb) hc) (fun b o _ _ hc e n => u.any e n hc) (fun b o hc e n => u.free b o e n hc) (fun b o hc e => u.there b o e hc) u.tups u.frzs u.tbls (fun m' hm => by
    obtain ⟨o', es', ep', ho', r'⟩ := hm
    rw [ho] at ho'; cases ho'
    exact ⟨_, es', ep', hL, r'⟩) hok hg
/-- an untracked record of ours (an iterator) has turned -/
theorem Inv.turned {t' : Nat} {it : Addr} (I : Inv X pins σ H s) (k : ∀ b o, b ≠ it → s.heap.get? b = some o → h'.get? b = some o) (hn : H it = none) (hL : it ≠ X.env.locals)
    (h1 : it ∈ X.ex ∨ X.s₀.heap.objs.size ≤ it) (h2 : ∀ x c, X.env.cells.lookup x = some c → c ≠ it) (h3 : ∀ p ∈ X.pn ++ pins, p.1 ≠ it) (ht : 0 < t' := by first | assumption | exact Nat.succ_pos _ | (apply Inv.tk; assumption)) : Inv X pins σ H { s with heap := h', toks := t' } := by
  have nit : ∀ b u, H b = some u → b ≠ it := fun b u e z => by rw [z, hn] at e; cases e
  refine I.step (g' := s.gens) (d' := s.drawn) (ch := [it]) (fun b hb => ?_) (fun b o _ _ hc e _ => k b o (fun z => hc (by simp [z])) e) (fun b o _ _ hc e _ => ⟨o.slots, k b o (fun z => hc (by simp [z])) e⟩) (fun _ _ _ _ n => n)
    (fun b o hc e => ⟨o, k b o (fun z => hc (by simp [z])) e⟩) (fun _ _ e => e) (fun _ _ _ e => e) (fun b ps e => ⟨#[], by rw [e]; simp⟩) (fun m hm => ?_) (fun b u e => ?_) I.bare
  · have e : b = it := by simpa using hb
    subst e
    exact ⟨h1, hL, h2, h3⟩
  · obtain ⟨o, es, ep, ho, r⟩ := hm
    exact ⟨o, es, ep, k _ o (Ne.symm hL) ho, r⟩
  · refine (I.hok b u e).stay (fun c v hc q => k c v ?_ q) (fun _ q => q) fun _ _ q => q
    rcases hc with z | z
    · rw [z]; exact nit b u e
    · exact nit c _ z
theorem Inv.tok (I : Inv X pins σ H s) (t : Nat) (ht : 0 < t := by first | assumption | exact Nat.succ_pos _ | (apply Inv.tk; assumption)) : Inv X pins σ H { s with toks := t } := I.un (h' := s.heap) (t' := t) Un.refl I.hok
/-- all objects kept -/
theorem Inv.kept {t' : Nat} (I : Inv X pins σ H s) (k : ∀ b u, s.heap.get? b = some u → h'.get? b = some u) (ht : 0 < t' := by first | assumption | exact Nat.succ_pos _ | (apply Inv.tk; assumption)) : Inv X pins σ H { s with heap := h', toks := t' } := I.un (Un.kept k) (I.hok.kept k)
/-- a new object laid and tracked -/
theorem Inv.laid {a : Addr} {o : HO} {t' : Nat} (I : Inv X pins σ H s) (k : ∀ b u, s.heap.get? b = some u → h'.get? b = some u) (hp : s.heap.objs.size ≤ a) (new : ObjOk X.prog X.w (upd H a o) h' a o) (ht : 0 < t' := by first | assumption | exact Nat.succ_pos _ | (apply Inv.tk; assumption)) :
    Inv X pins σ (upd H a o) { s with heap := h', toks := t' } := I.un (Un.laid k hp (I.hok.fresh hp)) (I.hok.laid k hp new)
/-- an object written -/
theorem Inv.write {x e : Addr} {o : HO} {t' : Nat} (I : Inv X pins σ H s) (mu : Mut (H x)) (he : e = x ∨ H e = some (.own x)) (k : ∀ b u, b ≠ e → s.heap.get? b = some u → h'.get? b = some u) (heo : ∃ u, h'.get? e = some u)
    (new : ObjOk X.prog X.w (upd H x o) h' x o) (ht : 0 < t' := by first | assumption | exact Nat.succ_pos _ | (apply Inv.tk; assumption)) : Inv X pins σ (upd H x o) { s with heap := h', toks := t' } := I.un (Un.write mu he k heo) (I.hok.write mu he k heo new)
/-- forgetting slots, pins -/
theorem Inv.weak {σ' : List (Option V)} (I : Inv X pins σ H s) (hl : σ'.length = σ.length) (w : ∀ (i : Nat) v, σ'[i]? = some (some v) → σ[i]? = some (some v)) : Inv X pins σ' H s :=
  ⟨I.ok, I.os, I.bare, I.base, let ⟨m, hn, hl'⟩ := I.loc; ⟨m, hn, fun i x v e1 e2 e3 => hl' i x v e1 (w i v e2) e3⟩, I.cell, I.free, I.freeC, I.pin, I.hok, hl.trans I.len, I.tk⟩
theorem Inv.pins_of {pins' : List (Addr × Obj)} (I : Inv X pins σ H s) (h : ∀ p ∈ pins', s.heap.get? p.1 = some p.2 ∧ H p.1 = none ∧ p.1 ≠ X.env.locals ∧ p.1 ∉ X.fs ∧ ∀ v, p.2.data ≠ .cell v) : Inv X pins' σ H s :=
  ⟨I.ok, I.os, I.bare, I.base, I.loc, I.cell, I.free, I.freeC, fun p hp => (List.mem_append.mp hp).elim (fun z => I.pin p (List.mem_append_left _ z)) (h p), I.hok, I.len, I.tk⟩

theorem nodup_ix {N : List Str} (hN : N.Nodup) {i j : Nat} {x : Str} (a : N[i]? = some x) (b : N[j]? = some x) : i = j := by
  obtain ⟨h1, e1⟩ := List.getElem?_eq_some_iff.mp a
  obtain ⟨h2, e2⟩ := List.getElem?_eq_some_iff.mp b
  exact (List.getElem_inj hN).mp (e1.trans e2.symm)

/-- a name is stored; what changed -/
theorem store_ok2 {M : Model} {A : Around} {E : Value → Shared → Prop} {i : Nat} {x : Str} {v : V} {u : Value} {Q : Unit → Shared → Prop} (I : Inv X pins σ H s) (hN : X.N.Nodup) (hi : X.N[i]? = some x) (hx : Loc X.env.scope x) (r : RelV v u)
    (h : ∀ s', Inv X pins (σ.set i (some v)) H s' → (∃ a, Heap.SameBut a s.heap s'.heap ∧ (a = X.env.locals ∨ X.env.cells.lookup x = some a)) → Q () s') (hf : X.fn x = true ∨ X.env.scope.names.lookup x = some .local := by first | exact .inl rfl | exact .inr rfl | assumption) : wpAny M A (storeName X.env x u) Q E s := by
  obtain ⟨m, hn, hl⟩ := id I.loc
  have hcls : (X.env.scope.kind == .class || (X.env.scope.kind == .module && X.env.locals != X.env.globals)) = false := by rw [I.ok.kind]; rfl
  have hiσ : i < σ.length := by rw [I.len]; exact (List.getElem?_eq_some_iff.mp hi).1
  have cne := I.cne
  have tracked : ∀ {a : Addr} {h' : Heap}, (∃ o, s.heap.get? a = some o ∧ H a = none) → Heap.SameBut a s.heap h' → HOk X.prog X.w H h' := fun {a h'} ha hs b ob e => by
    obtain ⟨_, _, hfree⟩ := ha
    refine (I.hok b ob e).stay (fun c w' hc q => (hs.2 c ?_).trans q) (fun _ q => q) fun _ _ q => q
    rintro rfl
    rcases hc with rfl | hc
    · rw [hfree] at e; cases e
    · rw [hfree] at hc; cases hc
  rcases hx with hk | hk
  · refine wpAny_storeName_local hk hn (fun h' hn' hs => ?_) hcls
    obtain ⟨oL, _, _, hoL, _⟩ := id hn
    refine h _ ⟨I.ok, I.os, I.bare, ⟨fun b o e n hb hx => ?_, fun b o e n hb hx => ?_, I.base.free, fun b o e hx => ?_, I.base.tups, I.base.frzs, I.base.tbls⟩, ⟨_, hn', fun j y v' e1 e2 e3 => ?_⟩, fun y c e => ?_, I.free, I.freeC, fun p hp => ?_, tracked ⟨oL, hoL, I.free⟩ hs, by simpa using I.len, by first | exact I.tk | exact Nat.succ_pos _⟩ ⟨_, hs, .inl rfl⟩
    · exact (hs.2 b (Nat.ne_of_lt (Nat.lt_of_lt_of_le (Heap.lt_size e) I.ok.above))).trans (I.base.keep b o e n hb hx)
    · obtain ⟨sl, e1⟩ := I.base.slot b o e n hb hx
      exact ⟨sl, (hs.2 b (Nat.ne_of_lt (Nat.lt_of_lt_of_le (Heap.lt_size e) I.ok.above))).trans e1⟩
    · obtain ⟨o', e1⟩ := I.base.there b o e hx
      exact ⟨o', (hs.2 b (Nat.ne_of_lt (Nat.lt_of_lt_of_le (Heap.lt_size e) I.ok.above))).trans e1⟩
    · by_cases hj : j = i
      · subst hj
        rw [hi] at e1; cases e1
        rw [List.getElem?_set_self hiσ] at e2
        cases e2
        exact ⟨u, r, .inl ⟨hk, by simp⟩⟩
      · rw [List.getElem?_set_ne (Ne.symm hj)] at e2
        obtain ⟨u', r', q⟩ := hl j y v' e1 e2 e3
        refine ⟨u', r', ?_⟩
        rcases q with ⟨k, e⟩ | ⟨k, c, e, z⟩
        · refine .inl ⟨k, ?_⟩
          have : y ≠ x := fun e => hj (nodup_ix hN e1 (e ▸ hi))
          simp [this, e]
        · exact .inr ⟨k, c, e, z.sameBut hs (cne y c e)⟩
    · obtain ⟨w', z⟩ := I.cell y c e
      exact ⟨w', z.sameBut hs (cne y c e)⟩
    · obtain ⟨e, n, ne, nf, d⟩ := I.pin p hp
      exact ⟨(hs.2 p.1 ne).trans e, n, ne, nf, d⟩
  · have hfn : X.fn x = true := by
      rcases hf with z | z
      · exact z
      · rw [z] at hk; cases hk
    obtain ⟨c, hc⟩ := I.ok.has x (.inl hk)
    obtain ⟨w', z⟩ := I.cell x c hc
    refine wpAny_storeName_cell I.ok.kind hk hc z (fun h' hc' hs => ?_)
    obtain ⟨oc, hoc, hocd⟩ := id z
    refine h { s with heap := h' } ⟨I.ok, I.os, I.bare, ⟨fun b o e n hb hx => ?_, fun b o e n hb hx => ?_, I.base.free, fun b o e hx => ?_, I.base.tups, I.base.frzs, I.base.tbls⟩, ⟨m, hn.sameBut hs (Ne.symm (cne x c hc)), fun j y v' e1 e2 e3 => ?_⟩, fun y c' e => ?_, I.free, I.freeC, fun p hp => ?_, tracked ⟨oc, hoc, I.freeC x c hc⟩ hs, by simpa using I.len, by first | exact I.tk | exact Nat.succ_pos _⟩ ⟨c, hs, .inr hc⟩
    · exact (hs.2 b (Nat.ne_of_lt (Nat.lt_of_lt_of_le (Heap.lt_size e) (I.ok.cab x c hfn hc)))).trans (I.base.keep b o e n hb hx)
    · obtain ⟨sl, e1⟩ := I.base.slot b o e n hb hx
      exact ⟨sl, (hs.2 b (Nat.ne_of_lt (Nat.lt_of_lt_of_le (Heap.lt_size e) (I.ok.cab x c hfn hc)))).trans e1⟩
    · obtain ⟨o', e1⟩ := I.base.there b o e hx
      exact ⟨o', (hs.2 b (Nat.ne_of_lt (Nat.lt_of_lt_of_le (Heap.lt_size e) (I.ok.cab x c hfn hc)))).trans e1⟩
    · by_cases hj : j = i
      · subst hj
        rw [hi] at e1; cases e1
        rw [List.getElem?_set_self hiσ] at e2
        cases e2
        exact ⟨u, r, .inr ⟨.inl hk, c, hc, hc'⟩⟩
      · rw [List.getElem?_set_ne (Ne.symm hj)] at e2
        obtain ⟨u', r', q⟩ := hl j y v' e1 e2 e3
        refine ⟨u', r', ?_⟩
        rcases q with q | ⟨k, c', e, z'⟩
        · exact .inl q
        · refine .inr ⟨k, c', e, z'.sameBut hs ?_⟩
          rintro rfl
          exact hj (nodup_ix hN e1 (I.ok.inj _ _ _ e hc ▸ hi))
    · by_cases hcc : c' = c
      · subst hcc; exact ⟨_, hc'⟩
      · obtain ⟨w2, z2⟩ := I.cell y c' e
        exact ⟨w2, z2.sameBut hs hcc⟩
    · obtain ⟨e, n, ne, nf, d⟩ := I.pin p hp
      refine ⟨(hs.2 p.1 ?_).trans e, n, ne, nf, d⟩
      intro q
      rw [q, hoc] at e
      have q' : oc = p.2 := Option.some.inj e
      exact d w' (by rw [← q']; exact hocd)
theorem store_ok {M : Model} {A : Around} {E : Value → Shared → Prop} {i : Nat} {x : Str} {v : V} {u : Value} {Q : Unit → Shared → Prop} (I : Inv X pins σ H s) (hN : X.N.Nodup) (hi : X.N[i]? = some x) (hx : Loc X.env.scope x) (r : RelV v u)
    (h : ∀ s', Inv X pins (σ.set i (some v)) H s' → Q () s') (hf : X.fn x = true ∨ X.env.scope.names.lookup x = some .local := by first | exact .inl rfl | exact .inr rfl | assumption) : wpAny M A (storeName X.env x u) Q E s :=
  store_ok2 I hN hi hx r (fun s' I' _ => h s' I') hf
/-- behind a call or a block, the state as it is -/
theorem Inv.call' {s' : Shared} {ch : List Addr} (I : Inv X pins σ H s) (ho : s'.os = s.os) (u : Un (frs X.stack) ch H H' s.heap s'.heap) (hok : HOk X.prog X.w H' s'.heap) (hg : AllBare s'.gens)
    (hch : ∀ b ∈ ch, (b ∈ X.ex ∨ X.s₀.heap.objs.size ≤ b) ∧ b ≠ X.env.locals ∧ (∀ x c, X.env.cells.lookup x = some c → c ≠ b) ∧ ∀ p ∈ X.pn ++ pins, p.1 ≠ b) (ht : 0 < s'.toks) : Inv X pins σ H' s' := by
  obtain ⟨h', g', d', t', o'⟩ := s'
  have e : o' = s.os := ho
  subst e
  exact I.call (g' := g') (t' := t') (d' := d') u hok hg hch ht
end

/-! ### the judgements -/
/-- an exception: its class, its own dict's address (where it has one), the abstract heap behind it -/
abbrev XK := Value → Option Addr → Hp → Prop
abbrev St := List (Option V)
abbrev VK := V → Hp → Prop
/-- an expression's reading; a test's; an argument list's -/
abbrev TE := St → Hp → VK → Prop
abbrev TT := St → Hp → (Bool → Hp → Prop) → Prop
abbrev TA := St → Hp → (List V → Hp → Prop) → Prop
/-- what is wanted behind a statement -/
structure Ends where
  nx : St → Hp → Prop
  rt : VK
  bk : St → Hp → Prop := fun _ _ => False
  ct : St → Hp → Prop := fun _ _ => False
abbrev TS := Ends → St → Hp → Prop

def EP (X : Cx) (pins : List (Addr × Obj)) (σ : St) (Q : VK) (u : Value) (s' : Shared) : Prop := ∃ v H', Inv X pins σ H' s' ∧ RelV v u ∧ Q v H'
def TP (X : Cx) (pins : List (Addr × Obj)) (σ : St) (Q : Bool → Hp → Prop) (b : Bool) (s' : Shared) : Prop := ∃ H', Inv X pins σ H' s' ∧ Q b H'
def AP (X : Cx) (pins : List (Addr × Obj)) (σ : St) (Q : List V → Hp → Prop) (us : List Value) (s' : Shared) : Prop := ∃ vs H', Inv X pins σ H' s' ∧ Vals vs us ∧ Q vs H'
def SP (X : Cx) (pins : List (Addr × Obj)) (D : Ends) (f : Flow) (s' : Shared) : Prop :=
  match f with
  | .next => ∃ σ' H', Inv X pins σ' H' s' ∧ D.nx σ' H'
  | .brk => ∃ σ' H', Inv X pins σ' H' s' ∧ D.bk σ' H'
  | .cont => ∃ σ' H', Inv X pins σ' H' s' ∧ D.ct σ' H'
  | .ret u => ∃ v σ' H', Inv X pins σ' H' s' ∧ RelV v u ∧ D.rt v H'

def PE (X : Cx) (e : Expr) (t : TE) : Prop :=
  ∀ (pins : List (Addr × Obj)) (s : Shared) (σ : St) (H : Hp) (Q : VK), Inv X pins σ H s → t σ H Q → wpAny (model X.prog X.w) X.A (eval e X.env) (EP X pins σ Q) X.xe s
def PT (X : Cx) (e : Expr) (t : TT) : Prop :=
  ∀ (pins : List (Addr × Obj)) (s : Shared) (σ : St) (H : Hp) (Q : Bool → Hp → Prop), Inv X pins σ H s → t σ H Q → wpAny (model X.prog X.w) X.A (isTrue e X.env (eval e X.env)) (TP X pins σ Q) X.xe s
/-- a test whatever its 'whole' is (and, or) -/
def PW (X : Cx) (e : Expr) (t : TT) : Prop :=
  ∀ (whole : Sem Value) (pins : List (Addr × Obj)) (s : Shared) (σ : St) (H : Hp) (Q : Bool → Hp → Prop), Inv X pins σ H s → t σ H Q → wpAny (model X.prog X.w) X.A (isTrue e X.env whole) (TP X pins σ Q) X.xe s
theorem PW.pt {X : Cx} {e : Expr} {t : TT} (h : PW X e t) : PT X e t := h _
/-- an argument list (no star), from the left -/
def PA (X : Cx) (es : List Expr) (t : TA) : Prop :=
  ∀ (pos : Pos) (pins : List (Addr × Obj)) (s : Shared) (σ : St) (H : Hp) (Q : List V → Hp → Prop), Inv X pins σ H s → t σ H Q → wpAny (model X.prog X.w) X.A (spliced (backTo pos (starEach es X.env))) (AP X pins σ Q) X.xe s
def PS (X : Cx) (st : Stmt) (t : TS) : Prop :=
  ∀ (pins : List (Addr × Obj)) (s : Shared) (σ : St) (H : Hp) (D : Ends), Inv X pins σ H s → t D σ H → wpAny (model X.prog X.w) X.A (exec st X.env) (SP X pins D) X.xe s
def PSs (X : Cx) (st : List Stmt) (t : TS) : Prop :=
  ∀ (pins : List (Addr × Obj)) (s : Shared) (σ : St) (H : Hp) (D : Ends), Inv X pins σ H s → t D σ H → wpAny (model X.prog X.w) X.A (execs st X.env) (SP X pins D) X.xe s
/-- weaken the end -/
theorem thn {α : Type} {t : Sem α} {Q Q' : α → Shared → Prop} {M : Model} {A : Around} {E : Value → Shared → Prop} {s : Shared} (h : wpAny M A t Q E s) (hQ : ∀ a s, Q a s → Q' a s) : wpAny M A t Q' E s := wpAny_mono h hQ fun _ _ x => x
end L2

namespace L2
open PySem PySem.Spec PyProof.Rows
section
variable {X : Cx}


/-! ### names and constants -/
def tVar (i : Nat) : TE := fun σ H Q => ∃ v, σ[i]? = some (some v) ∧ Q v H
def tC (v : V) : TE := fun _ H Q => Q v H
theorem pe_var {i : Nat} {x : Str} {pos : Pos} (hN : X.N[i]? = some x) (hv : Vis X.env.scope x) (hd : (x == ("__debug__" : Str)) = false := by decide) (hcd : (x == ("__classdict__" : Str)) = false := by decide) : PE X (.Name x pos) (tVar i) := by
  intro pins s σ H Q I h
  obtain ⟨v, e, h⟩ := h
  obtain ⟨m, hn, hl⟩ := I.loc
  obtain ⟨u, r, l⟩ := hl i x v hN e hv
  have fin : EP X pins σ Q u s := ⟨v, H, I, r, h⟩
  rcases l with ⟨hk, hm⟩ | ⟨hk, c, hc, hcell⟩
  · exact wpAny_Name (wpAny_loadName_local I.ok.kind hk hn hm fin) hd
  · rcases hk with hk | hk
    · exact wpAny_Name (wpAny_loadName_cell I.ok.kind hk hc hcell fin) hd
    · exact wpAny_Name (wpAny_loadName_free I.ok.kind hk hc hcell fin hcd) hd
theorem pe_int {i j pos} : PE X (.Constant (.int i) j pos) (tC (.int i)) := fun _ _ _ H _ I h => wpAny_Constant_int ⟨.int i, H, I.tok _, ⟨_, rfl⟩, h⟩
theorem pe_bl {b j pos} : PE X (.Constant (.bool b) j pos) (tC (.bl b)) := fun _ _ _ H _ I h => Constant_bool ⟨.bl b, H, I, rfl, h⟩
theorem pe_non {j pos} : PE X (.Constant .none j pos) (tC .non) := fun _ _ _ H _ I h => Constant_none ⟨.non, H, I, rfl, h⟩
theorem pe_str {x j pos} : PE X (.Constant (.str x) j pos) (tC (.str x)) := fun _ _ _ H _ I h => Calls.Constant_str ⟨.str x, H, I.tok _, ⟨_, rfl⟩, h⟩

/-- a global name of the def -/
def Gl (X : Cx) (x : Str) : Prop := X.env.kindOf x = some .globalImplicit
theorem ld_glob {E : Value → Shared → Prop} {pins : List (Addr × Obj)} {s : Shared} {σ : St} {H : Hp} {x : Str} {u : Value} {pos : Pos} {Q : Value → Shared → Prop} (I : Inv X pins σ H s) (hg : Gl X x) (hm : X.mg x = some u) (h : Q u s)
    (hd : (x == ("__debug__" : Str)) = false := by decide) : wpAny (model X.prog X.w) X.A (eval (.Name x pos) X.env) Q E s :=
  Calls.Name_function_global I.ok.kind hg (Calls.loadGlobal_global (by rw [I.ok.glob]; exact I.mod.glob.keeps I.bk) hm h) hd
theorem ld_blt {E : Value → Shared → Prop} {pins : List (Addr × Obj)} {s : Shared} {σ : St} {H : Hp} {x : Str} {u : Value} {pos : Pos} {Q : Value → Shared → Prop} (I : Inv X pins σ H s) (hg : Gl X x) (hm : X.mg x = none) (hv : bootBuiltins x = some u) (h : Q u s)
    (hn : x ≠ "__name__" := by decide) (hd : (x == ("__debug__" : Str)) = false := by decide) : wpAny (model X.prog X.w) X.A (eval (.Name x pos) X.env) Q E s := by
  obtain ⟨mb, h1, h2⟩ := I.mod.blt
  exact Calls.Name_function_global I.ok.kind hg (Calls.loadGlobal_builtin (by rw [I.ok.glob]; exact I.mod.glob.keeps I.bk) hm (by rw [I.ok.blt]; exact h1.keeps I.bk) ((h2 x hn).trans hv) h) hd
/-- a module's constant, a class, a function, as a value -/
theorem pe_glob {x : Str} {v : V} {u : Value} {pos : Pos} (hg : Gl X x) (hm : X.mg x = some u) (r : RelV v u) (hd : (x == ("__debug__" : Str)) = false := by decide) : PE X (.Name x pos) (tC v) :=
  fun _ _ _ H _ I h => ld_glob I hg hm ⟨v, H, I, r, h⟩ hd
theorem pe_bltn {x : Str} {v : V} {u : Value} {pos : Pos} (hg : Gl X x) (hm : X.mg x = none) (hv : bootBuiltins x = some u) (r : RelV v u) (hn : x ≠ "__name__" := by decide) (hd : (x == ("__debug__" : Str)) = false := by decide) : PE X (.Name x pos) (tC v) :=
  fun _ _ _ H _ I h => ld_blt I hg hm hv ⟨v, H, I, r, h⟩ hn hd

/-! ### arithmetic -/
variable {a b : Expr} {ta tb : TE} {pos : Pos}

/-! ### comparisons -/
/-- a comparison as a value, as a test -/
def tB (t : TE) : TT := fun σ H Q => t σ H fun x H1 => ∃ c, x = .bl c ∧ Q c H1
/-- an expression whose value is a bool, as a test -/
theorem pt_val {e : Expr} {t : TE} (h : PE X e t) (he : ∀ whole, isTrue e X.env whole = (do let v ← whole; standAt e.pos; holding [v] (truthy v)) := by intro _; rfl) : PT X e (tB t) := by
  intro pins s σ H Q I hw
  refine isTrue_plain (thn (h pins s σ H _ I hw) fun v s1 ⟨x, H1, I1, r1, q1⟩ => ?_) (he _)
  obtain ⟨d, rfl, q⟩ := q1
  cases r1
  exact wpAny_truthy_bool ⟨H1, I1, q⟩

/-! ### and, or, not -/
variable {tA tB' : TT} {rest : List Expr}
def tAnd (t u : TT) : TT := fun σ H Q => t σ H fun c H1 => if c = true then u σ H1 Q else Q false H1
def tOr (t u : TT) : TT := fun σ H Q => t σ H fun c H1 => if c = true then Q true H1 else u σ H1 Q
def tNot (t : TT) : TT := fun σ H Q => t σ H fun c H1 => Q (!c) H1
theorem pw_and1 (ha : PT X a tA) : PW X (.BoolOp .And [a] pos) tA := by
  intro wh pins s σ H Q I h
  refine isTrue_and (thn (ha pins s σ H Q I h) fun c s1 e => ?_)
  cases c with
  | true => exact isTrue_and_nil e
  | false => exact e
theorem pw_or1 (ha : PT X a tA) : PW X (.BoolOp .Or [a] pos) tA := by
  intro wh pins s σ H Q I h
  refine isTrue_or (thn (ha pins s σ H Q I h) fun c s1 e => ?_)
  cases c with
  | false => exact isTrue_or_nil e
  | true => exact e
theorem pw_and (ha : PT X a tA) (hb : PW X (.BoolOp .And (b :: rest) pos) tB') : PW X (.BoolOp .And (a :: b :: rest) pos) (tAnd tA tB') := by
  intro wh pins s σ H Q I h
  refine isTrue_and (thn (ha pins s σ H _ I h) fun c s1 ⟨H1, I1, q1⟩ => ?_)
  cases c with
  | true => exact hb wh pins s1 σ H1 Q I1 q1
  | false => exact ⟨H1, I1, q1⟩
theorem pw_or (ha : PT X a tA) (hb : PW X (.BoolOp .Or (b :: rest) pos) tB') : PW X (.BoolOp .Or (a :: b :: rest) pos) (tOr tA tB') := by
  intro wh pins s σ H Q I h
  refine isTrue_or (thn (ha pins s σ H _ I h) fun c s1 ⟨H1, I1, q1⟩ => ?_)
  cases c with
  | true => exact ⟨H1, I1, q1⟩
  | false => exact hb wh pins s1 σ H1 Q I1 q1
theorem pt_not (ha : PT X a tA) : PT X (.UnaryOp .Not a pos) (tNot tA) := by
  intro pins s σ H Q I h
  exact isTrue_not (ha pins s σ H (fun c H1 => Q (!c) H1) I h)
/-- .. as values (bools) -/
def tAndV (ta tb : TE) : TE := fun σ H Q => ta σ H fun x H1 => ∃ c, x = .bl c ∧ if c = true then tb σ H1 Q else Q (.bl false) H1
theorem pe_one {op} {t : TE} (h : PE X a t) : PE X (.BoolOp op [a] pos) t := fun pins s σ H Q I hw => BoolOp_one (h pins s σ H Q I hw)
theorem pe_and (ha : PE X a ta) (hb : PE X (.BoolOp .And (b :: rest) pos) tb) : PE X (.BoolOp .And (a :: b :: rest) pos) (tAndV ta tb) := by
  intro pins s σ H Q I h
  refine BoolOp_and (thn (ha pins s σ H _ I h) fun v s1 ⟨x, H1, I1, r1, q1⟩ => ?_)
  obtain ⟨c, rfl, q1⟩ := q1
  cases r1
  refine wpAny_truthy_bool ?_
  cases c with
  | true => exact hb pins s1 σ H1 Q I1 q1
  | false => exact ⟨.bl false, H1, I1, rfl, q1⟩
/-- a if t else b -/
def tIf (t : TT) (ta tb : TE) : TE := fun σ H Q => t σ H fun c H1 => if c = true then ta σ H1 Q else tb σ H1 Q
theorem pe_ifExp {c : Expr} (hc : PT X c tA) (ha : PE X a ta) (hb : PE X b tb) : PE X (.IfExp c a b pos) (tIf tA ta tb) := by
  intro pins s σ H Q I h
  refine wpAny_IfExp (thn (hc pins s σ H _ I h) fun d s1 ⟨H1, I1, q1⟩ => ?_)
  cases d with
  | true => exact ha pins s1 σ H1 Q I1 q1
  | false => exact hb pins s1 σ H1 Q I1 q1
end
end L2

namespace L2
open PySem PySem.Spec PyProof.Rows

/-! ### a list, a tuple that is read: tracked, frozen, or an object of the module -/
def SqL (K : PySem.W.Frag) (H : Hp) (a : Addr) (xs : List V) : Prop :=
  Rd H a (.lst xs) ∨
    ∃ (o : Obj) (its : Array Value) (n : Nat), K.lookup a = some o ∧ o.cls = .type "list" ∧ o.dict = none ∧ o.data = .seq its n ∧ its.size ≤ sizeLine ∧ Vals xs its.toList
def SqT (K : PySem.W.Frag) (H : Hp) (a : Addr) (xs : List V) : Prop :=
  Rd H a (.tup xs) ∨
    ∃ (o : Obj) (its : Array Value) (n : Nat), K.lookup a = some o ∧ o.cls = .type "tuple" ∧ o.data = .seq its n ∧ its.size ≤ sizeLine ∧ Vals xs its.toList
def absV : Value → Option V
  | .none => some .non
  | .bool b => some (.bl b)
  | .int i _ => some (.int i)
  | .str x _ => some (.str x)
  | .bytes b _ => some (.byt b)
  | .float b _ => some (.flt b)
  | .ref a => some (.ref a)
  | .type n => some (.ty n)
  | _ => none
theorem RelV.abs {x : V} {u : Value} (r : RelV x u) : absV u = some x := by
  cases x with
  | non => cases r; rfl
  | bl _ => cases r; rfl
  | int _ => obtain ⟨t, rfl⟩ := r; rfl
  | str _ => obtain ⟨t, rfl⟩ := r; rfl
  | byt _ => obtain ⟨t, rfl⟩ := r; rfl
  | flt _ => obtain ⟨t, rfl⟩ := r; rfl
  | ref _ => cases r; rfl
  | ty _ => cases r; rfl
theorem RelV.inj {x y : V} {u : Value} (r : RelV x u) (q : RelV y u) : x = y := Option.some.inj (r.abs.symm.trans q.abs)
theorem Vals.inj : ∀ {xs ys : List V} {us : List Value}, Vals xs us → Vals ys us → xs = ys
  | _, _, _, .nil, .nil => rfl
  | _, _, _, .cons r t, .cons r' t' => by rw [r.inj r', Vals.inj t t']
section
variable {X : Cx} {pins : List (Addr × Obj)} {σ : St} {H : Hp} {s : Shared} {a : Addr} {xs ys : List V}
theorem SqL.of {K : PySem.W.Frag} (h : H a = some (.lst xs)) : SqL K H a xs := .inl (.inl h)
theorem SqT.of {K : PySem.W.Frag} (h : H a = some (.tup xs)) : SqT K H a xs := .inl (.inl h)
theorem Inv.list (I : Inv X pins σ H s) (h : SqL X.K H a xs) : ∃ its : List Value, Vals xs its ∧ PlainL s.heap a its.toArray ∧ xs.length ≤ sizeLine := by
  rcases h with h | ⟨o, its, n, hk, hc, hd, hs, hz, r⟩
  · obtain ⟨z, its, n, r, e⟩ := h.ok I.hok
    exact ⟨its, r, ⟨_, n, e, rfl, rfl, rfl⟩, z⟩
  · refine ⟨its.toList, r, ⟨o, n, I.kIn a o hk, hc, hd, by simpa using hs⟩, ?_⟩
    have e := r.length
    simp only [Array.length_toList] at e
    omega
theorem Inv.tuple (I : Inv X pins σ H s) (h : SqT X.K H a xs) : ∃ its : List Value, Vals xs its ∧ IsTup s.heap a its.toArray ∧ xs.length ≤ sizeLine := by
  rcases h with h | ⟨o, its, n, hk, hc, hs, hz, r⟩
  · obtain ⟨z, its, r, p⟩ := h.ok I.hok
    exact ⟨its, r, p, z⟩
  · refine ⟨its.toList, r, ⟨o, I.kIn a o hk, hc, n, by simpa using hs⟩, ?_⟩
    have e := r.length
    simp only [Array.length_toList] at e
    omega
theorem Inv.list_inj (I : Inv X pins σ H s) (h : SqL X.K H a xs) (h' : SqL X.K H a ys) : xs = ys := by
  obtain ⟨its, r, ⟨o, n, e, _, _, d⟩, _⟩ := I.list h
  obtain ⟨its', r', ⟨o', n', e', _, _, d'⟩, _⟩ := I.list h'
  rw [e] at e'; cases e'
  rw [d] at d'
  injection d' with d1 _
  have : its = its' := by simpa using congrArg Array.toList d1
  subst this
  exact r.inj r'
end

/-! ### another wish about exceptions -/
abbrev Cx.wish (X : Cx) (E : Value → Shared → Prop) : Cx := { X with xe := E }
/-- no exception leaves -/
abbrev Cx.nox (X : Cx) : Cx := X.wish fun _ _ => False
theorem Cx.Ok.wish {X : Cx} (ok : X.Ok) (E : Value → Shared → Prop) : (X.wish E).Ok :=
  ⟨ok.mod, ok.kind, ok.glob, ok.blt, ok.above, ok.inj, ok.has, ok.cab, ok.hd, ok.frames, ok.stk, ok.exf, ok.bs, ok.bsz, ok.noex, ok.exfs, ok.funs, ok.frf⟩
theorem Cx.Ok.unwish {X : Cx} {E : Value → Shared → Prop} (ok : (X.wish E).Ok) : X.Ok :=
  ⟨ok.mod, ok.kind, ok.glob, ok.blt, ok.above, ok.inj, ok.has, ok.cab, ok.hd, ok.frames, ok.stk, ok.exf, ok.bs, ok.bsz, ok.noex, ok.exfs, ok.funs, ok.frf⟩
section
variable {X : Cx} {pins : List (Addr × Obj)} {σ : St} {H : Hp} {s : Shared} {E : Value → Shared → Prop}
theorem Inv.wish (I : Inv X pins σ H s) (E : Value → Shared → Prop) : Inv (X.wish E) pins σ H s := ⟨I.ok.wish E, I.os, I.bare, I.base, I.loc, I.cell, I.free, I.freeC, I.pin, I.hok, I.len, I.tk⟩
theorem Inv.unwish (I : Inv (X.wish E) pins σ H s) : Inv X pins σ H s := ⟨I.ok.unwish, I.os, I.bare, I.base, I.loc, I.cell, I.free, I.freeC, I.pin, I.hok, I.len, I.tk⟩
theorem SP.unwish {D : Ends} {f : Flow} {s' : Shared} (h : SP (X.wish E) pins D f s') : SP X pins D f s' := by
  cases f with
  | next => obtain ⟨σ', H', I, q⟩ := h; exact ⟨σ', H', I.unwish, q⟩
  | brk => obtain ⟨σ', H', I, q⟩ := h; exact ⟨σ', H', I.unwish, q⟩
  | cont => obtain ⟨σ', H', I, q⟩ := h; exact ⟨σ', H', I.unwish, q⟩
  | ret u => obtain ⟨v, σ', H', I, r, q⟩ := h; exact ⟨v, σ', H', I.unwish, r, q⟩
theorem PSs.nox {st : List Stmt} {t : TS} (h : PSs X.nox st t) : PSs X st t := fun pins s σ H D I hw =>
  wpAny_mono (h pins s σ H D (I.wish _) hw) (fun _ _ q => q.unwish) fun _ _ z => False.elim z
end

/-! ### blocks and small statements -/
section
variable {X : Cx} {st : Stmt} {rest : List Stmt} {t u : TS} {e : Expr} {te : TE} {pos : Pos}
def tNext : TS := fun D σ H => D.nx σ H
def tSeq (t u : TS) : TS := fun D σ H => t { D with nx := u D } σ H
theorem pss_nil : PSs X [] tNext := fun _ _ σ H _ I h => wpAny_execs_nil ⟨σ, H, I, h⟩
theorem pss_cons (h1 : PS X st t) (h2 : PSs X rest u) : PSs X (st :: rest) (tSeq t u) := by
  intro pins s σ H D I h
  refine wpAny_execs_cons (thn (h1 pins s σ H { D with nx := u D } I h) fun f s1 q => ?_)
  cases f with
  | next =>
    obtain ⟨σ', H', I', q⟩ := q
    exact h2 pins s1 σ' H' D I' q
  | ret v => exact q
  | brk => exact q
  | cont => exact q
theorem pss_one (h1 : PS X st t) : PSs X [st] t := by
  intro pins s σ H D I h
  refine wpAny_execs_cons (thn (h1 pins s σ H D I h) fun f s1 q => ?_)
  cases f with
  | next => exact wpAny_execs_nil q
  | ret v => exact q
  | brk => exact q
  | cont => exact q
def tCont : TS := fun D σ H => D.ct σ H
theorem ps_continue : PS X (.Continue pos) tCont := fun _ _ σ H _ I h => wpAny_Continue ⟨σ, H, I, h⟩
/-- in a def's body nothing is shown -/
theorem Inv.quiet {pins : List (Addr × Obj)} {σ : St} {H : Hp} {s : Shared} (I : Inv X pins σ H s) : interactive X.env = false := by simp [interactive, I.ok.kind]
/-- an expression whose value is dropped -/
def tDrop (te : TE) : TS := fun D σ H => te σ H fun _ H1 => D.nx σ H1
theorem ps_expr (he : PE X e te) (hs : swapsWith e none pos.line X.env = pure false := by rfl) : PS X (.Expr e pos) (tDrop te) := by
  intro pins s σ H D I h
  exact wpAny_Expr_any (thn (he pins s σ H _ I h) fun v s1 ⟨x, H1, I1, r1, q1⟩ => ⟨σ, H1, I1, q1⟩) I.quiet hs
def tRet (te : TE) : TS := fun D σ H => te σ H D.rt
theorem ps_ret (he : PE X e te) : PS X (.Return (some e) pos) (tRet te) := by
  intro pins s σ H D I h
  exact wpAny_Return_some (thn (he pins s σ H _ I h) fun v s1 ⟨x, H1, I1, r1, q1⟩ => ⟨x, σ, H1, I1, r1, q1⟩)
def tIfS (c : TT) (t u : TS) : TS := fun D σ H => c σ H fun b H1 => if b = true then t D σ H1 else u D σ H1
theorem ps_if {c : Expr} {a b : List Stmt} {tc : TT} (hc : PT X c tc) (ha : PSs X a t) (hb : PSs X b u) : PS X (.If c a b pos) (tIfS tc t u) := by
  intro pins s σ H D I h
  refine wpAny_If (thn (hc pins s σ H _ I h) fun d s1 ⟨H1, I1, q1⟩ => ?_)
  cases d with
  | true => exact ha pins s1 σ H1 D I1 q1
  | false => exact hb pins s1 σ H1 D I1 q1
end

/-! ### targets -/
abbrev TG := V → St → Hp → (St → Hp → Prop) → Prop
abbrev TGs := List V → St → Hp → (St → Hp → Prop) → Prop
def PG (X : Cx) (target : Expr) (t : TG) : Prop :=
  ∀ (pins : List (Addr × Obj)) (s : Shared) (σ : St) (H : Hp) (v : V) (u : Value) (Q : St → Hp → Prop), Inv X pins σ H s → RelV v u → t v σ H Q →
    wpAny (model X.prog X.w) X.A (assign target X.env u) (fun _ s' => ∃ σ' H', Inv X pins σ' H' s' ∧ Q σ' H') X.xe s
/-- several targets, one after another -/
def PGs (X : Cx) (ts : List Expr) (t : TGs) : Prop :=
  ∀ (pins : List (Addr × Obj)) (s : Shared) (σ : St) (H : Hp) (vs : List V) (us : List Value) (Q : St → Hp → Prop), Inv X pins σ H s → Vals vs us → t vs σ H Q →
    wpAny (model X.prog X.w) X.A (assignInOrder ((assignEach ts X.env).map (·.2)) us) (fun _ s' => ∃ σ' H', Inv X pins σ' H' s' ∧ Q σ' H') X.xe s
/-- o[i] = v, by values -/
abbrev TSet := V → V → V → Hp → (Hp → Prop) → Prop
def PSet (X : Cx) (t : TSet) : Prop :=
  ∀ (pins : List (Addr × Obj)) (s : Shared) (σ : St) (H : Hp) (o i v : V) (ov iv u : Value) (Q : Hp → Prop), Inv X pins σ H s → RelV o ov → RelV i iv → RelV v u → t o i v H Q →
    wpAny (model X.prog X.w) X.A (setItem ov iv u) (fun _ s' => ∃ H', Inv X pins σ H' s' ∧ Q H') X.xe s
/-- a op= b, by values -/
abbrev TIp := V → V → Hp → VK → Prop
def PIp (X : Cx) (op : Operator) (t : TIp) : Prop :=
  ∀ (pins : List (Addr × Obj)) (s : Shared) (σ : St) (H : Hp) (x y : V) (v u : Value) (Q : VK), Inv X pins σ H s → RelV x v → RelV y u → t x y H Q →
    wpAny (model X.prog X.w) X.A (inplaceOp op v u) (EP X pins σ Q) X.xe s
section
variable {X : Cx} {pos : Pos}
def gName (i : Nat) : TG := fun v σ H Q => Q (σ.set i (some v)) H
theorem pg_name {i : Nat} {x : Str} (hN : X.N.Nodup) (hi : X.N[i]? = some x) (hx : Loc X.env.scope x) (hf : X.fn x = true ∨ X.env.scope.names.lookup x = some .local := by first | exact .inl rfl | exact .inr rfl | assumption) : PG X (.Name x pos) (gName i) := by
  intro pins s σ H v u Q I r h
  exact wpAny_assign_Name (store_ok I hN hi hx r (fun s' I' => ⟨_, H, I', h⟩) hf)
def gNil : TGs := fun vs σ H Q => vs = [] ∧ Q σ H
def gCons (t : TG) (u : TGs) : TGs := fun vs σ H Q => ∃ v r, vs = v :: r ∧ t v σ H fun σ' H' => u r σ' H' Q
theorem pgs_nil : PGs X [] gNil := by
  intro pins s σ H vs us Q I r h
  obtain ⟨e, h⟩ := h
  subst e
  cases r
  exact assignInOrder_nil ⟨σ, H, I, h⟩
theorem pgs_cons {e : Expr} {es : List Expr} {t : TG} {u : TGs} (h1 : PG X e t) (h2 : PGs X es u)
    (hs : (assignEach (e :: es) X.env).map (·.2) = assign e X.env :: (assignEach es X.env).map (·.2) := by rfl) : PGs X (e :: es) (gCons t u) := by
  intro pins s σ H vs us Q I r h
  obtain ⟨v, vr, e1, h⟩ := h
  subst e1
  cases r with
  | cons r rr =>
    rw [hs]
    refine assignInOrder_cons (thn (h1 pins s σ H _ _ _ I r h) fun _ s1 ⟨σ1, H1, I1, q1⟩ => ?_)
    exact h2 pins s1 σ1 H1 _ _ Q I1 rr q1
/-- (a, b, ..) = a tuple of that length -/
def gTup (K : PySem.W.Frag) (n : Nat) (t : TGs) : TG := fun v σ H Q => ∃ a xs, v = .ref a ∧ SqT K H a xs ∧ xs.length = n ∧ t xs σ H Q
theorem pg_tup {es : List Expr} {k : Nat} {t : TGs} {n : Nat} (hc : X.calm = true) (h : PGs X es t)
    (hn : (assignEach es X.env).length = n := by rfl) (hst : (assignEach es X.env).findIdx? (·.1) = none := by rfl) : PG X (.Tuple es k pos) (gTup X.K n t) := by
  intro pins s σ H v u Q I r hw
  obtain ⟨a, xs, e1, hq, hl, hw⟩ := hw
  subst e1
  cases r
  obtain ⟨its, rv, ht, hz⟩ := I.tuple hq
  refine assign_Tuple_tuple (I.ok.hd hc) ht (by simp [hn, ← hl, rv.length]) hst fun h' hx => ?_
  have I1 : Inv X pins σ H { s with heap := h' } := I.kept (t' := s.toks) fun b o e => hx b o (Nat.ne_of_lt (Heap.lt_size e)) e
  exact h pins _ σ H xs _ Q I1 (by simpa using rv) hw
/-- o[i] = .. -/
def gSub (to ti : TE) (t : TSet) : TG := fun v σ H Q => to σ H fun o H1 => ti σ H1 fun i H2 => t o i v H2 fun H3 => Q σ H3
theorem pg_sub {o i : Expr} {to ti : TE} {t : TSet} (ho : PE X o to) (hi : PE X i ti) (hs : PSet X t)
    (ha : ∀ v, assign (.Subscript o i pos) X.env v = (do
      let ov ← holding [v] (eval o X.env)
      let iv ← holding [v, ov] (eval i X.env)
      standAt pos
      holding [v, ov, iv] (setItem ov iv v)
      release [v, ov, iv] []) := by intro _; rfl) : PG X (.Subscript o i pos) (gSub to ti t) := by
  intro pins s σ H v u Q I r h
  rw [ha]
  refine wpAny_bind (wpAny_holding (thn (ho pins s σ H _ I h) fun ov s1 ⟨x, H1, I1, r1, q1⟩ => ?_))
  refine wpAny_bind (wpAny_holding (thn (hi pins s1 σ H1 _ I1 q1) fun iv s2 ⟨y, H2, I2, r2, q2⟩ => ?_))
  refine wpAny_bind (wpAny_standAt (wpAny_bind (wpAny_holding (thn (hs pins s2 σ H2 x y v ov iv u _ I2 r1 r2 r q2) fun _ s3 ⟨H3, I3, q3⟩ => ?_))))
  exact wpAny_release ⟨σ, H3, I3, q3⟩
/-- target = value -/
def tAsg (te : TE) (g : TG) : TS := fun D σ H => te σ H fun x H1 => g x σ H1 D.nx
theorem ps_asg {tg e : Expr} {te : TE} {g : TG} (he : PE X e te) (hg : PG X tg g) (hs : swapsWithSole [tg] e pos.line X.env = pure false := by rfl) (hw : swappedStores [tg] e X.env = pure none := by rfl)
    (h1 : (assignEach [tg] X.env).map (·.2) = [assign tg X.env] := by rfl) : PS X (.Assign [tg] e pos) (tAsg te g) := by
  intro pins s σ H D I h
  refine wpAny_Assign_stores (thn (he pins s σ H _ I h) fun v s1 ⟨x, H1, I1, r1, q1⟩ => ?_) hs hw
  rw [h1]
  exact thn (hg pins s1 σ H1 x v _ I1 r1 q1) fun _ s2 q => q
/-- name = value -/
theorem ps_set {i : Nat} {x : Str} {e : Expr} {te : TE} {pos' : Pos} (hN : X.N.Nodup) (hi : X.N[i]? = some x) (hx : Loc X.env.scope x) (he : PE X e te) (hs : swapsWith e (some (.Name x pos')) pos.line X.env = pure false := by rfl) (hf : X.fn x = true ∨ X.env.scope.names.lookup x = some .local := by first | exact .inl rfl | exact .inr rfl | assumption) :
    PS X (.Assign [.Name x pos'] e pos) (tAsg te (gName i)) := by
  intro pins s σ H D I h
  refine wpAny_Assign_Name (thn (he pins s σ H _ I h) fun v s1 ⟨y, H1, I1, r1, q1⟩ => ?_) hs
  exact store_ok I1 hN hi hx r1 (fun s2 I2 => ⟨_, H1, I2, q1⟩) hf
/-- name op= e -/
def tAug (i : Nat) (te : TE) (ti : TIp) : TS := fun D σ H => ∃ x, σ[i]? = some (some x) ∧ te σ H fun y H1 => ti x y H1 fun z H2 => D.nx (σ.set i (some z)) H2
theorem ps_aug {i : Nat} {x : Str} {e : Expr} {te : TE} {op : Operator} {ti : TIp} {pos' : Pos} (hN : X.N.Nodup) (hi : X.N[i]? = some x) (hx : Loc X.env.scope x) (he : PE X e te) (ho : PIp X op ti) (hf : X.fn x = true ∨ X.env.scope.names.lookup x = some .local := by first | exact .inl rfl | exact .inr rfl | assumption) :
    PS X (.AugAssign (.Name x pos') op e pos) (tAug i te ti) := by
  intro pins s σ H D I h
  obtain ⟨v, e1, h⟩ := h
  obtain ⟨m, hn, hl⟩ := I.loc
  have vis : Vis X.env.scope x := by rcases hx with k | k; exact .inl k; exact .inr (.inl k)
  obtain ⟨u, r, l⟩ := hl i x v hi e1 vis
  refine wpAny_AugAssign_Name ?_
  have go : wpAny (model X.prog X.w) X.A (eval e X.env) (fun w s₂ => wpAny (model X.prog X.w) X.A (inplaceOp op u w) (fun r s₃ => wpAny (model X.prog X.w) X.A (storeName X.env x r) (fun _ => SP X pins D .next) X.xe s₃) X.xe s₂) X.xe s := by
    refine thn (he pins s σ H _ I h) fun w s1 ⟨y, H1, I1, r1, q1⟩ => ?_
    refine thn (ho pins s1 σ H1 v y u w _ I1 r r1 q1) fun z s2 ⟨zv, H2, I2, r2, q2⟩ => ?_
    exact store_ok I2 hN hi hx r2 (fun s3 I3 => ⟨_, H2, I3, q2⟩) hf
  rcases l with ⟨hk, hm⟩ | ⟨hk, c, hc, hcell⟩
  · exact wpAny_loadName_local I.ok.kind hk hn hm go
  · rcases hk with hk | hk
    · exact wpAny_loadName_cell I.ok.kind hk hc hcell go
    · rcases hx with k | k
      · have : X.env.scope.names.lookup x = some .free := hk
        rw [k] at this; cases this
      · have : X.env.scope.names.lookup x = some .free := hk
        rw [k] at this; cases this
/-- ints -/
def ipI (f : Int → Int → Int) : TIp := fun x y H Q => ∃ i j, x = .int i ∧ y = .int j ∧ Q (.int (f i j)) H
theorem ip_add : PIp X .Add (ipI fun i j => i + j) := by
  intro pins s σ H x y v u Q I r1 r2 h
  obtain ⟨i, j, e1, e2, q⟩ := h
  subst e1; subst e2
  obtain ⟨t, rfl⟩ := r1
  obtain ⟨t', rfl⟩ := r2
  exact iadd_int ⟨.int _, H, I.tok _, ⟨_, rfl⟩, q⟩
end

/-! ### while -/
section
variable {X : Cx} {pos : Pos}
/-- the invariant W with its measure -/
def tWhile (c : TT) (tb : TS) : TS := fun D σ H => ∃ W : Nat → St → Hp → Prop, (∃ m, W m σ H) ∧ ∀ m σ H, W m σ H →
  c σ H fun b H1 => if b = true then ∃ N : St → Hp → Prop, (∀ σ' H', N σ' H' → ∃ m', m' < m ∧ W m' σ' H') ∧ tb { D with nx := N, ct := N, bk := D.nx } σ H1 else D.nx σ H1
theorem ps_while {c : Expr} {body : List Stmt} {tc : TT} {tb : TS} (hp : PassesOwn (model X.prog X.w) X.A X.env X.xe) (hc : PT X c tc) (hb : PSs X body tb) : PS X (.While c body [] pos) (tWhile tc tb) := by
  intro pins s σ H D I h
  obtain ⟨W, ⟨m0, w0⟩, turn⟩ := h
  refine wpAny_While (codeAny_whileLoop (fun n s' => ∃ σ' H', Inv X pins σ' H' s' ∧ W n σ' H') ?_ m0 ⟨σ, H, I, w0⟩)
  rintro n s1 ⟨σ1, H1, I1, w1⟩
  refine wpAny_passesOwn hp (thn (hc pins s1 σ1 H1 _ I1 (turn n σ1 H1 w1)) fun b s2 ⟨H2, I2, q2⟩ => ?_)
  cases b with
  | true =>
    obtain ⟨N, hN, q2⟩ := q2
    rw [if_pos rfl]
    refine wpAny_passesOwn hp (thn (hb pins s2 σ1 H2 _ I2 q2) fun f s3 q3 => ?_)
    cases f with
    | next =>
      obtain ⟨σ3, H3, I3, n3⟩ := q3
      obtain ⟨m', hm, w3⟩ := hN σ3 H3 n3
      exact ⟨m', hm, σ3, H3, I3, w3⟩
    | cont =>
      obtain ⟨σ3, H3, I3, n3⟩ := q3
      obtain ⟨m', hm, w3⟩ := hN σ3 H3 n3
      exact ⟨m', hm, σ3, H3, I3, w3⟩
    | brk => exact q3
    | ret v => exact q3
  | false =>
    rw [if_neg Bool.false_ne_true]
    exact wpAny_execs_nil ⟨σ1, H2, I2, q2⟩
end

/-! ### what a loop or a comprehension walks -/
/-- at turn i: it yields x (the heap may grow), or it stops -/
structure It where
  go : Nat → Hp → Prop
  yld : Nat → Hp → V → Hp → Prop
  stop : Nat → Hp → Prop
/-- the iterator's own objects may turn: they are not the frame's, not pinned, younger than the entry (or a comprehension's own) -/
def FpOk (X : Cx) (pins : List (Addr × Obj)) (H : Hp) (b : Addr) : Prop :=
  H b = none ∧ b ≠ X.env.locals ∧ b ∉ X.fs ∧ (b ∈ X.ex ∨ X.s₀.heap.objs.size ≤ b) ∧ (∀ x c, X.env.cells.lookup x = some c → c ≠ b) ∧ ∀ p ∈ X.pn ++ pins, p.1 ≠ b
theorem Inv.fpOk {X : Cx} {pins : List (Addr × Obj)} {σ : St} {H H' : Hp} {s : Shared} {b : Addr} (I : Inv X pins σ H s) (hb : s.heap.objs.size ≤ b) (hn : H' b = none) : FpOk X pins H' b := by
  refine ⟨hn, Nat.ne_of_gt (Nat.lt_of_lt_of_le I.lt hb), I.nofs hb, .inr (Nat.le_trans I.sz hb), fun x c e z => ?_, fun p hp z => ?_⟩
  · obtain ⟨v, q⟩ := I.cell x c e
    exact absurd (Nat.lt_of_lt_of_le q.lt (by rw [z]; exact hb)) (Nat.lt_irrefl _)
  · exact absurd (Nat.lt_of_lt_of_le (Heap.lt_size (I.pin p hp).1) (by rw [z]; exact hb)) (Nat.lt_irrefl _)
structure Turn (P : Program) (w : World) (K : PySem.W.Frag) (tg : Expr) (J : It) (fp : List Addr) (it : Addr) (tn : Nat → Heap → Prop) : Prop where
  mem : it ∈ fp
  obj : ∀ i h, tn i h → ∀ b ∈ fp, ∃ o, h.get? b = some o ∧ ∀ v, o.data ≠ .cell v
  keep : ∀ i h h', tn i h → (∀ b ∈ fp, ∀ o, h.get? b = some o → h'.get? b = some o) → tn i h'
  item : ∀ (X : Cx), X.prog = P → X.w = w → X.K = K → X.calm = true → ∀ (i : Nat) (pins : List (Addr × Obj)) (s : Shared) (σ : St) (H : Hp) (E : Value → Shared → Prop), Inv X pins σ H s → (∀ b ∈ fp, FpOk X pins H b) → tn i s.heap → J.go i H →
    wpAny (model P w) X.A (pyNext (.ref it)) (fun r s1 => ∃ u, r = some u ∧
      wpAny (model P w) X.A (letOwnedTupleGo tg (.ref it) u) (fun _ s2 => ∃ x H', Inv X pins σ H' s2 ∧ RelV x u ∧ J.yld i H x H' ∧ tn (i + 1) s2.heap ∧ ∀ b ∈ fp, H' b = none) E s1) E s
  done : ∀ (X : Cx), X.prog = P → X.w = w → X.K = K → X.calm = true → ∀ (i : Nat) (pins : List (Addr × Obj)) (s : Shared) (σ : St) (H : Hp) (E : Value → Shared → Prop), Inv X pins σ H s → (∀ b ∈ fp, FpOk X pins H b) → tn i s.heap → J.stop i H →
    wpAny (model P w) X.A (pyNext (.ref it)) (fun r s1 => r = none ∧ Inv X pins σ H s1) E s
  self : ∀ (A : Around) (i : Nat) (s : Shared) (Q : Value → Shared → Prop) (E : Value → Shared → Prop), tn i s.heap → Q (.ref it) s → wpAny (model P w) A (pyIter (.ref it)) Q E s
abbrev TI := St → Hp → (It → Hp → Prop) → Prop
/-- an iterator has come -/
def PIE (X : Cx) (pins : List (Addr × Obj)) (σ : St) (tg : Expr) (R : It → Hp → Prop) (itv : Value) (s2 : Shared) : Prop :=
  ∃ (it : Addr) (fp : List Addr) (tn : Nat → Heap → Prop) (J : It) (H' : Hp), itv = .ref it ∧ Inv X pins σ H' s2 ∧ Turn X.prog X.w X.K tg J fp it tn ∧ tn 0 s2.heap ∧ (∀ b ∈ fp, FpOk X pins H' b) ∧ R J H'
def PI (X : Cx) (tg iter : Expr) (wi : TI) : Prop :=
  ∀ (pins : List (Addr × Obj)) (s : Shared) (σ : St) (H : Hp) (R : It → Hp → Prop), Inv X pins σ H s → wi σ H R →
    wpAny (model X.prog X.w) X.A (eval iter X.env) (fun v s1 => wpAny (model X.prog X.w) X.A (pyIter v) (PIE X pins σ tg R) X.xe s1) X.xe s

/-- the step ahead of the store is nothing for an iterator that keeps no tuple -/
theorem go_of {M : Model} {A : Around} {E : Value → Shared → Prop} {s : Shared} {tg : Expr} {it : Addr} {u : Value} {o : Obj} {n : String} {vs : Array Value} {Q : Unit → Shared → Prop} (ho : s.heap.get? it = some o) (hc : o.cls = .type n) (hd : o.data = .fields vs)
    (hn : ["enumerate", "zip", "dict_itemiterator", "dict_reverseitemiterator", "odict_iterator", "itertools.zip_longest", "itertools.pairwise"].contains n = false) (hQ : Q () s) : wpAny M A (letOwnedTupleGo tg (.ref it) u) Q E s := by
  unfold letOwnedTupleGo
  cases tg <;> first
    | exact wpAny_pure hQ
    | (cases u <;> first
        | exact wpAny_pure hQ
        | (refine wpAny_bind (wpAny_load ho ?_)
           rw [hc, hd]
           show wpAny M A (if (["enumerate", "zip", "dict_itemiterator", "dict_reverseitemiterator", "odict_iterator", "itertools.zip_longest", "itertools.pairwise"].contains n && vs[0]? == some (rawInt _)) = true then _ else _) Q E s
           rw [if_neg (by intro h; rw [hn, Bool.false_and] at h; cases h)]
           exact wpAny_pure hQ))

/-- the list at a, as it stands at each turn (a loop may append to it) -/
def Itl (K : PySem.W.Frag) (a : Addr) : It :=
  ⟨fun i H => ∃ xs x, SqL K H a xs ∧ xs[i]? = some x, fun i H x H' => H' = H ∧ ∀ xs, SqL K H a xs → xs[i]? = some x, fun i H => ∃ xs, SqL K H a xs ∧ xs.length ≤ i⟩
/-- lo, lo + 1, .. (n of them) -/
def Itr (lo : Int) (n : Nat) : It := ⟨fun i _ => i < n, fun i H x H' => H' = H ∧ x = .int (lo + i), fun i _ => n ≤ i⟩
theorem turn_list {P : Program} {w : World} {K : PySem.W.Frag} {tg : Expr} (a it : Addr) : Turn P w K tg (Itl K a) [it] it (fun i h => h.IsListIter it a i) where
  mem := by simp
  obj := fun i h st b hb => by
    have e : b = it := by simpa using hb
    subst e
    obtain ⟨o, e, c, d⟩ := st
    exact ⟨o, e, fun v z => by rw [d] at z; cases z⟩
  keep := fun i h h' st k => st.at fun o e => k it (by simp) o e
  item := by
    intro X hP hw hK hc i pins s σ H E I hf st hg
    subst hP hw hK
    obtain ⟨xs, x, hq, hx⟩ := hg
    obtain ⟨its, rv, p, hz⟩ := I.list hq
    obtain ⟨u, hu, ru⟩ := rv.get hx
    obtain ⟨f0, f1, f2, f3, f4, f5⟩ := hf it (by simp)
    refine wpAny_pyNext_list_item st p.isList (x := u) (by simpa using hu) fun h' st' sb => ?_
    have I1 : Inv X pins σ H { s with heap := h' } := I.turned (t' := s.toks) (fun b o hb e => (sb.2 b hb).trans e) f0 f1 f3 f4 f5
    obtain ⟨o, e, c, d⟩ := id st'
    exact ⟨u, rfl, go_of (s := { s with heap := h' }) e c d (by decide) ⟨x, H, I1, ru, ⟨rfl, fun ys hy => by rw [I.list_inj hy hq]; exact hx⟩, st', fun b hb => (hf b hb).1⟩⟩
  done := by
    intro X hP hw hK hc i pins s σ H E I hf st hg
    subst hP hw hK
    obtain ⟨xs, hq, hx⟩ := hg
    obtain ⟨its, rv, p, hz⟩ := I.list hq
    obtain ⟨f0, f1, f2, f3, f4, f5⟩ := hf it (by simp)
    have hl := rv.length
    exact wpAny_pyNext_list_end (I.ok.hd hc) st p.isList (by simp; omega) fun h' eb => ⟨rfl, I.turned (t' := s.toks) (fun b o hb e => eb b o hb e) f0 f1 f3 f4 f5⟩
  self := fun _ _ _ _ _ st h => wpAny_pyIter_listiter st h
theorem turn_range {P : Program} {w : World} {K : PySem.W.Frag} {tg : Expr} (it : Addr) (lo : Int) (n : Nat) : Turn P w K tg (Itr lo n) [it] it (fun i h => IsRangeIter h it (lo + (i : Nat) * 1) ((n : Int) - (i : Nat)) 1) where
  mem := by simp
  obj := fun i h st b hb => by
    have e : b = it := by simpa using hb
    subst e
    exact ⟨_, st, fun v z => by
      have z' : Data.fields _ = Data.cell v := z
      cases z'⟩
  keep := fun i h h' st k => k it (by simp) _ st
  item := by
    intro X hP hw hK hc i pins s σ H E I hf st hg
    subst hP hw hK
    obtain ⟨f0, f1, f2, f3, f4, f5⟩ := hf it (by simp)
    have W := Walks.range (prog := X.prog) (w := X.w) (I.ok.hd hc) it lo 1 n
    refine wpAny_with_toks (n := 1) I.tk (W.item i s _ _ hg st fun v h' tk hv st' kk htk => ?_)
    obtain ⟨t, rfl⟩ := hv
    have htk : 0 < tk := htk
    have I1 : Inv X pins σ H { s with heap := h', toks := tk } := I.turned (fun b o hb e => kk b o (by simpa using hb) e) f0 f1 f3 f4 f5
    refine ⟨_, rfl, go_of (s := { s with heap := h', toks := tk }) (n := "range_iterator") st' rfl rfl (by decide) ⟨.int (lo + i), H, I1, ⟨t, ?_⟩, ⟨rfl, rfl⟩, st', fun b hb => (hf b hb).1⟩⟩
    rw [Int.mul_one]
  done := by
    intro X hP hw hK hc i pins s σ H E I hf st hg
    subst hP hw hK
    obtain ⟨f0, f1, f2, f3, f4, f5⟩ := hf it (by simp)
    exact wpAny_pyNext_range_end (I.ok.hd hc) st (by have : n ≤ i := hg; omega) fun h' eb => ⟨rfl, I.turned (t' := s.toks) (fun b o hb e => eb b o hb e) f0 f1 f3 f4 f5⟩
  self := fun _ _ _ _ _ st h => wpAny_pyIter_rangeiter st h
end L2

namespace L2
open PySem PySem.Spec PyProof.Rows
section
variable {X : Cx} {tg : Expr}
def iList (K : PySem.W.Frag) (tl : TE) : TI := fun σ H R => tl σ H fun x H1 => ∃ a, x = .ref a ∧ (∃ xs, SqL K H1 a xs) ∧ R (Itl K a) H1
theorem pi_list {l : Expr} {tl : TE} (hl : PE X l tl) : PI X tg l (iList X.K tl) := by
  intro pins s σ H R I h
  refine thn (hl pins s σ H _ I h) fun v s1 ⟨x, H1, I1, r1, q1⟩ => ?_
  obtain ⟨a, e, ⟨xs, hq⟩, q⟩ := q1
  subst e
  cases r1
  obtain ⟨its, rv, p, hz⟩ := I1.list hq
  refine wpAny_pyIter_list p.isList ?_
  refine ⟨s1.heap.objs.size, [s1.heap.objs.size], _, _, H1, rfl, I1.kept (t' := s1.toks) fun b o e => Heap.get?_push_of_some _ e, turn_list a _, ⟨_, Heap.get?_push_size _ rfl, rfl, rfl⟩, fun b hb => ?_, q⟩
  have e : b = s1.heap.objs.size := by simpa using hb
  subst e
  exact I1.fpOk (Nat.le_refl _) (I1.hok.fresh (Nat.le_refl _))
/-- a range object just made, walked -/
theorem range_it {pins : List (Addr × Obj)} {σ : St} {H : Hp} {s : Shared} {R : It → Hp → Prop} {E : Value → Shared → Prop} {lo hi : Int} {t u v : Tok} {tk : Nat} (htk : 0 < tk) (I : Inv X pins σ H s) (h1 : -(2 ^ 62) ≤ lo) (h2 : lo < 2 ^ 62) (h3 : -(2 ^ 62) ≤ hi) (h4 : hi < 2 ^ 62)
    (q : R (Itr lo (hi - lo).toNat) H) : wpAny (model X.prog X.w) X.A (pyIter (.ref s.heap.objs.size)) (PIE X pins σ tg R) E { s with heap := s.heap.push { cls := .type "range", data := .fields #[.int lo t, .int hi u, .int 1 v] }, toks := tk } := by
  refine wpAny_pyIter_range (IsRange.new ..) (small_one h1 h2 h3 h4) ?_
  have I1 : Inv X pins σ H { s with heap := s.heap.push { cls := .type "range", data := .fields #[.int lo t, .int hi u, .int 1 v] }, toks := tk } := I.kept fun b o e => Heap.get?_push_of_some _ e
  refine ⟨(s.heap.push { cls := .type "range", data := .fields #[.int lo t, .int hi u, .int 1 v] }).objs.size, [(s.heap.push { cls := .type "range", data := .fields #[.int lo t, .int hi u, .int 1 v] }).objs.size], _, _, H, rfl,
    I1.kept (t' := tk) fun b o e => Heap.get?_push_of_some _ e, turn_range _ lo (hi - lo).toNat, ?_, fun b hb => ?_, q⟩
  · have e1 : lo + ((0 : Nat) : Int) * 1 = lo := by simp
    have e2 : (((hi - lo).toNat : Nat) : Int) - ((0 : Nat) : Int) = Builtin.Range.rangeSize lo hi 1 := by rw [rangeSize_one]; split <;> omega
    show IsRangeIter _ _ (lo + ((0 : Nat) : Int) * 1) ((((hi - lo).toNat : Nat) : Int) - ((0 : Nat) : Int)) 1
    rw [e1, e2]
    exact Heap.get?_push_size _ rfl
  · have e : b = (s.heap.push { cls := .type "range", data := .fields #[.int lo t, .int hi u, .int 1 v] }).objs.size := by simpa using hb
    subst e
    exact I1.fpOk (Nat.le_refl _) (I1.hok.fresh (Nat.le_refl _))
def iRng1 (ta : TA) : TI := fun σ H R => ta σ H fun vs H1 => ∃ j : Int, vs = [.int j] ∧ -(2 ^ 62) ≤ j ∧ j < 2 ^ 62 ∧ R (Itr 0 j.toNat) H1
theorem pi_range1 {a : Expr} {ta : TA} {p pos : Pos} (hg : Gl X "range") (hm : X.mg "range" = none) (ha : PA X [a] ta) (hs : starEach [a] X.env = [(false, eval a X.env)] := by rfl) : PI X tg (.Call (.Name "range" p) [a] [] pos) (iRng1 ta) := by
  intro pins s σ H R I h
  refine Call_ (ld_blt I hg hm boot_range (PyProof.Rows.callWith_type1 (thn (ha pos pins s σ H _ I h) fun us s1 ⟨vs, H1, I1, r1, q1⟩ => ?_) hs rfl))
  obtain ⟨j, e, q1, q2, q⟩ := q1
  subst e
  cases r1 with
  | cons r rr =>
    cases rr
    obtain ⟨t, rfl⟩ := r
    exact call_range_1 (range_it (by first | exact I1.tk | exact Nat.succ_pos _) I1 (by omega) (by omega) q1 q2 (by simpa using q))

/-! ### for -/
/-- W: the invariant by the turn and a measure; N: what the body is to reach -/
def tFor (wi : TI) (g : TG) (tb : TS) : TS := fun D σ H => wi σ H fun J H1 => ∃ W : Nat → Nat → St → Hp → Prop, (∃ m, W 0 m σ H1) ∧ ∀ i m σ H, W i m σ H →
  (J.stop i H ∧ D.nx σ H) ∨ (J.go i H ∧ ∃ N : St → Hp → Prop, (∀ σ' H', N σ' H' → ∃ m', m' < m ∧ W (i + 1) m' σ' H') ∧ ∀ x H', J.yld i H x H' → g x σ H' fun σ2 H2 => tb { D with nx := N, ct := N, bk := D.nx } σ2 H2)
/-- the records at fp as they stand -/
def pinsAt (fp : List Addr) (h : Heap) : List (Addr × Obj) := fp.filterMap fun b => (h.get? b).map fun o => (b, o)
theorem mem_pinsAt {fp : List Addr} {h : Heap} {b : Addr} {o : Obj} (hb : b ∈ fp) (e : h.get? b = some o) : (b, o) ∈ pinsAt fp h := List.mem_filterMap.mpr ⟨b, hb, by rw [e]; rfl⟩
theorem of_pinsAt {fp : List Addr} {h : Heap} {p : Addr × Obj} (hp : p ∈ pinsAt fp h) : p.1 ∈ fp ∧ h.get? p.1 = some p.2 := by
  obtain ⟨b, hb, e⟩ := List.mem_filterMap.mp hp
  cases q : h.get? b with
  | none => rw [q] at e; cases e
  | some o =>
    rw [q] at e
    have e' : (b, o) = p := Option.some.inj e
    subst e'
    exact ⟨hb, q⟩
theorem Inv.pinned {pins : List (Addr × Obj)} {σ : St} {H : Hp} {s : Shared} {fp : List Addr} (I : Inv X pins σ H s) (hf : ∀ b ∈ fp, FpOk X pins H b) (ho : ∀ b ∈ fp, ∃ o, s.heap.get? b = some o ∧ ∀ v, o.data ≠ .cell v) : Inv X (pins ++ pinsAt fp s.heap) σ H s :=
  I.pins_of fun p hp => (List.mem_append.mp hp).elim (fun z => I.pin p (List.mem_append_right _ z)) fun z => by
    obtain ⟨hb, e⟩ := of_pinsAt z
    obtain ⟨f0, f1, f2, _⟩ := hf p.1 hb
    obtain ⟨o, e', d⟩ := ho p.1 hb
    rw [e] at e'; cases e'
    exact ⟨e, f0, f1, f2, d⟩
theorem Inv.unpinned {pins pl : List (Addr × Obj)} {σ : St} {H : Hp} {s : Shared} (I : Inv X (pins ++ pl) σ H s) : Inv X pins σ H s := I.pins_of fun p hp => I.pin p (List.mem_append_right _ (List.mem_append_left _ hp))
theorem ps_for {iter : Expr} {body : List Stmt} {wi : TI} {g : TG} {tb : TS} {pos : Pos} (hp : PassesOwn (model X.prog X.w) X.A X.env X.xe) (hc : X.calm = true) (hi : PI X tg iter wi) (hg : PG X tg g) (hb : PSs X body tb)
    (hs : ∀ x, foldedSetIterable iter X.env x = pure x := by intro _; rfl) : PS X (.For tg iter body [] pos) (tFor wi g tb) := by
  intro pins s σ H D I h
  refine wpAny_For (thn (hi pins s σ H _ I h) fun v s1 h1 => thn h1 fun itv s2 h2 => ?_) hs
  obtain ⟨it, fp, tn, J, H2, e, I2, T, st2, f2, W, ⟨m0, w0⟩, turn⟩ := h2
  subst e
  -- what stays true of the iterator's objects through the loop
  have stat : ∀ {H' : Hp}, (∀ b ∈ fp, H' b = none) → ∀ b ∈ fp, FpOk X pins H' b := fun hn b hb => ⟨hn b hb, (f2 b hb).2⟩
  refine codeAny_forLoop_any (fun n s' => ∃ i σ' H', Inv X pins σ' H' s' ∧ tn i s'.heap ∧ (∀ b ∈ fp, H' b = none) ∧ W i n σ' H') ?_ m0 ⟨0, σ, H2, I2, st2, fun b hb => (f2 b hb).1, w0⟩
  rintro n s3 ⟨i, σ3, H3, I3, st3, fr3, w3⟩
  rcases turn i n σ3 H3 w3 with ⟨stop, qn⟩ | ⟨go, N, hN, step⟩
  · refine wpAny_passesOwn hp (thn (T.done X rfl rfl rfl hc i pins s3 σ3 H3 X.xe I3 (stat fr3) st3 stop) fun r s4 ⟨hr, I4⟩ => ?_)
    subst hr
    exact wpAny_execs_nil ⟨σ3, H3, I4, qn⟩
  · refine wpAny_passesOwn hp (thn (T.item X rfl rfl rfl hc i pins s3 σ3 H3 X.xe I3 (stat fr3) st3 go) fun r s4 ⟨u, hr, h4⟩ => ?_)
    subst hr
    refine wpAny_passesOwn hp (thn h4 fun _ s5 ⟨x, H5, I5, r5, y5, st5, fr5⟩ => ?_)
    have I5' := I5.pinned (stat fr5) (T.obj _ _ st5)
    refine wpAny_passesOwn hp (thn (hg _ s5 σ3 H5 x u _ I5' r5 (step x H5 y5)) fun _ s6 ⟨σ6, H6, I6, q6⟩ => ?_)
    refine wpAny_passesOwn hp (thn (hb _ s6 σ6 H6 _ I6 q6) fun f s7 q7 => ?_)
    have again : ∀ {σ7 : St} {H7 : Hp}, Inv X (pins ++ pinsAt fp s5.heap) σ7 H7 s7 → N σ7 H7 → ∃ m, m < n ∧ ∃ i σ' H', Inv X pins σ' H' s7 ∧ tn i s7.heap ∧ (∀ b ∈ fp, H' b = none) ∧ W i m σ' H' := fun {σ7 H7} I7 n7 => by
      obtain ⟨m', hm, w7⟩ := hN σ7 H7 n7
      refine ⟨m', hm, i + 1, σ7, H7, I7.unpinned, T.keep _ _ _ st5 fun b hb o e => (I7.pin (b, o) (List.mem_append_right _ (List.mem_append_right _ (mem_pinsAt hb e)))).1, fun b hb => ?_, w7⟩
      obtain ⟨o, e, d⟩ := T.obj _ _ st5 b hb
      exact (I7.pin (b, o) (List.mem_append_right _ (List.mem_append_right _ (mem_pinsAt hb e)))).2.1
    cases f with
    | next => obtain ⟨σ7, H7, I7, n7⟩ := q7; exact again I7 n7
    | cont => obtain ⟨σ7, H7, I7, n7⟩ := q7; exact again I7 n7
    | brk => obtain ⟨σ7, H7, I7, q7⟩ := q7; exact ⟨σ7, H7, I7.unpinned, q7⟩
    | ret v => obtain ⟨x7, σ7, H7, I7, r7, q7⟩ := q7; exact ⟨x7, σ7, H7, I7.unpinned, r7, q7⟩
end

/-! ### the forms one uses -/
/-- over a list that the body leaves as it is -/
theorem for_list {K : PySem.W.Frag} {a : Addr} {xs : List V} {g : TG} {tb : TS} {D : Ends} {σ : St} {H : Hp} (Pv : Nat → St → Hp → Prop) (h0 : Pv 0 σ H) (hl : ∀ i σ H, i ≤ xs.length → Pv i σ H → SqL K H a xs)
    (hs : ∀ i x σ H, xs[i]? = some x → Pv i σ H → g x σ H fun σ2 H2 => tb { D with nx := Pv (i + 1), ct := Pv (i + 1), bk := D.nx } σ2 H2) (hd : ∀ σ H, Pv xs.length σ H → D.nx σ H) :
    ∃ W : Nat → Nat → St → Hp → Prop, (∃ m, W 0 m σ H) ∧ ∀ i m σ H, W i m σ H →
      ((Itl K a).stop i H ∧ D.nx σ H) ∨ ((Itl K a).go i H ∧ ∃ N : St → Hp → Prop, (∀ σ' H', N σ' H' → ∃ m', m' < m ∧ W (i + 1) m' σ' H') ∧ ∀ x H', (Itl K a).yld i H x H' → g x σ H' fun σ2 H2 => tb { D with nx := N, ct := N, bk := D.nx } σ2 H2) := by
  refine ⟨fun i m σ H => m = xs.length - i ∧ i ≤ xs.length ∧ Pv i σ H, ⟨xs.length, by simp, Nat.zero_le _, h0⟩, ?_⟩
  rintro i m σ H ⟨rfl, hi, p⟩
  have q := hl i σ H hi p
  by_cases hlt : i < xs.length
  · refine .inr ⟨⟨xs, xs[i], q, by simp [hlt]⟩, Pv (i + 1), fun σ' H' p' => ⟨xs.length - (i + 1), by omega, rfl, hlt, p'⟩, fun x H' y => ?_⟩
    obtain ⟨e, y⟩ := y
    subst e
    exact hs i x σ _ (y xs q) p
  · have e : i = xs.length := by omega
    subst e
    exact .inl ⟨⟨xs, q, Nat.le_refl _⟩, hd σ H p⟩
theorem for_range {lo : Int} {n : Nat} {g : TG} {tb : TS} {D : Ends} {σ : St} {H : Hp} (Pv : Nat → St → Hp → Prop) (h0 : Pv 0 σ H)
    (hs : ∀ i σ H, i < n → Pv i σ H → g (.int (lo + i)) σ H fun σ2 H2 => tb { D with nx := Pv (i + 1), ct := Pv (i + 1), bk := D.nx } σ2 H2) (hd : ∀ σ H, Pv n σ H → D.nx σ H) :
    ∃ W : Nat → Nat → St → Hp → Prop, (∃ m, W 0 m σ H) ∧ ∀ i m σ H, W i m σ H →
      ((Itr lo n).stop i H ∧ D.nx σ H) ∨ ((Itr lo n).go i H ∧ ∃ N : St → Hp → Prop, (∀ σ' H', N σ' H' → ∃ m', m' < m ∧ W (i + 1) m' σ' H') ∧ ∀ x H', (Itr lo n).yld i H x H' → g x σ H' fun σ2 H2 => tb { D with nx := N, ct := N, bk := D.nx } σ2 H2) := by
  refine ⟨fun i m σ H => m = n - i ∧ i ≤ n ∧ Pv i σ H, ⟨n, by simp, Nat.zero_le _, h0⟩, ?_⟩
  rintro i m σ H ⟨rfl, hi, p⟩
  by_cases hlt : i < n
  · refine .inr ⟨hlt, Pv (i + 1), fun σ' H' p' => ⟨n - (i + 1), by omega, rfl, hlt, p'⟩, fun x H' y => ?_⟩
    obtain ⟨e, y⟩ := y
    subst e y
    exact hs i σ _ hlt p
  · have e : i = n := by omega
    subst e
    exact .inl ⟨Nat.le_refl _, hd σ H p⟩
end L2

namespace L2
open PySem PySem.Spec PyProof.Rows

abbrev R2 := V → V → Hp → VK → Prop
/-- a two-place operation on values: f is binaryOp op, inplaceOp op or compareOp op -/
def OpR (X : Cx) (f : Value → Value → Sem Value) (r : R2) : Prop :=
  ∀ (pins : List (Addr × Obj)) (s : Shared) (σ : St) (H : Hp) (x y : V) (v u : Value) (Q : VK), Inv X pins σ H s → RelV x v → RelV y u → r x y H Q →
    wpAny (model X.prog X.w) X.A (f v u) (EP X pins σ Q) X.xe s
/-- a one-place operation -/
def UnR (X : Cx) (f : Value → Sem Value) (r : V → Hp → VK → Prop) : Prop :=
  ∀ (pins : List (Addr × Obj)) (s : Shared) (σ : St) (H : Hp) (x : V) (v : Value) (Q : VK), Inv X pins σ H s → RelV x v → r x H Q →
    wpAny (model X.prog X.w) X.A (f v) (EP X pins σ Q) X.xe s
/-- a call of a value that is known (a builtin, a type) with values -/
def CallR (X : Cx) (f : Value) (r : List V → Hp → VK → Prop) : Prop :=
  ∀ (pins : List (Addr × Obj)) (s : Shared) (σ : St) (H : Hp) (xs : List V) (us : List Value) (Q : VK), Inv X pins σ H s → Vals xs us → r xs H Q →
    wpAny (model X.prog X.w) X.A (call f us) (EP X pins σ Q) X.xe s

def tOp (r : R2) (ta tb : TE) : TE := fun σ H Q => ta σ H fun x H1 => tb σ H1 fun y H2 => r x y H2 Q
def tUn (r : V → Hp → VK → Prop) (ta : TE) : TE := fun σ H Q => ta σ H fun x H1 => r x H1 Q
/-- ints in, under C, and a value out -/
def rI (C : Int → Int → Prop) (g : Int → Int → V) : R2 := fun x y H Q => ∃ i j, x = .int i ∧ y = .int j ∧ C i j ∧ Q (g i j) H
def rI0 (g : Int → Int → V) : R2 := fun x y H Q => ∃ i j, x = .int i ∧ y = .int j ∧ Q (g i j) H
def rU (g : Int → V) : V → Hp → VK → Prop := fun x H Q => ∃ i, x = .int i ∧ Q (g i) H

section
variable {X : Cx} {a b c : Expr} {ta tb tc : TE} {pos : Pos}

theorem binT (ha : PE X a ta) (hb : PE X b tb) {pins : List (Addr × Obj)} {s : Shared} {σ : St} {H : Hp} {R : V → V → Hp → Prop} (I : Inv X pins σ H s)
    (h : ta σ H fun x H1 => tb σ H1 fun y H2 => R x y H2) {Q : Value → Shared → Prop} {f : Value → Value → Sem Value}
    (hf : ∀ v u s2 x y H2, Inv X pins σ H2 s2 → RelV x v → RelV y u → R x y H2 → wpAny (model X.prog X.w) X.A (f v u) Q X.xe s2) :
    wpAny (model X.prog X.w) X.A (eval a X.env) (fun v s₁ => wpAny (model X.prog X.w) X.A (eval b X.env) (fun u s₂ => wpAny (model X.prog X.w) X.A (f v u) Q X.xe s₂) X.xe s₁) X.xe s := by
  refine thn (ha pins s σ H _ I h) fun v s1 ⟨x, H1, I1, r1, q1⟩ => ?_
  refine thn (hb pins s1 σ H1 _ I1 q1) fun u s2 ⟨y, H2, I2, r2, q2⟩ => ?_
  exact hf v u s2 x y H2 I2 r1 r2 q2

theorem pe_op {op : Operator} {r : R2} (ho : OpR X (binaryOp op) r) (ha : PE X a ta) (hb : PE X b tb) : PE X (.BinOp a op b pos) (tOp r ta tb) := by
  intro pins s σ H Q I h
  exact wpAny_BinOp (binT ha hb I h fun v u s2 x y H2 I2 rx ry q => ho pins s2 σ H2 x y v u Q I2 rx ry q)
theorem pe_un {op : UnaryOp} {r : V → Hp → VK → Prop} (ho : UnR X (unaryOp op) r) (ha : PE X a ta) : PE X (.UnaryOp op a pos) (tUn r ta) := by
  intro pins s σ H Q I h
  exact UnaryOp_ (thn (ha pins s σ H _ I h) fun v s1 ⟨x, H1, I1, r1, q1⟩ => ho pins s1 σ H1 x v Q I1 r1 q1)

/-! ### ints -/
theorem opI {f : Value → Value → Sem Value} {C : Int → Int → Prop} {g : Int → Int → Int}
    (rule : ∀ (i j : Int) (t u : Tok) (s : Shared) (Q : Value → Shared → Prop) (E : Value → Shared → Prop), C i j → Q (.int (g i j) s.toks) { s with toks := s.toks + 1 } → wpAny (model X.prog X.w) X.A (f (.int i t) (.int j u)) Q E s) :
    OpR X f (rI C fun i j => .int (g i j)) := by
  intro pins s σ H x y v u Q I rx ry h
  obtain ⟨i, j, rfl, rfl, hc, q⟩ := h
  obtain ⟨t, rfl⟩ := rx
  obtain ⟨t', rfl⟩ := ry
  exact rule i j t t' s _ _ hc ⟨.int (g i j), H, I.tok _, ⟨_, rfl⟩, q⟩
theorem opI0 {f : Value → Value → Sem Value} {g : Int → Int → Int}
    (rule : ∀ (i j : Int) (t u : Tok) (s : Shared) (Q : Value → Shared → Prop) (E : Value → Shared → Prop), Q (.int (g i j) s.toks) { s with toks := s.toks + 1 } → wpAny (model X.prog X.w) X.A (f (.int i t) (.int j u)) Q E s) :
    OpR X f (rI0 fun i j => .int (g i j)) := by
  intro pins s σ H x y v u Q I rx ry h
  obtain ⟨i, j, rfl, rfl, q⟩ := h
  obtain ⟨t, rfl⟩ := rx
  obtain ⟨t', rfl⟩ := ry
  exact rule i j t t' s _ _ ⟨.int (g i j), H, I.tok _, ⟨_, rfl⟩, q⟩
theorem opB0 {f : Value → Value → Sem Value} {g : Int → Int → Bool}
    (rule : ∀ (i j : Int) (t u : Tok) (s : Shared) (Q : Value → Shared → Prop) (E : Value → Shared → Prop), Q (.bool (g i j)) s → wpAny (model X.prog X.w) X.A (f (.int i t) (.int j u)) Q E s) :
    OpR X f (rI0 fun i j => .bl (g i j)) := by
  intro pins s σ H x y v u Q I rx ry h
  obtain ⟨i, j, rfl, rfl, q⟩ := h
  obtain ⟨t, rfl⟩ := rx
  obtain ⟨t', rfl⟩ := ry
  exact rule i j t t' s _ _ ⟨.bl (g i j), H, I, rfl, q⟩

def CMul (i j : Int) : Prop := (-(2 ^ 64) < i ∧ i < 2 ^ 64) ∨ (-(2 ^ 64) < j ∧ j < 2 ^ 64)
theorem CMul.ok {i j : Int} (h : CMul i j) : IntMulOk i j := by
  rcases h with ⟨h1, h2⟩ | ⟨h1, h2⟩
  · exact .of_left (intBits_le_64 h1 h2)
  · exact .of_right (intBits_le_64 h1 h2)

theorem op_add : OpR X (binaryOp .Add) (rI0 fun i j => .int (i + j)) := opI0 fun _ _ _ _ _ _ _ q => add_int q
theorem op_sub : OpR X (binaryOp .Sub) (rI0 fun i j => .int (i - j)) := opI0 fun _ _ _ _ _ _ _ q => sub_int q
theorem op_mul : OpR X (binaryOp .Mult) (rI CMul fun i j => .int (i * j)) := opI fun _ _ _ _ _ _ _ hc q => mul_int q hc.ok
/-- % by a positive divisor of any size -/
theorem op_mod : OpR X (binaryOp .Mod) (rI (fun _ j => 0 < j) fun i j => .int (i % j)) := opI fun i j _ _ _ _ _ hc q => by
  have h1 : (0 : Int) < j := hc
  exact mod_int' (by omega) (by rw [Int.fmod_eq_emod_of_nonneg i (by omega)]; exact q)


theorem unI {f : Value → Sem Value} {g : Int → Int}
    (rule : ∀ (i : Int) (t : Tok) (s : Shared) (Q : Value → Shared → Prop) (E : Value → Shared → Prop), Q (.int (g i) s.toks) { s with toks := s.toks + 1 } → wpAny (model X.prog X.w) X.A (f (.int i t)) Q E s) :
    UnR X f (rU fun i => .int (g i)) := by
  intro pins s σ H x v Q I rx h
  obtain ⟨i, rfl, q⟩ := h
  obtain ⟨t, rfl⟩ := rx
  exact rule i t s _ _ ⟨.int (g i), H, I.tok _, ⟨_, rfl⟩, q⟩
theorem un_neg : UnR X (unaryOp .USub) (rU fun i => .int (-i)) := unI fun _ _ _ _ _ q => neg_int q

/-! ### bools among ints: n += (a < b) -/
end

/-! ### comparisons -/
/-- the scalars that == tells apart as data does -/
def scal : V → V → Bool
  | .non, .non => true | .non, .int _ => true | .int _, .non => true | .non, .bl _ => true | .bl _, .non => true | .non, .str _ => true | .str _, .non => true
  | .int _, .int _ => true | .bl _, .bl _ => true | .str _, .str _ => true | .byt _, .byt _ => true
  | .int _, .str _ => true | .str _, .int _ => true | .bl _, .str _ => true | .str _, .bl _ => true
  | _, _ => false
def rEq : R2 := fun x y H Q => scal x y = true ∧ Q (.bl (decide (x = y))) H
def rNe : R2 := fun x y H Q => scal x y = true ∧ Q (.bl (!decide (x = y))) H

theorem dec_int {i j : Int} : decide (V.int i = V.int j) = (i == j) := by
  rw [Bool.eq_iff_iff]
  simp
theorem dec_bl {i j : Bool} : decide (V.bl i = V.bl j) = (i == j) := by
  rw [Bool.eq_iff_iff]
  simp
theorem dec_str {i j : Str} : decide (V.str i = V.str j) = (i == j) := by
  rw [Bool.eq_iff_iff]
  simp
theorem dec_byt {i j : Array UInt8} : decide (V.byt i = V.byt j) = (i.toList == j.toList) := by
  rw [Bool.eq_iff_iff]
  cases i
  cases j
  simp

section
variable {X : Cx} {a b c : Expr} {ta tb tc : TE} {pos : Pos}
theorem fin_bl {pins : List (Addr × Obj)} {σ : St} {H : Hp} {s : Shared} {Q : VK} {k k' : Bool} (I : Inv X pins σ H s) (q : Q (.bl k) H) (e : k = k') : EP X pins σ Q (.bool k') s := by
  subst e
  exact ⟨.bl k, H, I, rfl, q⟩
theorem op_eq : OpR X (compareOp .Eq) rEq := by
  intro pins s σ H x y v u Q I rx ry h
  obtain ⟨hs, q⟩ := h
  cases x with
  | non =>
    cases rx
    cases y with
    | non => cases ry; exact PySem.EqNone.eq_none_none (fin_bl I q (by simp))
    | bl j => cases ry; exact PySem.EqNone.eq_none_bool (fin_bl I q (by simp))
    | int j => obtain ⟨t', rfl⟩ := ry; exact PySem.EqNone.eq_none_int (fin_bl I q (by simp))
    | str j => obtain ⟨t', rfl⟩ := ry; exact PySem.EqNone.eq_none_str (fin_bl I q (by simp))
    | _ => exact absurd (show false = true from hs) Bool.false_ne_true
  | bl i =>
    cases rx
    cases y with
    | non => cases ry; exact PySem.EqNone.eq_bool_none (fin_bl I q (by simp))
    | bl j => cases ry; exact eq_bool (fin_bl I q dec_bl)
    | str j => obtain ⟨t', rfl⟩ := ry; exact PySem.EqMixed.eq_bool_str (fin_bl I q (by simp))
    | _ => exact absurd (show false = true from hs) Bool.false_ne_true
  | int i =>
    obtain ⟨t, rfl⟩ := rx
    cases y with
    | non => cases ry; exact PySem.EqNone.eq_int_none (fin_bl I q (by simp))
    | int j => obtain ⟨t', rfl⟩ := ry; exact eq_int (fin_bl I q dec_int)
    | str j => obtain ⟨t', rfl⟩ := ry; exact PySem.EqMixed.eq_int_str (fin_bl I q (by simp))
    | _ => exact absurd (show false = true from hs) Bool.false_ne_true
  | str i =>
    obtain ⟨t, rfl⟩ := rx
    cases y with
    | non => cases ry; exact PySem.EqNone.eq_str_none (fin_bl I q (by simp))
    | bl j => cases ry; exact PySem.EqMixed.eq_str_bool (fin_bl I q (by simp))
    | int j => obtain ⟨t', rfl⟩ := ry; exact PySem.EqMixed.eq_str_int (fin_bl I q (by simp))
    | str j => obtain ⟨t', rfl⟩ := ry; exact eq_str (fin_bl I q dec_str)
    | _ => exact absurd (show false = true from hs) Bool.false_ne_true
  | byt i =>
    obtain ⟨t, rfl⟩ := rx
    cases y with
    | byt j => obtain ⟨t', rfl⟩ := ry; exact PySem.W.eq_bytes (fin_bl I q dec_byt)
    | _ => exact absurd (show false = true from hs) Bool.false_ne_true
  | _ => cases y <;> exact absurd (show false = true from hs) Bool.false_ne_true
theorem op_ne : OpR X (compareOp .NotEq) rNe := by
  intro pins s σ H x y v u Q I rx ry h
  obtain ⟨hs, q⟩ := h
  cases x with
  | non =>
    cases rx
    cases y with
    | non => cases ry; exact PySem.EqNone.ne_none_none (fin_bl I q (by simp))
    | bl j => cases ry; exact PySem.EqNone.ne_none_bool (fin_bl I q (by simp))
    | int j => obtain ⟨t', rfl⟩ := ry; exact PySem.EqNone.ne_none_int (fin_bl I q (by simp))
    | str j => obtain ⟨t', rfl⟩ := ry; exact PySem.EqNone.ne_none_str (fin_bl I q (by simp))
    | _ => exact absurd (show false = true from hs) Bool.false_ne_true
  | bl i =>
    cases rx
    cases y with
    | non => cases ry; exact PySem.EqNone.ne_bool_none (fin_bl I q (by simp))
    | bl j => cases ry; exact ne_bool (fin_bl I q (congrArg not dec_bl))
    | str j => obtain ⟨t', rfl⟩ := ry; exact PySem.EqMixed.ne_bool_str (fin_bl I q (by simp))
    | _ => exact absurd (show false = true from hs) Bool.false_ne_true
  | int i =>
    obtain ⟨t, rfl⟩ := rx
    cases y with
    | non => cases ry; exact PySem.EqNone.ne_int_none (fin_bl I q (by simp))
    | int j => obtain ⟨t', rfl⟩ := ry; exact ne_int (fin_bl I q (congrArg not dec_int))
    | str j => obtain ⟨t', rfl⟩ := ry; exact PySem.EqMixed.ne_int_str (fin_bl I q (by simp))
    | _ => exact absurd (show false = true from hs) Bool.false_ne_true
  | str i =>
    obtain ⟨t, rfl⟩ := rx
    cases y with
    | non => cases ry; exact PySem.EqNone.ne_str_none (fin_bl I q (by simp))
    | bl j => cases ry; exact PySem.EqMixed.ne_str_bool (fin_bl I q (by simp))
    | int j => obtain ⟨t', rfl⟩ := ry; exact PySem.EqMixed.ne_str_int (fin_bl I q (by simp))
    | str j => obtain ⟨t', rfl⟩ := ry; exact ne_str (fin_bl I q (congrArg not dec_str))
    | _ => exact absurd (show false = true from hs) Bool.false_ne_true
  | byt i =>
    obtain ⟨t, rfl⟩ := rx
    cases y with
    | byt j => obtain ⟨t', rfl⟩ := ry; exact PySem.W.ne_bytes (fin_bl I q (congrArg not dec_byt))
    | _ => exact absurd (show false = true from hs) Bool.false_ne_true
  | _ => cases y <;> exact absurd (show false = true from hs) Bool.false_ne_true

theorem op_lt : OpR X (compareOp .Lt) (rI0 fun i j => .bl (decide (i < j))) := opB0 fun _ _ _ _ _ _ _ q => lt_int q
theorem op_le : OpR X (compareOp .LtE) (rI0 fun i j => .bl (decide (i ≤ j))) := opB0 fun _ _ _ _ _ _ _ q => le_int q
theorem op_gt : OpR X (compareOp .Gt) (rI0 fun i j => .bl (decide (j < i))) := opB0 fun _ _ _ _ _ _ _ q => gt_int q




theorem nomark (b : Expr) {op : CmpOp} (h : op ≠ .In := by decide) (h2 : op ≠ .NotIn := by decide) : behindInMarks op b = false := by
  have e1 : (op == CmpOp.In) = false := by cases op <;> first | rfl | exact absurd rfl h
  have e2 : (op == CmpOp.NotIn) = false := by cases op <;> first | rfl | exact absurd rfl h2
  cases b <;> simp [behindInMarks, e1, e2]
/-- a comparison as a value; hm: nomark b, or (for in, not in) by with_unfolding_all rfl -/
theorem pe_cmpR {op : CmpOp} {r : R2} (ho : OpR X (compareOp op) r) (ha : PE X a ta) (hb : PE X b tb) (hm : behindInMarks op b = false) : PE X (.Compare a [op] [b] pos) (tOp r ta tb) := by
  intro pins s σ H Q I h
  exact wpAny_Compare1 (binT ha hb I h fun v u s2 x y H2 I2 rx ry q => ho pins s2 σ H2 x y v u Q I2 rx ry q) hm
/-- a reading of a value as a test -/
def tTest (t : TE) : TT := fun σ H Q => t σ H fun x H' => ∃ k, x = .bl k ∧ Q k H'
theorem pt_cmpR {op : CmpOp} {r : R2} (ho : OpR X (compareOp op) r) (ha : PE X a ta) (hb : PE X b tb) (hm : behindInMarks op b = false) : PT X (.Compare a [op] [b] pos) (tTest (tOp r ta tb)) := by
  intro pins s σ H Q I h
  refine wpAny_isTrue_Compare1 (thn (ha pins s σ H _ I h) fun v s1 ⟨x, H1, I1, r1, q1⟩ => thn (hb pins s1 σ H1 _ I1 q1) fun u s2 ⟨y, H2, I2, r2, q2⟩ =>
    thn (ho pins s2 σ H2 x y v u _ I2 r1 r2 q2) fun c s3 ⟨z, H3, I3, r3, k, e, q3⟩ => ?_) hm
  subst e
  cases r3
  exact wpAny_truthy_bool ⟨H3, I3, q3⟩

/-! ### truth -/
theorem line63 : (sizeLine : Nat) < 2 ^ 63 := by rw [sizeLine_eq]; decide

/-! ### strs and bytes -/
theorem op_add_str : OpR X (binaryOp .Add) (fun x y H Q => ∃ i j, x = .str i ∧ y = .str j ∧ i.length + j.length ≤ sizeLine ∧ Q (.str (i ++ j)) H) := by
  intro pins s σ H x y v u Q I rx ry h
  obtain ⟨i, j, rfl, rfl, hz, q⟩ := h
  obtain ⟨t, rfl⟩ := rx
  obtain ⟨t', rfl⟩ := ry
  exact wpAny_with_toks (n := 1) I.tk (add_str (fun t' tk htk => ⟨.str (i ++ j), H, I.tok _ htk, ⟨_, rfl⟩, q⟩) hz)


/-! ### scalar builtins, by CallR -/
theorem vals1 {x : V} {us : List Value} (r : Vals [x] us) : ∃ u, us = [u] ∧ RelV x u := by
  cases r with
  | cons r1 r2 => cases r2; exact ⟨_, rfl, r1⟩
theorem vals2 {x y : V} {us : List Value} (r : Vals [x, y] us) : ∃ u w', us = [u, w'] ∧ RelV x u ∧ RelV y w' := by
  cases r with
  | cons r1 r2 =>
    cases r2 with
    | cons r3 r4 => cases r4; exact ⟨_, _, rfl, r1, r3⟩
theorem call_max2 (hc : X.calm = true) : CallR X (.builtin "max") (fun xs H Q => ∃ i j, xs = [.int i, .int j] ∧ Q (.int (if j > i then j else i)) H) := by
  intro pins s σ H xs us Q I r h
  obtain ⟨i, j, rfl, q⟩ := h
  obtain ⟨u, w', rfl, ⟨t, rfl⟩, ⟨t', rfl⟩⟩ := vals2 r
  refine wpAny_with_toks (n := 1) I.tk (max_two_ints (I.ok.hd hc) fun h' tk k htk => ⟨_, H, I.kept k htk, ?_, q⟩)
  by_cases hj : j > i
  · rw [if_pos hj, if_pos hj]; exact ⟨_, rfl⟩
  · rw [if_neg hj, if_neg hj]; exact ⟨_, rfl⟩
theorem call_int1 : CallR X (.type "int") (fun xs H Q => (∃ i, xs = [.int i] ∧ Q (.int i) H) ∨ ∃ k, xs = [.bl k] ∧ Q (.int (if k then 1 else 0)) H) := by
  intro pins s σ H xs us Q I r h
  rcases h with ⟨i, rfl, q⟩ | ⟨k, rfl, q⟩
  · obtain ⟨u, rfl, t, rfl⟩ := vals1 r
    exact call_int_int ⟨.int i, H, I, ⟨_, rfl⟩, q⟩
  · obtain ⟨u, rfl, r1⟩ := vals1 r
    cases r1
    exact call_int_bool ⟨.int (if k then 1 else 0), H, I.tok _, ⟨_, rfl⟩, q⟩
end
end L2

namespace L2
open PySem PySem.Spec PyProof.Rows

/-! ### an instance, its attributes a map -/
structure ObjM (h : Heap) (x dx C : Addr) (mA : Str → Option Value) : Prop where
  obj : h.get? x = some (PySem.W.instObj C dx)
  ns : h.Ns1 dx mA
  ne : dx ≠ x

theorem lookIn_ns {h : Heap} {dx : Addr} {mA : Str → Option Value} (n : h.Ns1 dx mA) : ∃ od, h.get? dx = some od ∧ ∀ name, PySem.W.lookIn name od = some (mA name) := by
  obtain ⟨o, es, ep, ho, hd, hk, _, hm⟩ := n
  refine ⟨o, ho, fun name => ?_⟩
  have e := hm name
  unfold nsFind findBy at e
  rw [← Array.find?_toList] at e
  unfold PySem.W.lookIn
  rw [hd]
  dsimp only
  split
  · rename_i y q
    rw [q] at e
    exact congrArg some e
  · rename_i q
    rw [q] at e
    have a : es.toList.any (·.refKey) = false := by
      rw [List.any_eq_false]
      intro y hy
      obtain ⟨z, t, hkey⟩ := hk y (Array.mem_toList_iff.mp hy)
      simp [DictEntry.refKey, hkey]
    have a' : ¬ es.toList.any (·.refKey) = true := by rw [a]; exact Bool.false_ne_true
    rw [if_neg a']
    exact congrArg some e

theorem ObjM.look {h : Heap} {x dx C : Addr} {mA : Str → Option Value} (I : ObjM h x dx C mA) : ∃ od, PySem.W.InstAt h x (PySem.W.instObj C dx) C (some od) ∧ ∀ name, PySem.W.lookIn name od = some (mA name) :=
  let ⟨od, ho, hl⟩ := lookIn_ns I.ns
  ⟨od, ⟨I.obj, rfl, rfl, ho⟩, hl⟩

section
variable {prog : Program} {w : World} {A : Around} {E : Value → Shared → Prop} {s : Shared} {K : PySem.W.Frag} {x dx C f : Addr} {mA : Str → Option Value} {name : Str} {v : Value}





end

/-! ### the attributes as a list of pairs -/


section
variable {P : Program} {w : World} {H H' : Hp} {h h' : Heap} {a C dx : Addr} {fs fs' : List (Str × V)}
theorem ins_get (hok : HOk P w H h) (e : H a = some (.ins C dx fs)) : ∃ mA, ObjM h a dx C mA ∧ (∀ f, RelO (fs.lookup f) (mA f)) ∧ PySem.Within mA (fs.map (·.1)) ∧ fs.length ≤ 1000 ∧ H dx = some (.own a) := by
  obtain ⟨d, z, ne, ob, mA, n, r, q⟩ := (show ObjOk P w H h a (.ins C dx fs) from hok a _ e)
  exact ⟨mA, ⟨ob, n, ne⟩, r, q, z, d⟩
end

/-! ### what of the text a class must have -/
structure Cls (K : PySem.W.Frag) (C : Addr) : Prop where
  pg : PySem.W.plainGet K C Str.empty = true
  hd : PySem.W.hasDictIn K C = true
  po : PySem.W.plainOver K C = true
  sa : PySem.W.findIn K (.ref C) "__setattr__" = some (some (.builtin "object.__setattr__"))
theorem Cls.get {K : PySem.W.Frag} {C : Addr} (c : Cls K C) (f : Str) : PySem.W.plainGet K C f = true := c.pg

section
variable {X : Cx} {pins : List (Addr × Obj)} {σ : St} {H : Hp} {s : Shared} {a C dx : Addr} {fs : List (Str × V)} {f : Str} {v : V} {A : Around} {E : Value → Shared → Prop}






end

/-! ### readings and rules -/

section
variable {X : Cx} {o e value : Expr} {f : Str} {pos pos' tpos : Pos} {ta tv : TE}

end

/-! ### isinstance -/
section
variable {X : Cx} {pins : List (Addr × Obj)} {σ : St} {H : Hp} {s : Shared} {A : Around} {E : Value → Shared → Prop} {Q : Value → Shared → Prop} {c : Value} {b : Bool}
/-- the type of a value, as the fragment's deciders take it; for an instance its class -/
inductive TyOf (K : PySem.W.Frag) (H : Hp) : V → Value → Prop where
  | non : TyOf K H .non (.type "NoneType")
  | bl (x : Bool) : TyOf K H (.bl x) (.type "bool")
  | int (i : Int) : TyOf K H (.int i) (.type "int")
  | str (x : Str) : TyOf K H (.str x) (.type "str")
  | flt (x : UInt64) : TyOf K H (.flt x) (.type "float")
  | lst {a : Addr} {xs : List V} (e : H a = some (.lst xs)) : TyOf K H (.ref a) (.type "list")
  | frz {a : Addr} {o : Obj} {xs : List V} (e : H a = some (.frz o (.lst xs))) : TyOf K H (.ref a) (.type "list")
  | tup {a : Addr} {xs : List V} (e : H a = some (.tup xs)) : TyOf K H (.ref a) (.type "tuple")
  | dK {a : Addr} {kvs : List (Key × V)} (e : H a = some (.dK kvs)) : TyOf K H (.ref a) (.type "dict")
  | dT {a : Addr} {kvs : List (List Key × V)} (e : H a = some (.dT kvs)) : TyOf K H (.ref a) (.type "dict")
  | ins {a C dx : Addr} {fs : List (Str × V)} (e : H a = some (.ins C dx fs)) (cl : Cls K C) (ha : PySem.W.findIn K (.ref C) "__class__" = some (some (.builtin "object.__class__")))
      (hn : PySem.W.specialIn K (.builtin "object.__class__") "__get__" = some (some (.builtin "getset_descriptor.__get__"))) (htk : PySem.W.takesIn K (.builtin "object.__class__") = some true)
      (hm : PySem.W.mroIn K C (.type "object") = some true) : TyOf K H (.ref a) (.ref C)
/-- isinstance(x, c) for one class c, a built-in or an own one: kitOne's answer -/
theorem isinst_ok {x : V} {u t : Value} (I : Inv X pins σ H s) (rx : RelV x u) (ty : TyOf X.K H x t) (e : PySem.W.kitOne X.K t c = some b) (h : ∀ tk, Q (.bool b) { s with toks := tk }) :
    wpAny (model X.prog X.w) A (call (.builtin "isinstance") [u, c]) Q E s := by
  cases ty with
  | non => cases (show u = Value.none from rx); exact PySem.W.kia_one PySem.W.kitx_none I.kIn True.intro e (fun z => nomatch z) h
  | bl y => cases (show u = Value.bool y from rx); exact PySem.W.kia_one PySem.W.kitx_bool I.kIn True.intro e (fun z => nomatch z) h
  | int i => obtain ⟨t, q⟩ := (show ∃ t, u = Value.int i t from rx); cases q; exact PySem.W.kia_one PySem.W.kitx_int I.kIn True.intro e (fun z => nomatch z) h
  | str y => obtain ⟨t, q⟩ := (show ∃ t, u = Value.str y t from rx); cases q; exact PySem.W.kia_one PySem.W.kitx_str I.kIn True.intro e (fun z => nomatch z) h
  | flt y => obtain ⟨t, q⟩ := (show ∃ t, u = Value.float y t from rx); cases q; exact PySem.W.kia_one PySem.W.kitx_float I.kIn True.intro e (fun z => nomatch z) h
  | @lst a xs ea =>
    cases (show u = Value.ref a from rx)
    obtain ⟨_, _, n, _, h1⟩ := (show ObjOk X.prog X.w H s.heap a (.lst xs) from I.hok a _ ea)
    exact PySem.W.kia_one PySem.W.kitx_list I.kIn ⟨_, h1, rfl⟩ e (fun z => nomatch z) h
  | @frz a ob xs ea =>
    cases (show u = Value.ref a from rx)
    obtain ⟨_, _, _, n, _, h1⟩ := (show ObjOk X.prog X.w H s.heap a (.frz ob (.lst xs)) from I.hok a _ ea)
    exact PySem.W.kia_one PySem.W.kitx_list I.kIn ⟨_, h1, rfl⟩ e (fun z => nomatch z) h
  | @tup a xs ea =>
    cases (show u = Value.ref a from rx)
    obtain ⟨_, _, _, p⟩ := (show ObjOk X.prog X.w H s.heap a (.tup xs) from I.hok a _ ea)
    obtain ⟨o, h1, h2, _⟩ := p
    exact PySem.W.kia_one PySem.W.kitx_tuple I.kIn ⟨o, h1, h2⟩ e (fun z => nomatch z) h
  | @dK a kvs ea =>
    cases (show u = Value.ref a from rx)
    obtain ⟨_, _, vs, _, p⟩ := (show ObjOk X.prog X.w H s.heap a (.dK kvs) from I.hok a _ ea)
    obtain ⟨o, es, ep, h1, h2, _⟩ := p
    exact PySem.W.kia_one PySem.W.kitx_dict I.kIn ⟨o, h1, h2.1⟩ e (fun z => nomatch z) h
  | @dT a kvs ea =>
    cases (show u = Value.ref a from rx)
    obtain ⟨_, _, xs, _, o, es, ep, h1, h2, _⟩ := (show ObjOk X.prog X.w H s.heap a (.dT kvs) from I.hok a _ ea)
    exact PySem.W.kia_one PySem.W.kitx_dict I.kIn ⟨o, h1, h2.1⟩ e (fun z => nomatch z) h
  | @ins a C dx fs ea cl ha hn htk hm =>
    cases (show u = Value.ref a from rx)
    obtain ⟨mA, O, _⟩ := ins_get I.hok ea
    obtain ⟨od, J, _⟩ := O.look
    exact PySem.W.kia_one (PySem.W.kitx_own (cl.get _) cl.hd ha hn htk hm) I.kIn J e (fun z => nomatch z) h
end
end L2

namespace L2
open PySem PySem.Spec PyProof.Rows

/-! ### room -/
structure Room (k : Nat) (A : Around) : Prop where
  hd : A.handled = none
  dp : A.depth + 3 * k + 5 < recursionLimit
  un : A.units + 16 * k + 200 < cLine
theorem Room.mono {j k : Nat} {A : Around} (r : Room k A) (h : j ≤ k) : Room j A := ⟨r.hd, by have := r.dp; omega, by have := r.un; omega⟩
theorem Room.deeper {k : Nat} {A : Around} (r : Room (k + 1) A) (env : Env) : Room k (A.deeper env) :=
  ⟨r.hd, by have := r.dp; show A.depth + 1 + 3 * k + 5 < _; omega, by have := r.un; show A.units + 3 + 16 * k + 200 < _; omega⟩
theorem Room.depth {k : Nat} {A : Around} (r : Room k A) : A.depth < recursionLimit := by have := r.dp; omega

/-! ### argument lists and displays -/
def tNil : TA := fun _ H Q => Q [] H
def tCons (ta : TE) (tr : TA) : TA := fun σ H Q => ta σ H fun x H1 => tr σ H1 fun xs H2 => Q (x :: xs) H2
section
variable {X : Cx} {e : Expr} {es : List Expr} {te : TE} {t : TA} {pos : Pos}
theorem pa_nil : PA X [] tNil := fun _ _ _ _ H Q I h => Calls.spliced_nil ⟨[], H, I, .nil, h⟩
theorem pa_cons (ha : PE X e te) (hr : PA X es t) (hs : starEach (e :: es) X.env = (false, eval e X.env) :: starEach es X.env := by rfl) : PA X (e :: es) (tCons te t) := by
  intro pos pins s σ H Q I h
  rw [hs]
  show wpAny _ _ (spliced ((false, eval e X.env) :: backTo pos (starEach es X.env))) _ _ s
  refine Calls.spliced_cons (thn (ha pins s σ H _ I h) fun u s1 ⟨x, H1, I1, r1, q1⟩ => ?_)
  exact thn (hr pos pins s1 σ H1 _ I1 q1) fun us s2 ⟨xs, H2, I2, r2, q2⟩ => ⟨x :: xs, H2, I2, .cons r1 r2, q2⟩

def tLst (t : TA) : TE := fun σ H Q => t σ H fun xs H1 => xs.length ≤ sizeLine ∧ ∀ p, H1 p = none → Q (.ref p) (upd H1 p (.lst xs))
theorem pe_lst (h : PA X es t) : PE X (.List es pos) (tLst t) := by
  intro pins s σ H Q I hq
  refine wpAny_List_spliced (thn (h pos pins s σ H _ I hq) fun us s1 ⟨xs, H1, I1, r, z, q⟩ => ⟨by rw [← r.length]; exact z, ?_⟩)
  have hf : H1 s1.heap.objs.size = none := I1.hok.fresh (Nat.le_refl _)
  refine ⟨.ref s1.heap.objs.size, upd H1 s1.heap.objs.size (.lst xs), I1.laid (t' := s1.toks) (fun b u e => Heap.get?_push_of_some _ e) (Nat.le_refl _) ?_, rfl, q _ hf⟩
  exact ⟨z, us, 0, r, Heap.get?_push_size _ rfl⟩
end

/-! ### what a def promises -/
/-- a def's promise: the bound arguments in the parameters' order, the heap, the wanted end, the wanted exception -/
abbrev Sp := List V → Hp → VK → XK → Prop
/-- how an exception lies behind a call (file 08 gives it): the callers' frames, abstract heap and state ahead of the call, the wish, the exception, the state -/
abbrev CXT := List Env → Hp → Shared → XK → Value → Shared → Prop

/-- the state at a call -/
structure Env0 (P : Program) (w : World) (K : PySem.W.Frag) (mg : Str → Option Value) (base : Heap) (A : Around) (outer : List Env) (s : Shared) (H : Hp) : Prop where
  frames : A.frames = some outer
  mod : Mod K mg base
  bs : ∀ b o, base.get? b = some o → s.heap.get? b = some o ∧ H b = none
  bsz : base.objs.size ≤ s.heap.objs.size
  funs : s.heap.FunFrames base outer
  frf : ∀ b ∈ frs outer, H b = none
  hok : HOk P w H s.heap
  bare : AllBare s.gens
  tk : 0 < s.toks
/-- a call's end -/
def CE (outer : List Env) (P : Program) (w : World) (H : Hp) (s : Shared) (Q : VK) (u : Value) (s' : Shared) : Prop :=
  ∃ v H', s'.os = s.os ∧ AllBare s'.gens ∧ Un (frs outer) [] H H' s.heap s'.heap ∧ HOk P w H' s'.heap ∧ 0 < s'.toks ∧ RelV v u ∧ Q v H'
def CR (CX : CXT) (outer : List Env) (P : Program) (w : World) (H : Hp) (s : Shared) (Q : VK) (E : XK) (r : Result) (s' : Shared) : Prop :=
  match r with
  | .ok (.ret u) => CE outer P w H s Q u s'
  | .ok _ => False
  | .error e => CX outer H s E e s'
structure FnOk (P : Program) (w : World) (K : PySem.W.Frag) (mg : Str → Option Value) (base : Heap) (CX : CXT) (k : Nat) (f : Addr) (fd : FuncData) (ps : List Str) (sp : Sp) : Prop where
  len : ∀ vs H Q E, sp vs H Q E → vs.length = ps.length
  run : ∀ (A : Around) (outer : List Env) (s : Shared) (H : Hp) (args : Args) (us : List Value) (vs : List V) (Q : VK) (E : XK), Room k A → Env0 P w K mg base A outer s H → BindsTo s fd args (ps.zip us) → Vals vs us → sp vs H Q E →
    codeAny (model P w) A (.call (.ref f) args) (CR CX outer P w H s Q E) s
theorem FnOk.mono {P : Program} {w : World} {K : PySem.W.Frag} {mg : Str → Option Value} {base : Heap} {CX : CXT} {j k : Nat} {f : Addr} {fd : FuncData} {ps : List Str} {sp : Sp} (F : FnOk P w K mg base CX j f fd ps sp) (h : j ≤ k) :
    FnOk P w K mg base CX k f fd ps sp := ⟨F.len, fun A outer s H args us vs Q E hr => F.run A outer s H args us vs Q E (hr.mono h)⟩


section
variable {X : Cx} {pins : List (Addr × Obj)} {σ : St} {H : Hp} {s s' : Shared}
/-- from a body: what a callee wants -/
theorem Inv.env0 (I : Inv X pins σ H s) : Env0 X.prog X.w X.K X.mg X.base X.A X.stack s H :=
  ⟨I.ok.frames, I.ok.mod, I.bs, Nat.le_trans I.ok.bsz I.sz, I.stack, I.stkFree, I.hok, I.bare, I.tk⟩
/-- behind a call -/
theorem Inv.after {Q : VK} {u : Value} (I : Inv X pins σ H s) (h : CE X.stack X.prog X.w H s Q u s') : EP X pins σ Q u s' := by
  obtain ⟨v, H', os, bare, un, hok, tk', r, q⟩ := h
  obtain ⟨hh, g, d, t, os'⟩ := s'
  obtain rfl : os' = s.os := os
  exact ⟨v, H', I.call (h' := hh) (g' := g) (d' := d) (t' := t) (ch := []) un hok bare (fun b z => absurd z (by simp)) tk', r, q⟩
end

/-! ### calls -/
/-- f(..): the written arguments, then the defaults dvs; E: what is wanted of an exception -/
def tCall (sp : Sp) (dvs : List V) (E : XK) (t : TA) : TE := fun σ H Q => t σ H fun vs H1 => sp (vs ++ dvs) H1 Q E

/-- how the parameters are bound: us the positional arguments, kw the keywords' values by name, ds the defaults that fill up -/
def Binds (K : PySem.W.Frag) (fd : FuncData) (ps : List Str) (ds : List Value) : Prop :=
  ∀ (s : Shared) (us : List Value), K.In s.heap → (us ++ ds).length = ps.length → BindsTo s fd ⟨us, []⟩ (ps.zip (us ++ ds))
/-- every parameter is given -/
theorem Binds.all {K : PySem.W.Frag} {fd : FuncData} {ps : List Str} (h : ∀ us : List Value, us.length = ps.length → bindArgs fd ⟨us, []⟩ = pure (ps.zip us)) : Binds K fd ps [] := fun s us _ hl => by
  rw [List.append_nil] at hl ⊢
  exact .of_eq (h us hl)

/-- an exception of a callee reaches what this body wants of exceptions -/
def Passes (CX : CXT) (X : Cx) (E : XK) : Prop := ∀ (pins : List (Addr × Obj)) (σ : St) (H : Hp) (s : Shared) (e : Value) (s' : Shared), Inv X pins σ H s → CX X.stack H s E e s' → X.xe e s'

section
variable {X : Cx} {CX : CXT} {k : Nat} {f C : Addr} {fd : FuncData} {ps : List Str} {sp : Sp} {dvs : List V} {ds : List Value} {E : XK} {x m : Str} {p pos apos : Pos} {e o : Expr} {es : List Expr} {ta : TE} {t : TA}

/-- the callee runs -/
theorem run_fn {pins : List (Addr × Obj)} {σ : St} {H : Hp} {s : Shared} {Q : VK} {us : List Value} {vs : List V} (F : FnOk X.prog X.w X.K X.mg X.base CX k f fd ps sp) (hr : Room k X.A) (hb : Binds X.K fd ps ds) (hd : Vals dvs ds) (hx : Passes CX X E)
    (I : Inv X pins σ H s) (r : Vals vs us) (h : sp (vs ++ dvs) H Q E) : wpAny (model X.prog X.w) X.A (call (.ref f) us) (EP X pins σ Q) X.xe s := by
  have r2 : Vals (vs ++ dvs) (us ++ ds) := r.append hd
  have hl : (us ++ ds).length = ps.length := by rw [← r2.length]; exact F.len _ _ _ _ h
  refine wpAny_call (codeAny_mono (F.run X.A X.stack s H ⟨us, []⟩ (us ++ ds) (vs ++ dvs) Q E hr I.env0 (hb s us I.kIn hl) r2 h) fun r s' hq => ?_)
  cases r with
  | error e => exact hx pins σ H s e s' I hq
  | ok fl =>
    cases fl with
    | ret u => exact I.after hq
    | next => exact False.elim hq
    | brk => exact False.elim hq
    | cont => exact False.elim hq

theorem pe_call (F : FnOk X.prog X.w X.K X.mg X.base CX k f fd ps sp) (hr : Room k X.A) (hg : Gl X x) (hm : X.mg x = some (.ref f)) (hk : PySem.W.keepIn X.K (.ref f) = true) (hb : Binds X.K fd ps ds) (hd : Vals dvs ds) (hx : Passes CX X E)
    (ha : PA X (e :: es) t) (hdb : (x == ("__debug__" : Str)) = false := by decide) (he : starEach (e :: es) X.env = (false, eval e X.env) :: starEach es X.env := by rfl) (hpl : (backTo pos (starEach es X.env)).any (·.1) = false := by rfl) :
    PE X (.Call (.Name x p) (e :: es) [] pos) (tCall sp dvs E t) := by
  intro pins s σ H Q I h
  refine wpAny_Call_Name_kw (ld_glob I hg hm ?_ hdb)
  refine PySem.W.callWith_K (h₀ := X.base) I.ok.mod.kin hk (thn (ha pos pins s σ H _ I h) fun us s1 ⟨vs, H1, I1, r, q⟩ => ⟨I1.kIn, ?_⟩) he hpl
  exact run_fn F hr hb hd hx I1 r q



end

/-! ### keywords -/
section
variable {X : Cx} {CX : CXT} {k : Nat} {f C : Addr} {fd : FuncData} {ps ks : List Str} {sp : Sp} {E : XK} {x m : Str} {p pos apos kpos : Pos} {e o : Expr} {es : List Expr} {kws : List Keyword} {te ta : TE} {t tk : TA} {nm : Option Str}

variable {g : List Value → List Value → List Value} {gV : List V → List V → List V}
end

/-! ### a def's body keeps its promise -/
/-- names: the parameters first -/
structure FnScope (N P : List Str) (sc : Scope) : Prop where
  kind : sc.kind = .function
  co : sc.isCoroutine = false
  gen : sc.isGenerator = false
  nd : N.Nodup
  pre : N.take P.length = P
  par : ∀ x ∈ P, sc.names.lookup x = some .local ∨ sc.names.lookup x = some .cell
  nofree : ∀ y ∈ sc.names, y.2 ≠ .free

theorem bindL_out {kindOf : Str → Option NameKind} {x : Str} : ∀ {binds : List (Str × Value)} {m : Str → Option Value}, (∀ v, (x, v) ∉ binds) → bindL kindOf binds m x = m x
  | [], _, _ => rfl
  | (n, v) :: r, m, h => by
    unfold bindL
    rw [bindL_out fun w hw => h w (List.mem_cons_of_mem _ hw)]
    split
    · have : x ≠ n := by rintro rfl; exact h v List.mem_cons_self
      simp [this]
    · rfl
theorem bindC_out {kindOf : Str → Option NameKind} {x : Str} : ∀ {binds : List (Str × Value)} {m : Str → Option Value}, (∀ v, (x, v) ∉ binds) → bindC kindOf binds m x = m x
  | [], _, _ => rfl
  | (n, v) :: r, m, h => by
    unfold bindC
    rw [bindC_out fun w hw => h w (List.mem_cons_of_mem _ hw)]
    split
    · rfl
    · have : x ≠ n := by rintro rfl; exact h v List.mem_cons_self
      simp [this]
theorem bindL_get {kindOf : Str → Option NameKind} {x : Str} {v : Value} : ∀ {P : List Str} {vs : List Value} {i : Nat} {m : Str → Option Value}, P.Nodup → P[i]? = some x → vs[i]? = some v → kindOf x = some .local →
    bindL kindOf (P.zip vs) m x = some v
  | [], _, _, _, _, h, _, _ => by simp at h
  | _ :: _, [], _, _, _, _, h, _ => by simp at h
  | p :: P, w :: vs, 0, m, nd, h1, h2, hk => by
    simp at h1 h2; subst h1; subst h2
    show bindL kindOf ((p, w) :: P.zip vs) m p = _
    unfold bindL
    rw [bindL_out fun v hv => (List.nodup_cons.mp nd).1 (List.of_mem_zip hv).1, if_pos hk]
    simp
  | p :: P, w :: vs, i + 1, m, nd, h1, h2, hk => by
    show bindL kindOf ((p, w) :: P.zip vs) m x = _
    unfold bindL
    exact bindL_get (i := i) (List.nodup_cons.mp nd).2 (by simpa using h1) (by simpa using h2) hk
theorem bindC_get {kindOf : Str → Option NameKind} {x : Str} {v : Value} : ∀ {P : List Str} {vs : List Value} {i : Nat} {m : Str → Option Value}, P.Nodup → P[i]? = some x → vs[i]? = some v → kindOf x ≠ some .local →
    bindC kindOf (P.zip vs) m x = some v
  | [], _, _, _, _, h, _, _ => by simp at h
  | _ :: _, [], _, _, _, _, h, _ => by simp at h
  | p :: P, w :: vs, 0, m, nd, h1, h2, hk => by
    simp at h1 h2; subst h1; subst h2
    show bindC kindOf ((p, w) :: P.zip vs) m p = _
    unfold bindC
    rw [bindC_out fun v hv => (List.nodup_cons.mp nd).1 (List.of_mem_zip hv).1, if_neg hk]
    simp
  | p :: P, w :: vs, i + 1, m, nd, h1, h2, hk => by
    show bindC kindOf ((p, w) :: P.zip vs) m x = _
    unfold bindC
    exact bindC_get (i := i) (List.nodup_cons.mp nd).2 (by simpa using h1) (by simpa using h2) hk

/-- the names' values at the entry -/
def start (N : List Str) (vs : List V) : St := vs.map some ++ List.replicate (N.length - vs.length) none

/-- the context of a def's body, at its entry; an exception leaves the frame, then lies as CX says -/
def cxOf (CX : CXT) (P : Program) (w : World) (K : PySem.W.Frag) (mg : Str → Option Value) (base : Heap) (N : List Str) (qual : Str) (scope : Scope) (f : Addr) (cd : Value) (A : Around) (outer : List Env) (s : Shared) (H : Hp) (E : XK) : Cx where
  prog := P
  w := w
  K := K
  mg := mg
  base := base
  A := A.deeper (envOfC qual scope s.heap.objs.size f cd)
  N := N
  s₀ := s
  H₀ := H
  env := envOfC qual scope s.heap.objs.size f cd
  outer := outer
  stack := envOfC qual scope s.heap.objs.size f cd :: outer
  ex := []
  calm := true
  fn := fun _ => true
  pn := []
  xe := fun e s' => wpAny (model P w) (A.deeper (envOfC qual scope s.heap.objs.size f cd)) (leaving (envOfC qual scope s.heap.objs.size f cd) e) (fun _ s'' => CX outer H s E e s'') (fun e' s'' => CX outer H s E e' s'') s'

theorem cell_has {sc : Scope} {n : Nat} {x : Str} (h : sc.names.lookup x = some .cell) : ∃ c, (cellsFrom n sc.names []).lookup x = some c := by
  have q := PySem.W.cellsFrom_some sc.names n [] (.inl h)
  exact Option.isSome_iff_exists.mp q

theorem inv_start {CX : CXT} {P : Program} {w : World} {K : PySem.W.Frag} {mg : Str → Option Value} {base : Heap} {N ps : List Str} {qual : Str} {scope : Scope} {f : Addr} {cd : Value} {A : Around} {outer : List Env} {s s1 : Shared} {H : Hp} {E : XK} {us : List Value} {vs : List V}
    (S : FnScope N ps scope) (hd : A.handled = none) (e0 : Env0 P w K mg base A outer s H) (hl : vs.length = ps.length) (r : Vals vs us) (htk : 0 < s1.toks)
    (x : InCallC s s.heap.objs.size (bindL (envOfC qual scope s.heap.objs.size f cd).kindOf (ps.zip us) fun _ => none) (cellsFrom (s.heap.objs.size + 1) scope.names []) (bindC (envOfC qual scope s.heap.objs.size f cd).kindOf (ps.zip us) fun _ => none) s1) :
    Inv (cxOf CX P w K mg base N qual scope f cd A outer s H E) [] (start N vs) H s1 := by
  have hpl : ps.length ≤ N.length := by have := congrArg List.length S.pre; rw [List.length_take] at this; omega
  obtain ⟨h1, tk, rfl, hk⟩ := x.done
  have noA : ∀ b : Addr, b ∉ (cxOf CX P w K mg base N qual scope f cd A outer s H E).ex := fun b z => absurd (show b ∈ ([] : List Addr) from z) (by simp)
  refine ⟨⟨e0.mod, S.kind, rfl, rfl, Nat.le_refl _, fun y z c h1 h2 => ?_, fun y hy => ?_, fun y c _ h => ?_, fun _ => hd, Around.frames_deeper e0.frames, .inr ⟨rfl, rfl⟩, fun b z => absurd z (noA b), e0.bs, e0.bsz, fun b _ _ => noA b, fun b z => absurd z (noA b), e0.funs, e0.frf⟩,
    rfl, e0.bare, Un.kept hk, ⟨_, x.toInCall.ns, fun i y v h1 h2 h3 => ?_⟩, fun y c h => ⟨_, x.cell y c h⟩, e0.hok.fresh (Nat.le_refl _), fun y c h => ?_, fun p hp => absurd (show p ∈ ([] : List (Addr × Obj)) from hp) (by simp), e0.hok.kept hk, ?_, htk⟩
  · exact name_of_addr x.apart (PySem.mem_of_lookup h1) (PySem.mem_of_lookup h2)
  · have hy : scope.names.lookup y = some .cell ∨ scope.names.lookup y = some .free := hy
    rcases hy with hy | hy
    · exact cell_has hy
    · exact absurd rfl (S.nofree _ (PySem.mem_of_lookup hy))
  · exact Nat.le_of_lt (x.above y c (PySem.mem_of_lookup h))
  · have hi : i < vs.length := by
      unfold start at h2
      by_cases hi : i < vs.length
      · exact hi
      · rw [List.getElem?_append_right (by simpa using hi)] at h2
        rw [List.getElem?_replicate] at h2
        split at h2 <;> cases h2
    have ha : vs[i]? = some v := by
      unfold start at h2
      rw [List.getElem?_append_left (by simpa using hi), List.getElem?_map] at h2
      cases e : vs[i]? with
      | none => rw [e] at h2; cases h2
      | some a => rw [e] at h2; cases h2; rfl
    obtain ⟨u, hu, rv⟩ := r.get ha
    have hp : ps[i]? = some y := by
      rw [← S.pre, List.getElem?_take_of_lt (by omega)]; exact h1
    have ndP : ps.Nodup := by rw [← S.pre]; exact S.nd.sublist (List.take_sublist _ _)
    refine ⟨u, rv, ?_⟩
    rcases S.par y (List.mem_of_getElem? hp) with k | k
    · exact .inl ⟨k, bindL_get ndP hp hu k⟩
    · obtain ⟨c, e⟩ := cell_has (n := s.heap.objs.size + 1) k
      refine .inr ⟨.inl k, c, e, ?_⟩
      have q := x.cell y c e
      rw [bindC_get ndP hp hu (by show scope.names.lookup y ≠ _; rw [k]; decide)] at q
      exact q
  · exact e0.hok.fresh (Nat.le_of_lt (x.above y c (PySem.mem_of_lookup h)))
  · unfold start
    show _ = N.length
    rw [List.length_append, List.length_map, List.length_replicate]
    omega

/-- THE RULE: a def (or a method) of the text, by its body. The body's reading t is chosen for each entry; it is run at the parameters' values -/
theorem fn_of {CX : CXT} {P : Program} {w : World} {K : PySem.W.Frag} {mg : Str → Option Value} {base : Heap} {k : Nat} {f : Addr} {name qual : Str} {params : Arguments} {body : List Stmt} {scope : Scope} {dV kV doc pm cdv ct oc : Value} {an od : Option Addr}
    {osl : Array (Option Value)} {N ps : List Str} {sp : Sp} (lk : K.lookup f = some ⟨oc, od, .func (PySem.W.fnOf name qual params body scope dV kV doc pm an cdv ct), osl⟩) (hcd : PySem.W.codeIn K cdv qual = true) (S : FnScope N ps scope)
    (len : ∀ vs H Q E, sp vs H Q E → vs.length = ps.length)
    (hbody : ∀ (A : Around) (outer : List Env) (s : Shared) (H : Hp) (vs : List V) (Q : VK) (E : XK), Room k (A.deeper (envOfC qual scope s.heap.objs.size f cdv)) → sp vs H Q E →
      ∃ t, PSs (cxOf CX P w K mg base N qual scope f cdv A outer s H E) body t ∧ t { nx := fun _ H' => Q .non H', rt := Q } (start N vs) H) :
    FnOk P w K mg base CX (k + 1) f (PySem.W.fnOf name qual params body scope dV kV doc pm an cdv ct) ps sp := by
  refine ⟨len, fun A outer s H args us vs Q E hr e0 hb r hsp => ?_⟩
  have hl := len _ _ _ _ hsp
  have KX : K.In s.heap := e0.mod.kin.keeps fun b o e => (e0.bs b o e).1
  have lim : s.heap.NoLimit := e0.mod.nolimit.keeps fun b o e => (e0.bs b o e).1
  have hkind : ∀ y ∈ ps.zip us, scope.names.lookup y.1 = some .local ∨ (scope.names.lookup y.1 = some .cell ∧ ((cellsFrom (s.heap.objs.size + 1) scope.names []).lookup y.1).isSome = true) := fun ⟨n, v⟩ hy => by
    rcases S.par n (List.of_mem_zip hy).1 with q | q
    · exact .inl q
    · exact .inr ⟨q, PySem.W.cellsFrom_some _ _ _ (.inl q)⟩
  refine codeAny_call_function hr.depth (KX _ _ lk) rfl S.co S.gen rfl (PySem.W.codeRec_of KX hcd) (hb _ _ _ _ ?_)
  refine wpAny_with_toks (n := 1) e0.tk (wpAny_newFunctionEnv_cells S.kind hkind fun env he s1 x htk => ?_)
  subst he
  refine ⟨lim.keeps x.toInCall.keep, codeAny_func ?_⟩
  obtain ⟨t, ht, hq⟩ := hbody A outer s H vs Q E (hr.deeper _) hsp
  have I : Inv (cxOf CX P w K mg base N qual scope f cdv A outer s H E) [] (start N vs) H s1 := inv_start S hr.hd e0 hl r htk x
  refine wpAny_mono (ht [] s1 (start N vs) H _ I hq) (fun fl s' hs => ?_) fun e s' hs => hs
  have fin : ∀ {σ' : St} {H' : Hp} {v : V} {u : Value}, Inv (cxOf CX P w K mg base N qual scope f cdv A outer s H E) [] σ' H' s' → RelV v u → Q v H' → CE outer P w H s Q u s' :=
    fun {σ' H' v u} J rv q => ⟨v, H', J.os, J.bare, J.base, J.hok, J.tk, rv, q⟩
  cases fl with
  | ret u =>
    obtain ⟨v, σ', H', J, rv, q⟩ := hs
    exact fin J rv q
  | next =>
    obtain ⟨σ', H', J, q⟩ := hs
    exact fin (v := V.non) (u := Value.none) J rfl q
  | brk =>
    obtain ⟨_, _, _, q⟩ := hs
    exact False.elim q
  | cont =>
    obtain ⟨_, _, _, q⟩ := hs
    exact False.elim q
end L2

namespace L2
open PySem PySem.Spec PyProof.Rows
section
variable {X : Cx} {x : Str} {p pos : Pos} {e : Expr} {es : List Expr} {t : TA} {id T : String} {r : List V → Hp → VK → Prop}

def tCB (r : List V → Hp → VK → Prop) (t : TA) : TE := fun σ H Q => t σ H fun vs H1 => r vs H1 Q
/-- f(e, ..), f a built-in function -/
theorem pe_callB (hc : CallR X (.builtin id) r) (hg : Gl X x) (hm : X.mg x = none) (hv : bootBuiltins x = some (.builtin id)) (ha : PA X (e :: es) t) (hn : x ≠ "__name__" := by decide) (hdb : (x == ("__debug__" : Str)) = false := by decide)
    (he : starEach (e :: es) X.env = (false, eval e X.env) :: starEach es X.env := by rfl) (hpl : (backTo pos (starEach es X.env)).any (·.1) = false := by rfl) : PE X (.Call (.Name x p) (e :: es) [] pos) (tCB r t) := by
  intro pins s σ H Q I h
  refine wpAny_Call_Name_kw (ld_blt I hg hm hv ?_ hn hdb)
  exact PyProof.Rows.callWith_builtin1 (thn (ha pos pins s σ H _ I h) fun us s1 ⟨vs, H1, I1, r1, q1⟩ => hc pins s1 σ H1 vs us Q I1 r1 q1) he hpl
/-- T(e, ..), T a built-in type -/
theorem pe_callTy (hc : CallR X (.type T) r) (hg : Gl X x) (hm : X.mg x = none) (hv : bootBuiltins x = some (.type T)) (ha : PA X (e :: es) t) (hn : x ≠ "__name__" := by decide) (hdb : (x == ("__debug__" : Str)) = false := by decide)
    (he : starEach (e :: es) X.env = (false, eval e X.env) :: starEach es X.env := by rfl) (hpl : (backTo pos (starEach es X.env)).any (·.1) = false := by rfl) : PE X (.Call (.Name x p) (e :: es) [] pos) (tCB r t) := by
  intro pins s σ H Q I h
  refine wpAny_Call_Name_kw (ld_blt I hg hm hv ?_ hn hdb)
  exact PyProof.Rows.callWith_type1 (thn (ha pos pins s σ H _ I h) fun us s1 ⟨vs, H1, I1, r1, q1⟩ => hc pins s1 σ H1 vs us Q I1 r1 q1) he hpl
end
end L2

namespace HT
open PySem PyProof.Rows



section
open PySem.SeqAt
open PySem.AutoSeq1 (wpAny_loadPart')
open PySem.MeetsSeq PySem.MeetsSeq2 PySem.MeetsSeq3

end

section
variable {prog : Program} {w : World} {A : Around} {E : Value → Shared → Prop} {s : Shared}



/-! ### t[a:b], not the whole -/
/-- a slice's bound as a place among n (d where it is left out) -/
def sIx (n d : Nat) : Option Int → Nat
  | none => d
  | some v => if v < 0 then (v + (n : Int)).toNat else min v.toNat n

end
end HT

namespace L2
open PySem PySem.Spec PyProof.Rows

/-! ### the parts of a slice -/
abbrev TO := St → Hp → (Option Int → Hp → Prop) → Prop
/-- a slice's part (left out, or an int) -/
def PO (X : Cx) (e : Option Expr) (t : TO) : Prop :=
  ∀ (pins : List (Addr × Obj)) (s : Shared) (σ : St) (H : Hp) (Q : Option Int → Hp → Prop), Inv X pins σ H s → t σ H Q →
    wpAny (model X.prog X.w) X.A (evalPart e X.env) (fun u s' => ∃ o H', Inv X pins σ H' s' ∧ IsPart u o ∧ Q o H') X.xe s
def tNoPart : TO := fun _ H Q => Q none H
def tPart (t : TE) : TO := fun σ H Q => t σ H fun x H1 => ∃ i, x = .int i ∧ Q (some i) H1


section
variable {X : Cx} {e : Expr} {te : TE} {lo hi : Option Expr} {tl th : TO} {pos p2 : Pos}

theorem po_none : PO X none tNoPart := by
  intro pins s σ H Q I h
  rw [evalPart_none]
  exact wpAny_pure ⟨none, H, I, .none, h⟩
theorem po_some (h : PE X e te) : PO X (some e) (tPart te) := by
  intro pins s σ H Q I hw
  rw [evalPart_some]
  refine thn (h pins s σ H _ I hw) fun u s1 ⟨x, H1, I1, r1, q1⟩ => ?_
  obtain ⟨i, rfl, q⟩ := q1
  obtain ⟨t, rfl⟩ := r1
  exact ⟨some i, H1, I1, .int i t, q⟩

/-- what a slice of a value is, by values: the slice object stands at sl -/
def SlR (X : Cx) (r : V → Option Int → Option Int → Hp → VK → Prop) : Prop :=
  ∀ (pins : List (Addr × Obj)) (s : Shared) (σ : St) (H : Hp) (x : V) (v vl vu : Value) (lo hi : Option Int) (sl : Addr) (Q : VK), Inv X pins σ H s → RelV x v → s.heap.IsSliceOf sl vl vu .none → IsPart vl lo → IsPart vu hi → r x lo hi H Q →
    ∃ T id, typeLookup (.type T) "__getitem__" = pure (some (.builtin id)) ∧ s.TypeIs v T ∧ wpAny (model X.prog X.w) X.A (getItem v (.ref sl)) (EP X pins σ Q) X.xe s
def tSl (r : V → Option Int → Option Int → Hp → VK → Prop) (te : TE) (tl th : TO) : TE := fun σ H Q => te σ H fun x H1 => tl σ H1 fun l H2 => th σ H2 fun u H3 => r x l u H3 Q
/-- a[lo:hi], any a -/
theorem pe_slice {r : V → Option Int → Option Int → Hp → VK → Prop} (hr : SlR X r) (he : PE X e te) (hl : PO X lo tl) (hu : PO X hi th) : PE X (.Subscript e (.Slice lo hi none p2) pos) (tSl r te tl th) := by
  intro pins s σ H Q I h
  refine Subscript_ (thn (he pins s σ H _ I h) fun v s1 ⟨x, H1, I1, r1, q1⟩ => ?_)
  refine wpAny_Slice (thn (hl pins s1 σ H1 _ I1 q1) fun vl s2 ⟨l, H2, I2, pl, q2⟩ => thn (hu pins s2 σ H2 _ I2 q2) fun vu s3 ⟨u, H3, I3, pu, q3⟩ => ?_)
  rw [evalPart_none]
  refine wpAny_pure ?_
  have I4 : Inv X pins σ H3 { s3 with heap := s3.heap.push { cls := .type "slice", data := .fields #[vl, vu, .none] } } := I3.kept (t' := s3.toks) fun b ob q => Heap.get?_push_of_some _ q
  obtain ⟨T, id, hT, ht, hg⟩ := hr pins { s3 with heap := s3.heap.push { cls := .type "slice", data := .fields #[vl, vu, .none] } } σ H3 x v vl vu l u s3.heap.objs.size Q I4 r1 (Heap.IsSliceOf.new ..) pl pu q3
  show wpAny (model X.prog X.w) X.A (subscriptTail e (.Slice lo hi none p2) v (.ref s3.heap.objs.size)) (EP X pins σ Q) X.xe { s3 with heap := s3.heap.push { cls := .type "slice", data := .fields #[vl, vu, .none] } }
  exact tail_any (ops := [.ref s3.heap.objs.size, v]) ht hT hg (by with_unfolding_all rfl)

/-- the items of xs[lo:hi] -/
def cutV (xs : List V) (lo hi : Option Int) : List V := (xs.drop (HT.sIx xs.length 0 lo)).take (HT.sIx xs.length xs.length hi - HT.sIx xs.length 0 lo)
theorem cutV_length (xs : List V) (lo hi : Option Int) : (cutV xs lo hi).length ≤ xs.length := by
  unfold cutV
  rw [List.length_take, List.length_drop]
  omega

/-! ### t < u, t + u -/
end
end L2

namespace L2
open PySem PySem.Spec PyProof.Rows

/-! ### places -/
/-- the place that an index of any sign means -/
def ixN (n : Nat) (i : Int) : Option Nat := if 0 ≤ i then (if i < n then some i.toNat else none) else if -(n : Int) ≤ i then some (i + n).toNat else none
def atI {α : Type} (xs : List α) (i : Int) : Option α := (ixN xs.length i).bind fun j => xs[j]?
theorem ixN_seq {n : Nat} {i : Int} {j : Nat} (h : ixN n i = some j) : seqIndex? i n = some j ∧ j < n ∧ -(n : Int) ≤ i ∧ i < n := by
  unfold ixN at h
  by_cases h0 : 0 ≤ i
  · rw [if_pos h0] at h
    by_cases h1 : i < n
    · rw [if_pos h1] at h
      have e : i.toNat = j := Option.some.inj h
      exact ⟨by rw [seqIndex_of h0 h1, e], by omega, by omega, h1⟩
    · rw [if_neg h1] at h; cases h
  · rw [if_neg h0] at h
    by_cases h1 : -(n : Int) ≤ i
    · rw [if_pos h1] at h
      have e : (i + n).toNat = j := Option.some.inj h
      exact ⟨by rw [seqIndex_neg (by omega) h1, e], by omega, h1, by omega⟩
    · rw [if_neg h1] at h; cases h
theorem atI_get {α : Type} {xs : List α} {i : Int} {v : α} (h : atI xs i = some v) : ∃ j, seqIndex? i xs.length = some j ∧ xs[j]? = some v ∧ j < xs.length ∧ -(xs.length : Int) ≤ i ∧ i < xs.length := by
  unfold atI at h
  cases e : ixN xs.length i with
  | none => rw [e] at h; cases h
  | some j =>
    rw [e] at h
    obtain ⟨h1, h2, h3, h4⟩ := ixN_seq e
    exact ⟨j, h1, h, h2, h3, h4⟩
theorem atI_nat {α : Type} {xs : List α} {j : Nat} {v : α} (h : xs[j]? = some v) : atI xs (j : Int) = some v := by
  have hj : j < xs.length := (List.getElem?_eq_some_iff.mp h).1
  have e : ixN xs.length (j : Int) = some j := by
    unfold ixN
    rw [if_pos (by omega), if_pos (by omega)]; simp
  unfold atI; rw [e]; exact h
theorem atI_last {α : Type} (xs : List α) (v : α) : atI (xs ++ [v]) (-1) = some v := by
  have hl : (xs ++ [v]).length = xs.length + 1 := by simp
  have e : ixN (xs ++ [v]).length (-1) = some xs.length := by
    unfold ixN
    rw [hl, if_neg (by decide), if_pos (by omega)]
    congr 1
    omega
  unfold atI
  rw [e]
  show (xs ++ [v])[xs.length]? = some v
  simp

/-! ### what may be subscripted -/
/-- what stands as an index of a plain subscript -/
def PlainIx (b : Expr) : Prop := ∀ o i, subscripted b false o i = operate [o, i] (getItem o i)
/-- a subscript by values -/
def IxR (X : Cx) (r : R2) : Prop :=
  ∀ (value slice : Expr) (pins : List (Addr × Obj)) (s : Shared) (σ : St) (H : Hp) (x y : V) (v u : Value) (Q : VK), Inv X pins σ H s → RelV x v → RelV y u → r x y H Q →
    subscripted slice false v u = operate [v, u] (getItem v u) → wpAny (model X.prog X.w) X.A (subscriptTail value slice v u) (EP X pins σ Q) X.xe s
/-- a call of a builtin's method by values: the receiver, the arguments -/
def MtR (X : Cx) (id : String) (r : V → List V → Hp → VK → Prop) : Prop :=
  ∀ (pins : List (Addr × Obj)) (s : Shared) (σ : St) (H : Hp) (x : V) (xs : List V) (v : Value) (us : List Value) (Q : VK), Inv X pins σ H s → RelV x v → Vals xs us → r x xs H Q →
    wpAny (model X.prog X.w) X.A (call (.builtin id) (v :: us)) (EP X pins σ Q) X.xe s
section
variable {X : Cx} {a b : Expr} {ta tb : TE} {pos : Pos}
/-- a[b] -/
theorem pe_ix {r : R2} (hr : IxR X r) (ha : PE X a ta) (hb : PE X b tb) (hs : PlainIx b) : PE X (.Subscript a b pos) (tOp r ta tb) := by
  intro pins s σ H Q I h
  exact Subscript_ (binT ha hb I h fun v u s2 x y H2 I2 rx ry q => hr a b pins s2 σ H2 x y v u Q I2 rx ry q (hs _ _))

def rIxL (K : PySem.W.Frag) : R2 := fun x y H Q => ∃ p xs i v, x = .ref p ∧ y = .int i ∧ SqL K H p xs ∧ atI xs i = some v ∧ Q v H
def rIxS : R2 := fun x y H Q => ∃ z i c, x = .str z ∧ y = .int i ∧ z.length ≤ sizeLine ∧ atI z.cps.toList i = some c ∧ Q (.str ⟨#[c]⟩) H
theorem ix_list : IxR X (rIxL X.K) := by
  intro value slice pins s σ H x y v u Q I rx ry h hs
  obtain ⟨p, xs, i, z, rfl, rfl, hq, he, q⟩ := h
  cases rx
  obtain ⟨t, rfl⟩ := ry
  obtain ⟨its, r, pl, hz⟩ := I.list hq
  obtain ⟨j, h1, h2, h3, h4, h5⟩ := atI_get he
  obtain ⟨w, ew, rw'⟩ := r.get h2
  have hl := r.length
  have hn := line63
  have fin : EP X pins σ Q w s := ⟨z, H, I, rw', q⟩
  by_cases h0 : 0 ≤ i
  · have hj : i.toNat = j := by
      rw [seqIndex_of h0 h5] at h1
      exact Option.some.inj h1
    exact item_listR pl.isList h0 (by omega) (by rw [hj]; simpa using ew) fin hs
  · have hj : (i + (its.toArray.size : Int)).toNat = j := by
      rw [seqIndex_neg (by omega) h4] at h1
      rw [List.size_toArray, ← hl]
      exact Option.some.inj h1
    exact subscriptTail_builtinR (x := w) pl.isList.typeIs slot_list_getitem.lookup
      (wpAny_getItem_list_neg (Q := fun r s' => r = w ∧ EP X pins σ Q r s') pl.isList (by omega) (by rw [List.size_toArray] <;> omega) (by omega) (by rw [hj]; simpa using ew) ⟨rfl, fin⟩) hs
theorem ix_str : IxR X rIxS := by
  intro value slice pins s σ H x y v u Q I rx ry h hs
  obtain ⟨z, i, c, rfl, rfl, hz, he, q⟩ := h
  obtain ⟨t, rfl⟩ := rx
  obtain ⟨t', rfl⟩ := ry
  obtain ⟨j, h1, h2, h3, h4, h5⟩ := atI_get he
  have hl : z.cps.toList.length = z.length := by simp [Str.length]
  rw [hl] at h1 h4 h5
  have hn := line63
  exact tail_any (typeIs_str s z t) slot_str_getitem.lookup (getItem_str (c := c) (by
    have e1 : decide (i < -(2 ^ 63 : Int)) = false := decide_eq_false (by omega)
    have e2 : decide (i ≥ 2 ^ 63) = false := decide_eq_false (by omega)
    rw [e1, e2, Bool.or_false]) (by rw [h1]; simpa using h2) ⟨.str ⟨#[c]⟩, H, I.tok _, ⟨_, rfl⟩, q⟩) hs

/-! ### xs[i] = v, any sign -/
/-- the list's object behind a store -/
theorem mapSeq_set (its : List Value) (n j : Nat) (u : Value) : Obj.mapSeq (·.setIfInBounds j u) { cls := .type "list", data := .seq its.toArray n } = { cls := .type "list", data := .seq (its.set j u).toArray n } := by
  simp [Obj.mapSeq]
theorem Inv.lst {pins : List (Addr × Obj)} {σ : St} {H : Hp} {s : Shared} {p : Addr} {xs : List V} (I : Inv X pins σ H s) (h : H p = some (.lst xs)) :
    ∃ (its : List Value) (n : Nat), Vals xs its ∧ s.heap.get? p = some { cls := .type "list", data := .seq its.toArray n } ∧ xs.length ≤ sizeLine := by
  obtain ⟨z, its, n, r, e⟩ := I.hok p _ h
  exact ⟨its, n, r, e, z⟩
/-- the list at p is written by an update of its object -/
theorem Inv.lstUpd {pins : List (Addr × Obj)} {σ : St} {H : Hp} {s : Shared} {p : Addr} {xs ys : List V} {its its' : List Value} {n n' : Nat} {f : Obj → Obj} (I : Inv X pins σ H s) (h : H p = some (.lst xs))
    (ho : s.heap.get? p = some { cls := .type "list", data := .seq its.toArray n }) (hf : f { cls := .type "list", data := .seq its.toArray n } = { cls := .type "list", data := .seq its'.toArray n' }) (r : Vals ys its') (hz : ys.length ≤ sizeLine) (t : Nat) (ht : 0 < t := by first | assumption | exact Nat.succ_pos _ | (apply Inv.tk; assumption)) :
    Inv X pins σ (upd H p (.lst ys)) { s with heap := s.heap.update p f, toks := t } := by
  have e : (s.heap.update p f).get? p = some { cls := .type "list", data := .seq its'.toArray n' } := by
    rw [Heap.get?_update_self f ho (by rw [hf] <;> rfl), hf]
  refine I.write (x := p) (e := p) (by rw [h]; trivial) (.inl rfl) (fun b u hb q => (Heap.get?_update_other _ _ (Ne.symm hb)).trans q) ⟨_, e⟩ ?_
  exact ⟨hz, its', n', r, e⟩
def rSetL : V → V → V → Hp → (Hp → Prop) → Prop := fun o i v H Q => ∃ p xs k j, o = .ref p ∧ i = .int k ∧ H p = some (.lst xs) ∧ ixN xs.length k = some j ∧ Q (upd H p (.lst (xs.set j v)))
theorem set_list : PSet X rSetL := by
  intro pins s σ H o i v ov iv u Q I ro ri rv h
  obtain ⟨p, xs, k, j, rfl, rfl, hp, hj, q⟩ := h
  cases ro
  obtain ⟨t, rfl⟩ := ri
  obtain ⟨its, n, r, ho, hz⟩ := I.lst hp
  obtain ⟨h1, h2, h3, h4⟩ := ixN_seq hj
  have hl := r.length
  have hn := line63
  have I' : Inv X pins σ (upd H p (.lst (xs.set j v))) { s with heap := s.heap.update p (Obj.mapSeq (·.setIfInBounds j u)) } :=
    I.lstUpd hp ho (mapSeq_set its n j u) (r.set rv j) (by rw [List.length_set]; exact hz) s.toks
  by_cases h0 : 0 ≤ k
  · have hk : k.toNat = j := by
      rw [seqIndex_of h0 h4] at h1
      exact Option.some.inj h1
    exact PySem.W.ki_setAt ho h0 (by omega) (by rw [List.size_toArray, ← hl]; exact h4) (by rw [hk]; exact ⟨_, I', q⟩)
  · have hk : (k + (its.toArray.size : Int)).toNat = j := by
      rw [seqIndex_neg (by omega) h3] at h1
      rw [List.size_toArray, ← hl]
      exact Option.some.inj h1
    exact PySem.W.ki_setBack ho (by omega) (by rw [List.size_toArray, ← hl]; exact h3) (by omega) (by rw [hk]; exact ⟨_, I', q⟩)

/-! ### slices -/
theorem slice_bounds (lo hi : Option Int) (n : Nat) : (sliceBounds lo hi none n).1 = ((HT.sIx n 0 lo : Nat) : Int) ∧ (sliceBounds lo hi none n).2.1 = ((HT.sIx n n hi : Nat) : Int) ∧ (sliceBounds lo hi none n).2.2 = 1 := by
  refine ⟨?_, ?_, rfl⟩
  · cases lo with
    | none => simp [sliceBounds, HT.sIx]
    | some i =>
      simp only [sliceBounds, HT.sIx, Option.getD_none, show (1 : Int) > 0 by decide, if_true]
      by_cases h : i < 0
      · simp only [h, if_true] <;> omega
      · simp only [h, if_false] <;> omega
  · cases hi with
    | none => simp [sliceBounds, HT.sIx]
    | some i =>
      simp only [sliceBounds, HT.sIx, Option.getD_none, show (1 : Int) > 0 by decide, if_true]
      by_cases h : i < 0
      · simp only [h, if_true] <;> omega
      · simp only [h, if_false] <;> omega
theorem slicePick_cut (its : List Value) (lo hi : Option Int) : slicePick its.toArray lo hi none = ((its.drop (HT.sIx its.length 0 lo)).take (HT.sIx its.length its.length hi - HT.sIx its.length 0 lo)).toArray := by
  obtain ⟨h1, h2, h3⟩ := slice_bounds lo hi its.toArray.size
  unfold slicePick
  rw [h1, h2, h3]
  simp only [sliceRange_one, pick_run, List.size_toArray] <;> rfl
/-- xs[lo:hi] of a list: a new list -/
def rSlL (K : PySem.W.Frag) : V → Option Int → Option Int → Hp → VK → Prop := fun x lo hi H Q => ∃ a xs, x = .ref a ∧ SqL K H a xs ∧ ∀ p, H p = none → Q (.ref p) (upd H p (.lst (cutV xs lo hi)))
theorem sl_list : SlR X (rSlL X.K) := by
  intro pins s σ H x v vl vu lo hi sl Q I rx hs pl pu h
  obtain ⟨a, xs, rfl, hx, q⟩ := h
  cases rx
  obtain ⟨its, r, ht, hz⟩ := I.list hx
  have hlen := r.length
  refine ⟨"list", _, slot_list_getitem.lookup, ht.isList.typeIs, ?_⟩
  refine wpAny_getItem_list_slice ht.isList hs pl pu .none (by simp) ?_ (by rw [List.size_toArray] <;> omega)
  rw [slicePick_cut, ← hlen]
  refine ⟨.ref s.heap.objs.size, _, I.laid (t' := s.toks) (o := .lst (cutV xs lo hi)) (fun b ob q => Heap.get?_push_of_some _ q) (Nat.le_refl _) ?_, rfl, q _ (I.hok.fresh (Nat.le_refl _))⟩
  exact ⟨Nat.le_trans (cutV_length xs lo hi) hz, _, 0, (r.drop (HT.sIx xs.length 0 lo)).take (HT.sIx xs.length xs.length hi - HT.sIx xs.length 0 lo), Heap.get?_push_size _ rfl⟩

/-! ### in, not in: flat items -/

/-! ### len, list(x), tuple(x) of any list or tuple that is read -/
theorem call_len_seq : CallR X (.builtin "len") (fun xs H Q => ∃ p ys, xs = [.ref p] ∧ (SqL X.K H p ys ∨ SqT X.K H p ys) ∧ Q (.int ys.length) H) := by
  intro pins s σ H xs us Q I r h
  obtain ⟨p, ys, rfl, hq, q⟩ := h
  obtain ⟨u, rfl, rx⟩ := vals1 r
  cases rx
  have hn := line63
  rcases hq with hq | hq
  · obtain ⟨its, r', pl, hz⟩ := I.list hq
    have hlen := r'.length
    exact Calls.call_len_list pl.isList (by simp only [List.size_toArray] <;> omega) ⟨.int ys.length, H, I.tok _, ⟨s.toks + 1, by rw [List.size_toArray, hlen]⟩, q⟩
  · obtain ⟨its, r', pl, hz⟩ := I.tuple hq
    have hlen := r'.length
    exact len_tuple pl (by simp only [List.size_toArray] <;> omega) ⟨.int ys.length, H, I.tok _, ⟨s.toks + 1, by rw [List.size_toArray, hlen]⟩, q⟩
theorem call_len_str : CallR X (.builtin "len") (fun xs H Q => ∃ z, xs = [.str z] ∧ z.length ≤ sizeLine ∧ Q (.int z.length) H) := by
  intro pins s σ H xs us Q I r h
  obtain ⟨z, rfl, hz, q⟩ := h
  obtain ⟨u, rfl, t, rfl⟩ := vals1 r
  have hn := line63
  exact len_str (by omega) ⟨.int z.length, H, I.tok _, ⟨_, rfl⟩, q⟩
theorem call_list_of : CallR X (.type "list") (fun xs H Q => ∃ p ys, xs = [.ref p] ∧ (SqL X.K H p ys ∨ SqT X.K H p ys) ∧ ∀ l, H l = none → Q (.ref l) (upd H l (.lst ys))) := by
  intro pins s σ H xs us Q I r h
  obtain ⟨p, ys, rfl, hq, q⟩ := h
  obtain ⟨u, rfl, rx⟩ := vals1 r
  cases rx
  have fin : ∀ (its : List Value), Vals ys its → ys.length ≤ sizeLine → ∀ (h' : Heap) (c' : Nat), (∀ b o', s.heap.get? b = some o' → h'.get? b = some o') →
      h'.get? s.heap.objs.size = some { cls := .type "list", dict := none, data := .seq its.toArray c', slots := #[] } → EP X pins σ Q (.ref s.heap.objs.size) { s with heap := h' } := fun its r' hz h' c' kp e =>
    ⟨.ref s.heap.objs.size, _, I.laid (t' := s.toks) kp (Nat.le_refl _) (show ObjOk X.prog X.w _ h' _ (.lst ys) from ⟨hz, its, c', r', e⟩), rfl, q _ (I.hok.fresh (Nat.le_refl _))⟩
  rcases hq with hq | hq
  · obtain ⟨its, r', pl, hz⟩ := I.list hq
    have hlen := r'.length
    obtain ⟨o, ho, hc, n, hd⟩ := pl.isList
    exact call_list_seq p (.inl rfl) ho hc hd (fun h' c' kp e => fin its r' hz h' c' kp e) (by simp only [List.size_toArray] <;> omega)
  · obtain ⟨its, r', pl, hz⟩ := I.tuple hq
    have hlen := r'.length
    obtain ⟨o, ho, hc, n, hd⟩ := pl
    exact call_list_seq p (.inr rfl) ho hc hd (fun h' c' kp e => fin its r' hz h' c' kp e) (by simp only [List.size_toArray] <;> omega)

/-! ### the call of a builtin's method: o.m(..) -/
/-- the value is of that builtin type -/
def tyV (K : PySem.W.Frag) (T : String) (x : V) (H : Hp) : Prop := match x with
  | .str _ => T = "str"
  | .int _ => T = "int"
  | .ref p => (T = "list" ∧ ∃ xs, SqL K H p xs) ∨ (T = "tuple" ∧ ∃ o, K.lookup p = some o ∧ o.cls = .type "tuple" ∧ o.dict = none) ∨
      (T = "dict" ∧ ((∃ kvs, H p = some (.dK kvs)) ∨ ∃ kvs, H p = some (.dT kvs))) ∨ (T = "set" ∧ ∃ S n, H p = some (.set S n))
  | _ => False
theorem tyV_is {pins : List (Addr × Obj)} {σ : St} {H : Hp} {s : Shared} {T : String} {x : V} {v : Value} (I : Inv X pins σ H s) (r : RelV x v) (ty : tyV X.K T x H) :
    s.TypeIs v T ∧ ∀ a, v = .ref a → ∃ ob, s.heap.get? a = some ob ∧ ob.dict = none := by
  cases x with
  | str z =>
    obtain ⟨t, rfl⟩ := r
    cases (show T = "str" from ty)
    exact ⟨typeIs_str s z t, fun _ e => nomatch e⟩
  | int i =>
    obtain ⟨t, rfl⟩ := r
    cases (show T = "int" from ty)
    exact ⟨typeIs_int s i t, fun _ e => nomatch e⟩
  | ref p =>
    cases r
    rcases ty with ⟨rfl, xs, hq⟩ | ⟨rfl, o, hk, hc, hd⟩ | ⟨rfl, hk⟩ | ⟨rfl, S, n, hk⟩
    · obtain ⟨its, _, pl, _⟩ := I.list hq
      refine ⟨pl.isList.typeIs, fun a e => ?_⟩
      cases e
      obtain ⟨o, n, e, c, hd, _⟩ := pl
      exact ⟨o, e, hd⟩
    · refine ⟨⟨o, I.kIn p o hk, hc⟩, fun a e => ?_⟩
      cases e
      exact ⟨o, I.kIn _ o hk, hd⟩
    · have z : ∃ o, s.heap.get? p = some o ∧ o.ExactDict := by
        rcases hk with ⟨kvs, hk⟩ | ⟨kvs, hk⟩
        · obtain ⟨_, _, _, _, o, _, _, e, ex, _⟩ := I.hok p _ hk
          exact ⟨o, e, ex⟩
        · obtain ⟨_, _, _, _, o, _, _, e, ex, _⟩ := I.hok p _ hk
          exact ⟨o, e, ex⟩
      obtain ⟨o, e, ex⟩ := z
      refine ⟨⟨o, e, ex.1⟩, fun a e2 => ?_⟩
      cases e2
      exact ⟨o, e, ex.2.1⟩
    · obtain ⟨o, _, _, _, e, ex, _⟩ := I.hok p _ hk
      refine ⟨⟨o, e, ex.1⟩, fun a e2 => ?_⟩
      cases e2
      exact ⟨o, e, ex.2.1⟩
  | _ => exact False.elim ty
def tBM0 (K : PySem.W.Frag) (T : String) (r : V → List V → Hp → VK → Prop) (to : TE) : TE := fun σ H Q => to σ H fun x H1 => tyV K T x H1 ∧ r x [] H1 Q
def tBM (K : PySem.W.Frag) (T : String) (r : V → List V → Hp → VK → Prop) (to : TE) (t : TA) : TE := fun σ H Q => to σ H fun x H1 => tyV K T x H1 ∧ t σ H1 fun xs H2 => r x xs H2 Q
variable {o e : Expr} {es : List Expr} {to : TE} {t : TA} {name : Str} {apos cpos : Pos} {T id : String} {r : V → List V → Hp → VK → Prop}
theorem pe_bm0 (pa : PlainAttrs T) (slot : Slot T name id) (hty : typeOf (.builtin id) = pure (.type "method_descriptor")) (hm : MtR X id r) (ho : PE X o to)
    (hbase : attributeBase o name X.env (eval o X.env) = eval o X.env := by rfl) (hline : (apos.endLine == cpos.line) = true := by rfl) : PE X (.Call (.Attribute o name apos) [] [] cpos) (tBM0 X.K T r to) := by
  intro pins s σ H Q I h
  refine wpAny_Call_method0_late hbase hline (thn (ho pins s σ H _ I h) fun v s1 ⟨x, H1, I1, r1, ty, q1⟩ => ?_)
  obtain ⟨h1, h2⟩ := tyV_is I1 r1 ty
  exact ⟨T, id, pa, slot, hty, h1, h2, Calls.callWith_builtin rfl (PySem.evalArgs_none (hm pins s1 σ H1 x [] v [] Q I1 r1 .nil q1))⟩
theorem pe_bm (pa : PlainAttrs T) (slot : Slot T name id) (hty : typeOf (.builtin id) = pure (.type "method_descriptor")) (hm : MtR X id r) (ho : PE X o to) (ha : PA X (e :: es) t)
    (hbase : attributeBase o name X.env (eval o X.env) = eval o X.env := by rfl)
    (hfew : ((backTo cpos (starEach (e :: es) X.env)).all (fun x => !x.1) && (backToKw cpos (keywordEach [] X.env)).all (fun x => x.1.isSome)
      && decide ((e :: es).length + ([] : List Keyword).length + (if ([] : List Keyword).isEmpty then 0 else 1) < 30)) = true := by rfl)
    (hline : (apos.endLine == cpos.line) = true := by rfl) (hs : starEach (e :: es) X.env = (false, eval e X.env) :: starEach es X.env := by rfl) (hplain : (backTo cpos (starEach es X.env)).any (·.1) = false := by rfl) :
    PE X (.Call (.Attribute o name apos) (e :: es) [] cpos) (tBM X.K T r to t) := by
  intro pins s σ H Q I h
  refine wpAny_Call_method_late hbase hfew hline rfl (thn (ho pins s σ H _ I h) fun v s1 ⟨x, H1, I1, r1, ty, q1⟩ => ?_)
  obtain ⟨h1, h2⟩ := tyV_is I1 r1 ty
  refine ⟨T, id, pa, slot, hty, h1, h2, ?_⟩
  have hA := ha cpos pins s1 σ H1 _ I1 q1
  rw [hs] at hA ⊢
  refine Calls.callWith_builtin (by show (false || (backTo cpos (starEach es X.env)).any (·.1)) = false; rw [hplain] <;> rfl) (Calls.evalArgs_plain ?_)
  exact thn hA fun us s2 ⟨vs, H2, I2, r2, q2⟩ => hm pins s2 σ H2 x vs v us Q I2 r1 r2 q2
/- xs.append(e), list.index on a module's tuple .. are MtR facts of 06m -/
end
end L2

namespace L2
open PySem PySem.Spec PyProof.Rows

def MtM (X : Cx) (id : String) (r : V → List V → Hp → VK → Prop) : Prop :=
  ∀ (pins : List (Addr × Obj)) (s : Shared) (σ : St) (H : Hp) (x : V) (xs : List V) (v : Value) (us : List Value) (Q : VK), Inv X pins σ H s → RelV x v → Vals xs us → r x xs H Q →
    wpAny (model X.prog X.w) X.A (call (.builtin id) (v :: us)) (EP X pins σ Q) X.xe s

/-! ### lists of values -/
theorem Vals.one : ∀ {x : V} {us : List Value}, Vals [x] us → ∃ u, us = [u] ∧ RelV x u
  | _, _, .cons r .nil => ⟨_, rfl, r⟩
theorem Vals.two : ∀ {x y : V} {us : List Value}, Vals [x, y] us → ∃ u v, us = [u, v] ∧ RelV x u ∧ RelV y v
  | _, _, _, .cons r (.cons q .nil) => ⟨_, _, rfl, r, q⟩
theorem Vals.zero : ∀ {us : List Value}, Vals [] us → us = []
  | _, .nil => rfl
theorem Vals.dropLast {xs : List V} {us : List Value} (h : Vals xs us) : Vals xs.dropLast us.dropLast := by
  induction h with
  | nil => exact .nil
  | cons r t ih =>
    cases t with
    | nil => exact .nil
    | cons q t' => exact .cons r ih
theorem Vals.eraseIdx : ∀ {xs : List V} {us : List Value} (i : Nat), Vals xs us → Vals (xs.eraseIdx i) (us.eraseIdx i)
  | _, _, _, .nil => .nil
  | _, _, 0, .cons _ t => t
  | _, _, i + 1, .cons r t => .cons r (Vals.eraseIdx i t)
theorem Vals.reverse {xs : List V} {us : List Value} (h : Vals xs us) : Vals xs.reverse us.reverse := by
  induction h with
  | nil => exact .nil
  | cons r t ih => rw [List.reverse_cons, List.reverse_cons]; exact Vals.append ih (.cons r .nil)
theorem erase_last {α : Type} (l : List α) : l.eraseIdx (l.length - 1) = l.dropLast := by
  induction l with
  | nil => rfl
  | cons a r ih =>
    cases r with
    | nil => rfl
    | cons b r =>
      have e : (a :: b :: r).length - 1 = ((b :: r).length - 1) + 1 := by
        have h1 : (a :: b :: r).length = r.length + 2 := rfl
        have h2 : (b :: r).length = r.length + 1 := rfl
        omega
      rw [e, List.eraseIdx_cons_succ, ih]
      all_goals rfl
theorem len_erase {α : Type} : ∀ (l : List α) (i : Nat), (l.eraseIdx i).length ≤ l.length
  | [], _ => Nat.le_refl _
  | _ :: _, 0 => Nat.le_succ _
  | _ :: r, i + 1 => Nat.succ_le_succ (len_erase r i)

section
variable {X : Cx} {pins : List (Addr × Obj)} {σ : St} {H : Hp} {s : Shared} {l b : Addr} {xs ys zs : List V}

/-! ### the two steps: a tracked list is rewritten, a new list is laid -/
theorem Inv.lset {its its' : List Value} {n : Nat} {f : Array Value → Array Value} {t' : Nat} (I : Inv X pins σ H s) (hH : H l = some (.lst xs))
    (e : s.heap.get? l = some { cls := .type "list", data := .seq its.toArray n }) (hf : f its.toArray = its'.toArray) (hv : Vals ys its') (hz : ys.length ≤ sizeLine) (ht : 0 < t' := by first | assumption | exact Nat.succ_pos _ | (apply Inv.tk; assumption)) :
    Inv X pins σ (upd H l (.lst ys)) { s with heap := s.heap.update l (Obj.mapSeq f), toks := t' } := by
  have q := PySem.IsL.update e f
  rw [hf] at q
  refine I.write (x := l) (e := l) (by rw [hH]; exact trivial) (.inl rfl) (fun b' u hb hu => (Heap.get?_update_other s.heap (Obj.mapSeq f) (Ne.symm hb)).trans hu) ⟨_, q⟩ ?_
  exact ⟨hz, its', _, hv, q⟩
theorem Inv.lnew {its : List Value} {t' : Nat} (I : Inv X pins σ H s) (hv : Vals ys its) (hz : ys.length ≤ sizeLine) (ht : 0 < t' := by first | assumption | exact Nat.succ_pos _ | (apply Inv.tk; assumption)) :
    Inv X pins σ (upd H s.heap.objs.size (.lst ys)) { s with heap := s.heap.push { cls := .type "list", data := .seq its.toArray }, toks := t' } :=
  I.laid (fun _ _ q => Heap.get?_push_of_some _ q) (Nat.le_refl _) ⟨hz, its, 0, hv, Heap.get?_push_size _ rfl⟩
theorem Inv.fresh (I : Inv X pins σ H s) : H s.heap.objs.size = none := I.hok.fresh (Nat.le_refl _)
theorem Inv.lstM (I : Inv X pins σ H s) (hH : H l = some (.lst xs)) : xs.length ≤ sizeLine ∧ ∃ (its : List Value) (n : Nat), Vals xs its ∧ xs.length = its.length ∧ s.heap.get? l = some { cls := .type "list", data := .seq its.toArray n } := by
  obtain ⟨z, its, n, r, e⟩ := I.hok l _ hH
  exact ⟨z, its, n, r, r.length, e⟩

end

section
variable {X : Cx}

/-! ### methods -/
def rAppend : V → List V → Hp → VK → Prop := fun x vs H Q => ∃ l xs y, x = .ref l ∧ vs = [y] ∧ H l = some (.lst xs) ∧ xs.length < sizeLine ∧ Q .non (upd H l (.lst (xs ++ [y])))
theorem mt_append : MtM X "list.append" rAppend := by
  intro pins s σ H x vs v us Q I rx rv h
  obtain ⟨l, xs, y, rfl, rfl, hH, hz, q⟩ := h
  cases rx
  obtain ⟨u, rfl, ru⟩ := rv.one
  obtain ⟨z, its, n, r, hl, e⟩ := I.lstM hH
  refine call_meets F.slot_list_append ⟨_, e, rfl⟩ F.entry_list_append (F.args_list_append_2 _ _) (PySem.list_append l its.toArray n u (by rw [List.size_toArray]; omega)) ⟨e, ?_⟩
  refine ⟨.non, _, I.lset (its' := its ++ [u]) hH e (by simp) (r.append (.cons ru .nil)) ?_, rfl, q⟩
  rw [List.length_append, List.length_singleton]
  omega


def rPop : V → List V → Hp → VK → Prop := fun x vs H Q => ∃ l xs y, x = .ref l ∧ vs = [] ∧ H l = some (.lst xs) ∧ xs[xs.length - 1]? = some y ∧ Q y (upd H l (.lst xs.dropLast))
theorem mt_pop : MtM X "list.pop" rPop := by
  intro pins s σ H x vs v us Q I rx rv h
  obtain ⟨l, xs, y, rfl, rfl, hH, hy, q⟩ := h
  cases rx
  have hus := rv.zero
  subst hus
  obtain ⟨z, its, n, r, hl, e⟩ := I.lstM hH
  obtain ⟨u, hu, ru⟩ := r.get hy
  have hy' : its.toArray[its.toArray.size - 1]? = some u := by
    show its.toArray[its.length - 1]? = some u
    rw [← Array.getElem?_toList, ← hl]
    exact hu
  refine call_meets F.slot_list_pop ⟨_, e, rfl⟩ F.entry_list_pop (F.args_list_pop_1 _) (MeetsSeq.list_pop_last l its.toArray n u hy' (by rw [List.size_toArray]; omega)) ⟨e, ?_⟩
  refine ⟨y, _, I.lset (its' := its.dropLast) hH e ?_ r.dropLast ?_, ru, q⟩
  · show its.toArray.eraseIdxIfInBounds (its.toArray.size - 1) = its.dropLast.toArray
    rw [List.size_toArray, List.eraseIdxIfInBounds_toArray, erase_last]
  · rw [List.length_dropLast]
    omega

def rPopAt : V → List V → Hp → VK → Prop := fun x vs H Q => ∃ l xs i k y, x = .ref l ∧ vs = [.int i] ∧ H l = some (.lst xs) ∧ -(2 ^ 63) ≤ i ∧ i < 2 ^ 63 ∧ seqIndex? i xs.length = some k ∧ xs[k]? = some y ∧ Q y (upd H l (.lst (xs.eraseIdx k)))
theorem mt_popAt : MtM X "list.pop" rPopAt := by
  intro pins s σ H x vs v us Q I rx rv h
  obtain ⟨l, xs, i, k, y, rfl, rfl, hH, h1, h2, hk, hy, q⟩ := h
  cases rx
  obtain ⟨u, rfl, ru⟩ := rv.one
  obtain ⟨t, rfl⟩ := ru
  obtain ⟨z, its, n, r, hl, e⟩ := I.lstM hH
  obtain ⟨w, hw, rw'⟩ := r.get hy
  refine call_meets F.slot_list_pop ⟨_, e, rfl⟩ F.entry_list_pop (F.args_list_pop_2 _ _)
    (MeetsSeq.list_pop_at l its.toArray n i t k w (fitsIndex_both h1 h2) (by rw [List.size_toArray, ← hl]; exact hk) (by rw [← Array.getElem?_toList]; exact hw) (by rw [List.size_toArray]; omega)) ⟨e, ?_⟩
  refine ⟨y, _, I.lset (its' := its.eraseIdx k) hH e ?_ (r.eraseIdx k) ?_, rw', q⟩
  · show its.toArray.eraseIdxIfInBounds k = (its.eraseIdx k).toArray
    rw [List.eraseIdxIfInBounds_toArray]
  · have := len_erase xs k
    omega



/-! ### list + list, list += list, list * int -/
def rCat : R2 := fun x y H Q => ∃ l b xs zs, x = .ref l ∧ y = .ref b ∧ H l = some (.lst xs) ∧ H b = some (.lst zs) ∧ xs.length + zs.length ≤ sizeLine ∧ ∀ p, H p = none → Q (.ref p) (upd H p (.lst (xs ++ zs)))
theorem op_cat : OpR X (binaryOp .Add) rCat := by
  intro pins s σ H x y v u Q I rx ry h
  obtain ⟨l, b, xs, zs, rfl, rfl, hH, hB, hz, q⟩ := h
  cases rx
  cases ry
  obtain ⟨z, its, n, r, hl, e⟩ := I.lstM hH
  obtain ⟨z2, its2, n2, r2, hl2, e2⟩ := I.lstM hB
  refine PySem.P.add_list e e2 ?_ (by rw [List.size_toArray, List.size_toArray]; omega)
  have ea : its.toArray ++ its2.toArray = (its ++ its2).toArray := by simp
  rw [ea]
  exact ⟨.ref _, _, I.lnew (t' := s.toks) (r.append r2) (by rw [List.length_append]; omega), rfl, q _ I.fresh⟩

/-! ### del xs[i] -/
end

/-! ### xs[a:b] = ys -/
section
variable {prog : Program} {w : World} {A : Around} {E : Value → Shared → Prop} {s : Shared}
set_option maxRecDepth 100000 in
end

section
variable {X : Cx}
end
end L2

namespace Att
open PySem PySem.W PySem.Calls PyProof.Rows

/-! ### the script -/



/-! ### the attachment: holds_open's last premise (the goal 'hc' behind k_head) from a wpAny of the law's body -/



/-! ### rules over ANY heap (no ledger) from facts about the written part K: the library's own take a ledger (News) for what they write -/
section
variable {prog : Program} {w : World} {A : Around} {E : Value → Shared → Prop} {s : Shared} {K : Frag}





/-! the whole heap as the ledger: makes every rule that writes through a ledger a rule over any heap -/

end
end Att

namespace L2
open PySem PySem.Spec PyProof.Rows

theorem vals_ints : ∀ {vs : List Value} {ns : List Int}, IntsAre vs ns → Vals (ns.map V.int) vs
  | _, _, .nil => .nil
  | _, _, .cons n t h => .cons ⟨t, rfl⟩ (vals_ints h)

/-- nothing is tracked but the script, known to the object (or it is an object of the module) -/
def Only (H : Hp) : Prop := ∀ b, H b = none ∨ ∃ o xs, H b = some (.frz o (.lst xs))

/-- THE HEAD: the law's promise, at the heap behind the top. F, the promise of the law's def, may use that base is part of the heap (so K.In base, base.Ns mainGlobals mg stand in Mod) -/
theorem law_call {P : Program} {w : World} {K : PySem.W.Frag} {mg mb : Str → Option Value} {CX : CXT} {k : Nat} {fa a : Addr} {fd : FuncData} {x : Str} {sp : Sp} {s₁ : Shared} {vs : List Value} {ns : List Int}
    (KX : K.In s₁.heap) (hns : s₁.heap.Ns mainGlobals mg) (hb : s₁.heap.Ns builtinsNs mb) (hbb : ∀ x : Str, x ≠ "__name__" → mb x = bootBuiltins x) (hlim : s₁.heap.NoLimit) (hg : s₁.gens = #[]) (htk : 0 < s₁.toks)
    (ha : s₁.heap.get? a = some { cls := .type "list", data := .seq vs.toArray }) (hi : IntsAre vs ns) (hl : ns.length ≤ sizeLine) (hr : Room k callerA)
    (F : ∀ base : Heap, K.In base → base.Ns mainGlobals mg → FnOk P w K mg base CX k fa fd [x] sp) (hbind : ∀ (s : Shared) (u : Value), BindsTo s fd ⟨[u], []⟩ [(x, u)])
    (hsp : ∀ H : Hp, Only H → SqL K H a (ns.map V.int) → sp [.ref a] H (fun v _ => v = .bl true) fun _ _ _ => False)
    (hCX : ∀ H e s', CX [] H s₁ (fun _ _ _ => False) e s' → False) :
    codeAny (model P w) callerA (.call (.ref fa) ⟨[.ref a], []⟩) (fun r s' => r = .ok (.ret (.bool true)) ∧ OldK s₁.heap s'.heap ∧ s'.os = s₁.os ∧ AllBare s'.gens) s₁ := by
  have rv := vals_ints hi
  have lenV := hi.length
  -- from an abstract heap in which nothing but the script may be tracked
  have core : ∀ H : Hp, Only H → SqL K H a (ns.map V.int) → HOk P w H s₁.heap → (∀ b, H b ≠ none → b = a) → (H a ≠ none → K.lookup a = none) →
      codeAny (model P w) callerA (.call (.ref fa) ⟨[.ref a], []⟩) (fun r s' => r = .ok (.ret (.bool true)) ∧ OldK s₁.heap s'.heap ∧ s'.os = s₁.os ∧ AllBare s'.gens) s₁ := by
    intro H hO hS hok hA hK
    have base_of : ∀ {b : Addr} {o : Obj}, s₁.heap.get? b = some o → H b = none → (hidT s₁.heap H).get? b = some o := fun e n => hidT_get e n
    have noA : ∀ {b : Addr} {o : Obj} {es : Array DictEntry} {ep : Nat}, s₁.heap.get? b = some o → o.data = .dict es ep → H b = none := fun {b o es ep} e d => by
      cases q : H b with
      | none => rfl
      | some u =>
        have e' : b = a := hA b (by rw [q]; simp)
        subst e'
        rw [ha] at e; cases e
        have d' : Data.seq vs.toArray _ = Data.dict es ep := d
        cases d'
    have nsK : ∀ {b : Addr} {m : Str → Option Value}, s₁.heap.Ns b m → (hidT s₁.heap H).Ns b m := fun {b m} ⟨o, es, ep, e, d, r⟩ => ⟨o, es, ep, base_of e (noA e d), d, r⟩
    have hKb : K.In (hidT s₁.heap H) := fun b o e => base_of (KX b o e) (by
      cases q : H b with
      | none => rfl
      | some u =>
        have e' : b = a := hA b (by rw [q]; simp)
        subst e'
        rw [hK (by rw [q]; simp)] at e; cases e)
    have hM : Mod K mg (hidT s₁.heap H) := ⟨hKb, nsK hns, ⟨mb, nsK hb, hbb⟩, let ⟨mc, h1, h2⟩ := hlim; ⟨mc, nsK h1, h2⟩⟩
    have e0 : Env0 P w K mg (hidT s₁.heap H) callerA [] s₁ H := ⟨rfl, hM, fun b o e => of_hidT e, Nat.le_of_eq (hidT_size _ _), trivial, fun b hb => absurd (show b ∈ ([] : List Addr) from hb) (by simp), hok, .of_eq hg, htk⟩
    refine codeAny_mono ((F _ hKb (nsK hns)).run callerA [] s₁ H ⟨[.ref a], []⟩ [.ref a] [.ref a] _ _ hr e0 (hbind s₁ (.ref a)) (.cons rfl .nil) (hsp H hO hS)) fun r s' h => ?_
    cases r with
    | error e => exact (hCX H e s' h).elim
    | ok fl =>
      cases fl with
      | next => exact False.elim h
      | brk => exact False.elim h
      | cont => exact False.elim h
      | ret u =>
        obtain ⟨v, H', os, bare, un, hok', _, r', q⟩ := h
        have q' : v = .bl true := q
        subst q'
        obtain rfl : u = Value.bool true := r'
        refine ⟨rfl, OldK.of_keep fun b o e => ?_, os, bare⟩
        cases q : H b with
        | none => exact un.keep b o e q (by intro z; exact absurd (show b ∈ ([] : List Addr) from z) (by simp)) (by simp)
        | some u =>
          rcases hO b with z | ⟨ob, xs, z⟩
          · rw [q] at z; cases z
          · have z2 := un.frzs b ob _ z
            obtain ⟨e1, _⟩ := hok b _ z
            obtain ⟨e2, _⟩ := hok' b _ z2
            rw [e] at e1; cases e1
            exact e2
  cases hk : K.lookup a with
  | some o =>
    -- the script is one of the module's own objects
    have e := KX a o hk
    rw [ha] at e
    cases e
    refine core (fun _ => none) (fun _ => .inl rfl) (.inr ⟨_, vs.toArray, _, hk, rfl, rfl, rfl, by rw [List.size_toArray, lenV]; exact hl, by simpa using rv⟩) (fun b u z => by have z' : (none : Option HO) = some u := z; cases z') (fun b z => absurd rfl z) fun z => absurd rfl z
  | none =>
    refine core (fun b => if b = a then some (.frz { cls := .type "list", data := .seq vs.toArray } (.lst (ns.map V.int))) else none) (fun b => ?_) (.inl (.inr ⟨{ cls := .type "list", data := .seq vs.toArray }, if_pos rfl⟩)) (fun b u z => ?_) (fun b z => ?_) fun _ => hk
    · by_cases hb : b = a
      · exact .inr ⟨_, _, if_pos hb⟩
      · exact .inl (if_neg hb)
    · by_cases hb : b = a
      · have z' := (if_pos hb).symm.trans z
        cases z'
        subst hb
        exact ⟨ha, by rw [List.length_map]; exact hl, vs, _, rv, ha⟩
      · have z' := (if_neg hb).symm.trans z
        cases z'
    · by_cases hb : b = a
      · exact hb
      · exact absurd (if_neg hb) z
end L2

namespace L2
open PySem PySem.Spec PyProof.Rows

abbrev KOf {K : PySem.W.Frag} {h : Heap} (_ : K.In h) : PySem.W.Frag := K

end L2



/-! SHORT WORDS over the layer: a def of the text, its body, what a loop and a test want. -/
namespace L2
open PySem PySem.Spec PyProof.Rows

/-! ### the text by places -/
def defArgs (s : Stmt) : Arguments := match s with
  | .FunctionDef _ a _ _ _ _ _ _ _ _ => a
  | _ => { posonlyargs := [], args := [], vararg := none, kwonlyargs := [], kw_defaults := [], kwarg := none, defaults := [] }
def defBody (s : Stmt) : List Stmt := match s with
  | .FunctionDef _ _ b _ _ _ _ _ _ _ => b
  | _ => []
def defScope (s : Stmt) : Scope := match s with
  | .FunctionDef _ _ _ _ _ _ sc _ _ _ => sc
  | _ => { kind := .function, names := [], isGenerator := false, isCoroutine := false }

/-! ### no exception leaves a def -/
abbrev CX0 : CXT := fun _ _ _ _ _ _ => False
abbrev E0 : XK := fun _ _ _ => False
theorem pass0 {X : Cx} : Passes CX0 X E0 := fun _ _ _ _ _ _ _ h => h.elim

/-! ### a def (or method) of the text as it stands behind the top -/
structure Fun (K : PySem.W.Frag) (x qual : Str) (st : Stmt) (f : Addr) (fd : FuncData) : Prop where
  ex : ∃ (oc : Value) (od : Option Addr) (kV doc pm : Value) (an : Option Addr) (cdv ct : Value) (osl : Array (Option Value)),
    fd = PySem.W.fnOf x qual (defArgs st) (defBody st) (defScope st) .none kV doc pm an cdv ct ∧ K.lookup f = some ⟨oc, od, .func fd, osl⟩ ∧ PySem.W.codeIn K cdv qual = true
  kp : PySem.W.keepIn K (.ref f) = true
section
variable {P : Program} {w : World} {K : PySem.W.Frag} {mg : Str → Option Value} {base : Heap}
/-- THE RULE for a def: its body as a term of rules, and the reading of that term -/
theorem Fun.ok {x qual : Str} {st : Stmt} {f : Addr} {fd : FuncData} {N ps : List Str} {k : Nat} {sp : Sp} (F : Fun K x qual st f fd) (S : FnScope N ps (defScope st)) (len : ∀ vs H Q E, sp vs H Q E → vs.length = ps.length)
    (hbody : ∀ (cdv : Value) (A : Around) (outer : List Env) (s : Shared) (H : Hp) (vs : List V) (Q : VK) (E : XK), Room k (A.deeper (envOfC qual (defScope st) s.heap.objs.size f cdv)) → sp vs H Q E →
      ∃ t, PSs (cxOf CX0 P w K mg base N qual (defScope st) f cdv A outer s H E).nox (defBody st) t ∧ t { nx := fun _ H' => Q .non H', rt := Q } (start N vs) H) : FnOk P w K mg base CX0 (k + 1) f fd ps sp := by
  obtain ⟨oc, od, kV, doc, pm, an, cdv, ct, osl, rfl, lk, hcd⟩ := F.ex
  refine fn_of lk hcd S len fun A outer s H vs Q E hr hsp => ?_
  obtain ⟨t, h, q⟩ := hbody cdv A outer s H vs Q E hr hsp
  exact ⟨t, h.nox, q⟩
/-- how its arguments bind (no defaults): h is «fun _ _ _ _ _ _ us hl => match us, hl with | [_, _], _ => rfl», one _ a parameter -/
theorem Fun.binds {x qual : Str} {st : Stmt} {f : Addr} {fd : FuncData} {ps : List Str} (F : Fun K x qual st f fd)
    (h : ∀ (kV doc pm : Value) (an : Option Addr) (cdv ct : Value) (us : List Value), us.length = ps.length → bindArgs (PySem.W.fnOf x qual (defArgs st) (defBody st) (defScope st) .none kV doc pm an cdv ct) ⟨us, []⟩ = pure (ps.zip us)) : Binds K fd ps [] := by
  obtain ⟨oc, od, kV, doc, pm, an, cdv, ct, osl, rfl, lk, hcd⟩ := F.ex
  exact .all (h kV doc pm an cdv ct)
theorem fun_mk {x qual : Str} {st : Stmt} {f : Addr} {oc : Value} {od an : Option Addr} {osl : Array (Option Value)} {kV doc pm cdv ct : Value} (l : K.lookup f = some ⟨oc, od, .func (PySem.W.fnOf x qual (defArgs st) (defBody st) (defScope st) .none kV doc pm an cdv ct), osl⟩)
    (c : PySem.W.codeIn K cdv qual = true) (k : PySem.W.keepIn K (.ref f) = true) : Fun K x qual st f (PySem.W.fnOf x qual (defArgs st) (defBody st) (defScope st) .none kV doc pm an cdv ct) := ⟨⟨oc, od, kV, doc, pm, an, cdv, ct, osl, rfl, l, c⟩, k⟩
end

/-! ### expressions in short: the name that stands in the i-th slot -/
section
variable {X : Cx}
theorem pv (i : Nat) {x : Str} {pos : Pos} (hN : X.N[i]? = some x := by rfl) (hv : Vis X.env.scope x := by first | exact Or.inl rfl | exact Or.inr (Or.inl rfl) | exact Or.inr (Or.inr rfl)) (hd : (x == ("__debug__" : Str)) = false := by decide)
    (hcd : (x == ("__classdict__" : Str)) = false := by decide) : PE X (.Name x pos) (tVar i) := pe_var hN hv hd hcd
end

/-! ### tests -/
theorem iteT {A B : Prop} (h : A) : if true = true then A else B := by
  rw [if_pos rfl]
  exact h
theorem ite2 {c A B : Prop} [Decidable c] (h1 : c → A) (h2 : ¬ c → B) : if c then A else B := by
  by_cases h : c
  · rw [if_pos h]
    exact h1 h
  · rw [if_neg h]
    exact h2 h

/-! ### heaps -/
/-- all that was tracked is as it was -/
def Same (H H' : Hp) : Prop := ∀ b o, H b = some o → H' b = some o
theorem Same.refl (H : Hp) : Same H H := fun _ _ h => h
theorem Same.trans {H H1 H2 : Hp} (a : Same H H1) (b : Same H1 H2) : Same H H2 := fun c o h => b c o (a c o h)
theorem Same.free {H H' : Hp} (e : Same H H') {l : Addr} (h : H' l = Option.none) : H l = Option.none := by
  cases q : H l with
  | none => rfl
  | some o =>
    rw [e l o q] at h
    cases h
theorem Same.seq {K : PySem.W.Frag} {H H' : Hp} {a : Addr} {xs : List V} (e : Same H H') (h : SqL K H a xs) : SqL K H' a xs := by
  rcases h with (h | ⟨o, h⟩) | h
  · exact .inl (.inl (e _ _ h))
  · exact .inl (.inr ⟨o, e _ _ h⟩)
  · exact .inr h

end L2

set_option Elab.async false
set_option linter.all false
set_option maxRecDepth 100000
/-! A list comprehension of one clause, no exception leaving it. -/
namespace L2
open PySem PySem.Spec PyProof.Rows

def CellsIn (env : Env) : List (Str × Addr) → Prop
  | [] => True
  | p :: r => env.cells.lookup p.1 = some p.2 ∧ CellsIn env r
theorem CellsIn.look {env : Env} : ∀ {cl : List (Str × Addr)}, CellsIn env cl → ∀ x c, cl.lookup x = some c → env.cells.lookup x = some c
  | [], _, x, c, e => by simp at e
  | p :: r, h, x, c, e => by
    obtain ⟨n, a⟩ := p
    rw [List.lookup_cons] at e
    cases q : x == n with
    | true =>
      rw [q] at e
      have q' : x = n := eq_of_beq q
      subst q'
      cases e
      exact h.1
    | false =>
      rw [q] at e
      exact h.2.look x c e

/-- the comprehension's own context -/
abbrev compX (X : Cx) (scope : Scope) (cl : List (Str × Addr)) (C : Addr) (N' : List Str) (fp : List Addr) (s : Shared) (H : Hp) : Cx :=
  { X with N := N', s₀ := s, H₀ := H, env := compEnvC scope cl C X.env, outer := X.stack, ex := fp, fn := fun _ => false, pn := [], xe := fun _ _ => False }
/-- its slots: own names, none yet; then those of the outer frame that it reads -/
def nfS (k : Nat) (fr : List Nat) (σ : St) : St := List.replicate k none ++ fr.map fun j => (σ[j]?).join
/-- what is asked of the block's names: own: its targets; fr: the outer slots of the names that it reads -/
structure CompN (X : Cx) (scope : Scope) (cl : List (Str × Addr)) (own : List Str) (fr : List Nat) (N' : List Str) : Prop where
  kind : scope.kind = .function
  cells : CellsIn X.env cl
  has : ∀ x, ((relabel scope X.env).names.lookup x = some .cell ∨ (relabel scope X.env).names.lookup x = some .free) → ∃ c, cl.lookup x = some c
  nd : N'.Nodup
  len : N'.length = own.length + fr.length
  free : ∀ (i : Nat) (j : Nat), fr[i]? = some j → ∃ x, X.N[j]? = some x ∧ N'[own.length + i]? = some x ∧ (X.env.kindOf x = some .cell ∨ X.env.kindOf x = some .free) ∧
    ((relabel scope X.env).names.lookup x = some .cell ∨ (relabel scope X.env).names.lookup x = some .free)

section
variable {X : Cx} {pins : List (Addr × Obj)} {σ : St} {H : Hp} {s s4 : Shared} {scope : Scope} {cl : List (Str × Addr)} {own : List Str} {fr : List Nat} {N' : List Str} {fp : List Addr} {C : Addr} {H4 : Hp}
theorem comp_ok (I : Inv X pins σ H s) (Z : CompN X scope cl own fr N') (hC : s.heap.objs.size ≤ C) (hf : ∀ b ∈ fp, FpOk X pins H b) (ho : ∀ b ∈ fp, ∃ o, s.heap.get? b = some o ∧ ∀ v, o.data ≠ .cell v) : (compX X scope cl C N' fp s H).Ok where
  mod := I.ok.mod
  kind := Z.kind
  glob := I.ok.glob
  blt := I.ok.blt
  above := hC
  inj := fun x y c h1 h2 => I.ok.inj x y c (Z.cells.look x c h1) (Z.cells.look y c h2)
  has := fun x h => Z.has x h
  cab := fun x c h _ => Bool.noConfusion h
  hd := I.ok.hd
  frames := I.ok.frames
  stk := .inl rfl
  exf := fun b hb => by
    obtain ⟨o, e, _⟩ := ho b hb
    refine ⟨Nat.ne_of_lt (Nat.lt_of_lt_of_le (Heap.lt_size e) hC), fun x c h => ?_⟩
    exact (hf b hb).2.2.2.2.1 x c (Z.cells.look x c h)
  bs := I.bs
  bsz := Nat.le_trans I.ok.bsz I.sz
  noex := fun b o e hb => by
    rcases (hf b hb).2.2.2.1 with z | z
    · exact I.ok.noex b o e z
    · exact absurd (Nat.lt_of_lt_of_le (Heap.lt_size e) (Nat.le_trans I.ok.bsz z)) (Nat.lt_irrefl _)
  exfs := fun b hb z => by
    rcases List.mem_cons.mp (I.stkSub b z) with e | e
    · exact (hf b hb).2.1 e
    · exact (hf b hb).2.2.1 e
  funs := I.stack
  frf := I.stkFree

theorem comp_inv (I : Inv X pins σ H s) (Z : CompN X scope cl own fr N') (hC : s.heap.objs.size ≤ C) (hf : ∀ b ∈ fp, FpOk X pins H b) (ho : ∀ b ∈ fp, ∃ o, s.heap.get? b = some o ∧ ∀ v, o.data ≠ .cell v)
    (os : s4.os = s.os) (bare : AllBare s4.gens) (un : Un (frs X.stack) fp H H4 s.heap s4.heap) (ns : ∃ m, s4.heap.Ns C m) (kc : ∀ x c v, X.env.cells.lookup x = some c → s.heap.IsCell c v → s4.heap.IsCell c v)
    (fr4 : H4 C = none) (hok : HOk X.prog X.w H4 s4.heap) (tk : 0 < s4.toks) : Inv (compX X scope cl C N' fp s H) [] (nfS own.length fr σ) H4 s4 where
  ok := comp_ok I Z hC hf ho
  os := os
  bare := bare
  base := un
  loc := by
    obtain ⟨m, hm⟩ := ns
    refine ⟨m, hm, fun i x v h1 h2 h3 => ?_⟩
    unfold nfS at h2
    by_cases hi : i < own.length
    · rw [List.getElem?_append_left (by simpa using hi), List.getElem?_replicate, if_pos hi] at h2
      cases h2
    · rw [List.getElem?_append_right (by simpa using hi), List.length_replicate, List.getElem?_map] at h2
      cases q : fr[i - own.length]? with
      | none => rw [q] at h2; cases h2
      | some j =>
        rw [q] at h2
        have h2' : (σ[j]?).join = some v := Option.some.inj h2
        obtain ⟨y, e1, e2, e3, e4⟩ := Z.free _ j q
        have ei : own.length + (i - own.length) = i := by omega
        rw [ei] at e2
        have h1' : N'[i]? = some x := h1
        rw [e2] at h1'
        cases h1'
        have hs : σ[j]? = some (some v) := by
          cases r : σ[j]? with
          | none => rw [r] at h2'; cases h2'
          | some w => rw [r] at h2'; cases w with
            | none => cases h2'
            | some w => cases h2'; rfl
        obtain ⟨m0, _, hl⟩ := I.loc
        have vis : Vis X.env.scope x := e3.elim (fun z => .inr (.inl z)) fun z => .inr (.inr z)
        obtain ⟨u, ru, lk⟩ := hl j x v e1 hs vis
        refine ⟨u, ru, ?_⟩
        rcases lk with ⟨k, _⟩ | ⟨_, c, ec, hc⟩
        · rcases e3 with z | z <;> (rw [k] at z; cases z)
        · obtain ⟨c', ec'⟩ := Z.has x e4
          have := Z.cells.look x c' ec'
          rw [ec] at this
          cases this
          exact .inr ⟨e4, c, ec', kc x c _ ec hc⟩
  cell := fun x c e => by
    have e' := Z.cells.look x c e
    obtain ⟨v, hv⟩ := I.cell x c e'
    exact ⟨v, kc x c v e' hv⟩
  free := fr4
  freeC := fun x c e => by
    have e' := Z.cells.look x c e
    obtain ⟨v, o, hv, _⟩ := I.cell x c e'
    refine un.free c o hv (I.freeC x c e') fun hb => ?_
    exact (hf c hb).2.2.2.2.1 x c e' rfl
  pin := fun p hp => absurd (show p ∈ ([] : List (Addr × Obj)) from hp) (by simp)
  hok := hok
  len := by
    show (nfS own.length fr σ).length = N'.length
    unfold nfS
    rw [List.length_append, List.length_replicate, List.length_map, Z.len]
  tk := tk

/-- behind the block: the outer invariant again -/
theorem comp_out {σ' : St} (I : Inv X pins σ H s) (hf : ∀ b ∈ fp, FpOk X pins H b) {pins' : List (Addr × Obj)} (J : Inv (compX X scope cl C N' fp s H) pins' σ' H4 s4) : Inv X pins σ H4 s4 :=
  I.call' J.os J.base J.hok J.bare (fun b hb => ⟨(hf b hb).2.2.2.1, (hf b hb).2.1, (hf b hb).2.2.2.2.1, (hf b hb).2.2.2.2.2⟩) J.tk
theorem comp_gone {C : Addr} {h' : Heap} (I0 : Inv X pins σ H s) (hC : s.heap.objs.size ≤ C) {σ' : St} (I : Inv X pins σ' H4 s4) (fr4 : H4 C = none) (hs : Heap.SameBut C s4.heap h') : Inv X pins σ' H4 { s4 with heap := h' } := by
  refine I.turned (t' := s4.toks) (it := C) (fun b o hb e => (hs.2 b hb).trans e) fr4 ?_ (.inr (Nat.le_trans I0.sz hC)) ?_ ?_
  · exact Nat.ne_of_gt (Nat.lt_of_lt_of_le I0.lt hC)
  · intro x c e z
    obtain ⟨v, q⟩ := I0.cell x c e
    exact absurd (Nat.lt_of_lt_of_le q.lt (by rw [z]; exact hC)) (Nat.lt_irrefl _)
  · intro p hp z
    exact absurd (Nat.lt_of_lt_of_le (Heap.lt_size (I0.pin p hp).1) (by rw [z]; exact hC)) (Nat.lt_irrefl _)
end

/-! ### the loop of the block -/
/-- the tests of the clause -/
def PTs (X : Cx) (ifs : List Expr) (t : TT) : Prop :=
  ∀ (pins : List (Addr × Obj)) (s : Shared) (σ : St) (H : Hp) (Q : Bool → Hp → Prop), Inv X pins σ H s → t σ H Q →
    wpAny (model X.prog X.w) X.A (forIn ifs true fun c r => if r = true then do let ok ← isTrue c X.env (eval c X.env); pure (ForInStep.yield ok) else pure (ForInStep.yield r)) (TP X pins σ Q) X.xe s
def tYes : TT := fun _ H Q => Q true H
theorem pts_nil {X : Cx} : PTs X [] tYes := fun _ _ _ H _ I h => wpAny_tests_nil ⟨H, I, h⟩
theorem pts_one {X : Cx} {c : Expr} {t : TT} (h : PT X c t) : PTs X [c] t := fun pins s σ H Q I q => wpAny_tests_one (h pins s σ H Q I q)

section
variable {prog : Program} {w : World} {A : Around} {R : Result → Shared → Prop} {s : Shared}
theorem compLoop_any {elt target iter : Expr} {ifs : List Expr} {scope : Scope} {pos : Pos} {it acc : Value} {env : Env} (I : Nat → Shared → Prop)
    (turn : ∀ n s, I n s → wpAny (model prog w) A (pyNext it) (fun r s₁ => match r with
      | none => R (.ok .next) s₁
      | some v => wpAny (model prog w) A (letOwnedTupleGo target it v) (fun _ s₂ => wpAny (model prog w) A (assign target env v) (fun _ s₂ =>
          wpAny (model prog w) A (forIn ifs true fun c r => if r = true then do let ok ← isTrue c env (eval c env); pure (ForInStep.yield ok) else pure (ForInStep.yield r)) (fun ok s₃ =>
            if ok = true then wpAny (model prog w) A (eval elt env) (fun x s₄ =>
              wpAny (model prog w) A (call (.builtin "list.append") [acc, x]) (fun _ s₅ => ∃ m, m < n ∧ I m s₅) (fun _ _ => False) s₄) (fun _ _ => False) s₃
            else ∃ m, m < n ∧ I m s₃) (fun _ _ => False) s₂) (fun _ _ => False) s₂) (fun _ _ => False) s₁) (fun _ _ => False) s)
    (n : Nat) (h : I n s) :
    codeAny (model prog w) A (.compLoop (.ListComp elt [⟨target, iter, ifs, 0⟩] scope pos) 0 it acc env) R s := by
  have no : ∀ {E : Value → Shared → Prop} (e : Value) (s' : Shared), (fun _ _ => False : Value → Shared → Prop) e s' → E e s' := fun _ _ z => False.elim z
  refine codeAny_loop rfl I (fun n s hI => ?_) n h
  show wpAny _ A ((compTurn (.ListComp elt [⟨target, iter, ifs, 0⟩] scope pos) 0 it acc env).onRaise (fun x => do noteFrame x env; theTreesLotGoes x)) _ _ s
  refine wpAny_noted ?_
  rw [compTurn_list]
  refine wpAny_bind (wpAny_standAt (wpAny_bind (wpAny_mono (turn n s hI) (fun r s₁ h₁ => ?_) no)))
  cases r with
  | none => exact wpAny_pure h₁
  | some v =>
    refine wpAny_bind (wpAny_mono h₁ (fun _ s₂ h₂ => ?_) no)
    refine wpAny_bind (wpAny_mono h₂ (fun _ s₂ h₂ => wpAny_bind (wpAny_mono h₂ (fun ok s₃ h₃ => ?_) no)) no)
    cases ok with
    | false => exact wpAny_pure ⟨rfl, h₃⟩
    | true =>
      exact wpAny_bind (wpAny_bind (wpAny_mono h₃ (fun x s₄ h₄ => wpAny_bind (wpAny_mono h₄ (fun _ s₅ h₅ => wpAny_pure (wpAny_pure ⟨rfl, h₅⟩)) no)) no))
end

/-- the frame's slots behind a turn still hold what the block reads -/
def nfLe (k : Nat) (fr : List Nat) (σ σ2 : St) : Prop := σ2.length = (nfS k fr σ).length ∧ ∀ (i : Nat) (v : V), (nfS k fr σ)[i]? = some (some v) → σ2[i]? = some (some v)
theorem nfLe.refl (k : Nat) (fr : List Nat) (σ : St) : nfLe k fr σ (nfS k fr σ) := ⟨rfl, fun _ _ h => h⟩
theorem nfLe.set {k : Nat} {fr : List Nat} {σ σ2 : St} {i : Nat} (h : nfLe k fr σ σ2) (hi : i < k) (x : Option V) : nfLe k fr σ (σ2.set i x) := by
  refine ⟨by rw [List.length_set]; exact h.1, fun j v e => ?_⟩
  by_cases hj : i = j
  · subst hj
    unfold nfS at e
    rw [List.getElem?_append_left (by simpa using hi), List.getElem?_replicate, if_pos hi] at e
    cases e
  · rw [List.getElem?_set_ne hj]
    exact h.2 j v e
/-- the reading of [elt for target in iter if ..] -/
def rLC (k : Nat) (fr : List Nat) (g : TG) (tt : TT) (te : TE) (σ : St) (J : It) (H1 : Hp) (Q : Addr → Hp → Prop) : Prop :=
  ∀ D, H1 D = none → ∃ W : Nat → Nat → List V → Hp → Prop, (∃ m, W 0 m [] (upd H1 D (.lst []))) ∧ ∀ i m acc H, W i m acc H → H D = some (.lst acc) ∧
    ((J.stop i H ∧ Q D H) ∨ (J.go i H ∧ ∀ x H', J.yld i H x H' → g x (nfS k fr σ) H' fun σ2 H2 => nfLe k fr σ σ2 ∧ tt σ2 H2 fun b H3 =>
      if b = true then te σ2 H3 fun y H4 => H4 D = some (.lst acc) ∧ acc.length < sizeLine ∧ ∃ m', m' < m ∧ W (i + 1) m' (acc ++ [y]) (upd H4 D (.lst (acc ++ [y])))
      else ∃ m', m' < m ∧ W (i + 1) m' acc H3))
def tLC (wi : TI) (k : Nat) (fr : List Nat) (g : TG) (tt : TT) (te : TE) : TE := fun σ H Q => wi σ H fun J H1 => rLC k fr g tt te σ J H1 fun D H' => Q (.ref D) H'

section
variable {X : Cx} {scope : Scope} {cl : List (Str × Addr)} {own : List Str} {fr : List Nat} {N' : List Str} {tg iter elt : Expr} {ifs : List Expr} {wi : TI} {g : TG} {tt : TT} {te : TE} {pos : Pos}

/-- the block from its iterator on: RR is what is wanted behind it -/
theorem comp_block {pins : List (Addr × Obj)} {σ : St} {H : Hp} {s : Shared} {it : Addr} {fp : List Addr} {tn : Nat → Heap → Prop} {J : It} {Q : Addr → Hp → Prop} {RR : Value → Addr → Result → Shared → Prop} {E : Value → Shared → Prop}
    (hc : X.calm = true) (Z : CompN X scope cl own fr N') (hcell : ∀ y ∈ scope.names, y.2 ≠ .cell)
    (hg : ∀ C fp s H, PG (compX X scope cl C N' fp s H) tg g) (ht : ∀ C fp s H, PTs (compX X scope cl C N' fp s H) ifs tt) (he : ∀ C fp s H, PE (compX X scope cl C N' fp s H) elt te)
    (I : Inv X pins σ H s) (T : Turn X.prog X.w X.K tg J fp it tn) (st : tn 0 s.heap) (hf : ∀ b ∈ fp, FpOk X pins H b) (q : rLC own.length fr g tt te σ J H Q)
    (hRR : ∀ D C s' H' , s.heap.objs.size ≤ C → (∃ m, s'.heap.Ns C m) → H' C = none → Inv X pins σ H' s' → Q D H' → RR (.ref D) C (.ok .next) s') :
    wpAny (model X.prog X.w) X.A (newList []) (fun acc s₃ => wpAny (model X.prog X.w) X.A (newFunctionEnv scope X.env.globals cl [] X.env.qual none .none (some X.env)) (fun cenv s₄ =>
      codeAny (model X.prog X.w) X.A (.compStart (.ListComp elt [⟨tg, iter, ifs, 0⟩] scope pos) 0 (.ref it) acc { cenv with scope := relabel scope X.env }) (RR acc cenv.locals) s₄) E s₃) E s := by
  refine wpAny_newObj_type (wpAny_newFunctionEnv hcell (by intro y hy; simp at hy) (fun h₁ hns₁ hsb₁ => ?_) Z.kind)
  dsimp only at hns₁ hsb₁ ⊢
  generalize hH2 : s.heap.push { cls := .type "list", dict := none, data := .seq ([] : List Value).toArray } = H2 at hns₁ hsb₁ ⊢
  have hC : H2.objs.size = s.heap.objs.size + 1 := by rw [← hH2, Heap.size_push]
  have hCle : s.heap.objs.size ≤ H2.objs.size := by rw [hC]; exact Nat.le_succ _
  have hDC : s.heap.objs.size ≠ H2.objs.size := by rw [hC]; exact Nat.ne_of_lt (Nat.lt_succ_self _)
  have old : ∀ b o, s.heap.get? b = some o → h₁.get? b = some o := fun b o e =>
    hsb₁.extBut b o (Nat.ne_of_lt (Nat.lt_of_lt_of_le (Heap.lt_size e) hCle)) (Heap.get?_push_of_some _ (hH2 ▸ Heap.get?_push_of_some _ e))
  have hD : h₁.get? s.heap.objs.size = some { cls := .type "list", dict := none, data := .seq ([] : List Value).toArray } :=
    hsb₁.extBut _ _ hDC (Heap.get?_push_of_some _ (hH2 ▸ Heap.get?_push_size _ rfl))
  have ho := T.obj _ _ st
  have frD : H s.heap.objs.size = none := I.hok.fresh (Nat.le_refl _)
  have frC : H H2.objs.size = none := I.hok.fresh hCle
  obtain ⟨W, ⟨m0, w0⟩, turn⟩ := q s.heap.objs.size frD
  have hok1 : HOk X.prog X.w (upd H s.heap.objs.size (.lst [])) h₁ := I.hok.laid old (Nat.le_refl _) ⟨Nat.zero_le _, [], 0, .nil, hD⟩
  have un1 : Un (frs X.stack) fp H (upd H s.heap.objs.size (.lst [])) s.heap h₁ := Un.laid old (Nat.le_refl _) frD
  have C1 : upd H s.heap.objs.size (.lst []) H2.objs.size = none := by rw [upd_ne (Ne.symm hDC)]; exact frC
  have fpD : ∀ b ∈ fp, b ≠ s.heap.objs.size := fun b hb z => by
    obtain ⟨o, e, _⟩ := ho b hb
    exact absurd (Heap.lt_size e) (by rw [z]; exact Nat.lt_irrefl _)
  have J0 : ∀ t, 0 < t → Inv (compX X scope cl H2.objs.size N' fp s H) [] (nfS own.length fr σ) (upd H s.heap.objs.size (.lst [])) { s with heap := h₁, toks := t } := fun t ht =>
    comp_inv I Z hCle hf ho rfl I.bare un1 ⟨_, hns₁⟩ (fun x c v e ⟨o, e1, e2⟩ => ⟨o, old c o e1, e2⟩) C1 hok1 ht
  have st1 : tn 0 h₁ := T.keep _ _ _ st fun b _ o e => old b o e
  have loop : ∀ s₃ : Shared, s₃ = { s with heap := h₁, toks := s.toks + ([] : List (Str × Value)).length } →
      codeAny (model X.prog X.w) X.A (.compLoop (.ListComp elt [⟨tg, iter, ifs, 0⟩] scope pos) 0 (.ref it) (.ref s.heap.objs.size) (compEnvC scope cl H2.objs.size X.env)) (RR (.ref s.heap.objs.size) H2.objs.size) s₃ := by
    rintro s₃ rfl
    generalize hX : compX X scope cl H2.objs.size N' fp s H = X' at J0
    have hg' : PG X' tg g := by rw [← hX]; exact hg _ _ _ _
    have ht' : PTs X' ifs tt := by rw [← hX]; exact ht _ _ _ _
    have he' : PE X' elt te := by rw [← hX]; exact he _ _ _ _
    have eP : X'.prog = X.prog := by rw [← hX]
    have eW : X'.w = X.w := by rw [← hX]
    have eK : X'.K = X.K := by rw [← hX]
    have eA : X'.A = X.A := by rw [← hX]
    have eE : X'.env = compEnvC scope cl H2.objs.size X.env := by rw [← hX]
    have eX : X'.xe = fun _ _ => False := by rw [← hX]
    have eC : X'.calm = true := by rw [← hX]; exact hc
    have fpX : ∀ {H' : Hp}, (∀ b ∈ fp, H' b = none) → ∀ b ∈ fp, FpOk X' [] H' b := fun hn b hb => by
      rw [← hX]
      have ok := comp_ok I Z hCle hf ho
      refine ⟨hn b hb, (ok.exf b hb).1, ok.exfs b hb, .inl hb, (ok.exf b hb).2, fun p hp => absurd (show p ∈ ([] : List (Addr × Obj)) from hp) (by simp)⟩
    refine compLoop_any (fun n s' => ∃ i acc H', Inv X' [] (nfS own.length fr σ) H' s' ∧ tn i s'.heap ∧ (∀ b ∈ fp, H' b = none) ∧ W i n acc H') ?_ m0 ⟨0, [], _, J0 _ (by have := I.tk; omega), st1, fun b hb => by rw [upd_ne (fpD b hb)]; exact (hf b hb).1, w0⟩
    rintro n s3 ⟨i, acc, H3, I3, st3, fr3, w3⟩
    obtain ⟨hDa, turn3⟩ := turn i n acc H3 w3
    rcases turn3 with ⟨stop, qn⟩ | ⟨go, step⟩
    · have := T.done X' eP eW eK eC i [] s3 _ H3 (fun _ _ => False) I3 (fpX fr3) st3 stop
      rw [eA] at this
      refine thn this fun r s4 ⟨hr, I4⟩ => ?_
      subst hr
      show RR _ _ _ _
      have I4' : Inv (compX X scope cl H2.objs.size N' fp s H) [] (nfS own.length fr σ) H3 s4 := by rw [hX]; exact I4
      obtain ⟨m, hm, _⟩ := I4'.loc
      exact hRR _ _ s4 H3 hCle ⟨m, hm⟩ I4'.free (comp_out I hf I4') qn
    · have := T.item X' eP eW eK eC i [] s3 _ H3 (fun _ _ => False) I3 (fpX fr3) st3 go
      rw [eA] at this
      refine thn this fun r s4 ⟨u, hr, h4⟩ => ?_
      subst hr
      show wpAny _ _ (letOwnedTupleGo tg (.ref it) u) _ _ s4
      refine thn h4 fun _ s5 ⟨x, H5, I5, r5, y5, st5, fr5⟩ => ?_
      have I5' := I5.pinned (fpX fr5) (T.obj _ _ st5)
      have back : ∀ {σ7 : St} {H7 : Hp} {s7 : Shared}, Inv X' ([] ++ pinsAt fp s5.heap) σ7 H7 s7 → tn (i + 1) s7.heap ∧ ∀ b ∈ fp, H7 b = none := fun {σ7 H7 s7} I7 => by
        refine ⟨T.keep _ _ _ st5 fun b hb o e => (I7.pin (b, o) (List.mem_append_right _ (List.mem_append_right _ (mem_pinsAt hb e)))).1, fun b hb => ?_⟩
        obtain ⟨o, e, d⟩ := T.obj _ _ st5 b hb
        exact (I7.pin (b, o) (List.mem_append_right _ (List.mem_append_right _ (mem_pinsAt hb e)))).2.1
      have g5 := hg' _ s5 _ H5 x u _ I5' r5 (step x H5 y5)
      rw [eP, eW, eA, eE, eX] at g5
      refine thn g5 fun _ s6 ⟨σ6, H6, I6, nf6, q6⟩ => ?_
      have t6 := ht' _ s6 σ6 H6 _ I6 q6
      rw [eP, eW, eA, eE, eX] at t6
      refine thn t6 fun ok s7 ⟨H7, I7, q7⟩ => ?_
      have again : ∀ {H8 : Hp} {s8 : Shared} {acc8 : List V}, Inv X' ([] ++ pinsAt fp s5.heap) σ6 H8 s8 → (∃ m', m' < n ∧ W (i + 1) m' acc8 H8) →
          ∃ m, m < n ∧ ∃ i acc H', Inv X' [] (nfS own.length fr σ) H' s8 ∧ tn i s8.heap ∧ (∀ b ∈ fp, H' b = none) ∧ W i m acc H' := fun {H8 s8 acc8} I8 ⟨m', hm, w8⟩ =>
        ⟨m', hm, i + 1, acc8, H8, I8.unpinned.weak nf6.1.symm nf6.2, (back I8).1, (back I8).2, w8⟩
      cases ok with
      | false =>
        have q7' : ∃ m', m' < n ∧ W (i + 1) m' acc H7 := by rw [if_neg Bool.false_ne_true] at q7; exact q7
        show if false = true then _ else _
        rw [if_neg Bool.false_ne_true]
        exact again I7 q7'
      | true =>
        rw [if_pos rfl] at q7
        show if true = true then _ else _
        rw [if_pos rfl]
        have e7 := he' _ s7 σ6 H7 _ I7 q7
        rw [eP, eW, eA, eE, eX] at e7
        refine thn e7 fun yv s8 ⟨y, H8, I8, r8, hD8, hz8, m', hm, w8⟩ => ?_
        have a8 := mt_append _ s8 σ6 H8 (.ref s.heap.objs.size) [y] (.ref s.heap.objs.size) [yv] (fun _ H9 => H9 = upd H8 s.heap.objs.size (.lst (acc ++ [y]))) I8 rfl (.cons r8 .nil) ⟨_, acc, y, rfl, rfl, hD8, hz8, rfl⟩
        rw [eP, eW, eA, eX] at a8
        refine thn a8 fun _ s9 ⟨_, H9, I9, _, e9⟩ => ?_
        subst e9
        exact again I9 ⟨m', hm, w8⟩
  exact codeAny_compStart_list (loop _ rfl) (T.self _ 0 _ _ _ st1 (loop _ rfl))

theorem pe_lc (hc : X.calm = true) (Z : CompN X scope cl own fr N') (hcell : ∀ y ∈ scope.names, y.2 ≠ .cell) (hnames : ∀ x ∈ scope.names, x.2 = .local → scope.names.lookup x.1 = some .local) (hclos : closureFor scope X.env = pure cl)
    (hi : PI X tg iter wi) (hg : ∀ C fp s H, PG (compX X scope cl C N' fp s H) tg g) (ht : ∀ C fp s H, PTs (compX X scope cl C N' fp s H) ifs tt) (he : ∀ C fp s H, PE (compX X scope cl C N' fp s H) elt te)
    (hs : ∀ x, foldedSetIterable iter X.env x = pure x := by intro _; rfl) : PE X (.ListComp elt [⟨tg, iter, ifs, 0⟩] scope pos) (tLC wi own.length fr g tt te) := by
  intro pins s σ H Q I h
  rw [eval_ListComp]
  refine wpAny_comprehension_free (use := none) rfl hs hclos Z.kind hnames (thn (hi pins s σ H _ I h) fun v s1 h1 => thn h1 fun itv s2 h2 => ?_)
  obtain ⟨it, fp, tn, J, H2, e, I2, T, st2, f2, q2⟩ := h2
  subst e
  refine comp_block hc Z hcell hg ht he I2 T st2 f2 q2 (RR := fun acc C => compPost (model X.prog X.w) X.A X.xe none (EP X pins σ Q) acc C) fun D C s' H' hC ⟨m, hm⟩ fC I' q' => ?_
  exact ⟨m, hm, fun h' hs' => ⟨.ref D, H', comp_gone I2 hC I' fC hs', rfl, q'⟩⟩
/-- x = [..], x a plain local name, on one row: the stores are exchanged -/
def tSetLC (i : Nat) (wi : TI) (k : Nat) (fr : List Nat) (g : TG) (tt : TT) (te : TE) : TS := fun D σ H => wi σ H fun J H1 => rLC k fr g tt te σ J H1 fun a H' => D.nx (σ.set i (some (.ref a))) H'
theorem ps_setlc {i : Nat} {x : Str} {pos' spos : Pos} (hN : X.N.Nodup) (hix : X.N[i]? = some x) (hx : X.env.scope.names.lookup x = some .local) (hc : X.calm = true) (Z : CompN X scope cl own fr N') (hcell : ∀ y ∈ scope.names, y.2 ≠ .cell)
    (hnames : ∀ x ∈ scope.names, x.2 = .local → scope.names.lookup x.1 = some .local) (hclos : closureFor scope X.env = pure cl)
    (hi : PI X tg iter wi) (hg : ∀ C fp s H, PG (compX X scope cl C N' fp s H) tg g) (ht : ∀ C fp s H, PTs (compX X scope cl C N' fp s H) ifs tt) (he : ∀ C fp s H, PE (compX X scope cl C N' fp s H) elt te)
    (hs : ∀ x, foldedSetIterable iter X.env x = pure x := by intro _; rfl) (hsw : swapsWith (.ListComp elt [⟨tg, iter, ifs, 0⟩] scope pos) (some (.Name x pos')) spos.line X.env = pure true := by rfl) :
    PS X (.Assign [.Name x pos'] (.ListComp elt [⟨tg, iter, ifs, 0⟩] scope pos) spos) (tSetLC i wi own.length fr g tt te) := by
  intro pins s σ H D I h
  rw [exec_Assign_Name_used _ _ _ _ hsw]
  refine wpAny_bind (wpAny_standAt (wpAny_bind ?_))
  show wpAny _ X.A (do let _ ← comprehension (.ListComp elt [⟨tg, iter, ifs, 0⟩] scope pos) scope X.env _ (newList []) false (eval iter X.env) (some (assign (.Name x pos') X.env))) _ _ s
  refine wpAny_bind (wpAny_mono (wpAny_comprehension_free (use := some (assign (.Name x pos') X.env)) (Q := fun _ s' => SP X pins D .next s') rfl hs hclos Z.kind hnames
    (thn (hi pins s σ H _ I h) fun v s1 h1 => thn h1 fun itv s2 h2 => ?_)) (fun _ s' hq => wpAny_pure (wpAny_pure hq)) fun _ _ e => e)
  obtain ⟨it, fp, tn, J, H2, e, I2, T, st2, f2, q2⟩ := h2
  subst e
  refine comp_block hc Z hcell hg ht he I2 T st2 f2 q2 (RR := fun acc C => compPost (model X.prog X.w) X.A X.xe (some (assign (.Name x pos') X.env)) (fun _ s' => SP X pins D .next s') acc C) fun a C s' H' hC ⟨m, hm⟩ fC I' q' => ?_
  show wpAny _ _ (assign (.Name x pos') X.env (.ref a)) _ _ s'
  have neC : ∀ b, b = X.env.locals ∨ X.env.cells.lookup x = some b → C ≠ b := fun b hb z => by
    subst z
    rcases hb with e | e
    · exact Nat.ne_of_gt (Nat.lt_of_lt_of_le I2.lt hC) e
    · obtain ⟨v, q⟩ := I2.cell x C e
      exact absurd (Nat.lt_of_lt_of_le q.lt hC) (Nat.lt_irrefl _)
  refine wpAny_assign_Name (store_ok2 I' hN hix (.inl hx) (v := .ref a) rfl (fun s'' I'' ⟨b, sb, eb⟩ => ?_) (.inr hx))
  refine ⟨m, hm.sameBut sb (neC b eb), fun h' hs' => ⟨_, H', comp_gone I2 hC I'' fC hs', q'⟩⟩
end
end L2

set_option Elab.async false
set_option linter.all false
set_option maxRecDepth 100000
/-! Rules for texts over the layer. -/
namespace L2
open PySem PySem.Spec PyProof.Rows
open Builtin Builtin.Str

section
variable {X : Cx}

theorem vals_str : ∀ {ys : List Str} {us : List Value}, Vals (ys.map V.str) us → ∃ l : List (Str × Tok), us = strValues l ∧ l.map (·.1) = ys
  | [], us, r => by
    rw [List.map_nil] at r
    cases r
    exact ⟨[], rfl, rfl⟩
  | y :: ys, us, r => by
    rw [List.map_cons] at r
    cases r with
    | cons r1 r2 =>
      obtain ⟨t, e⟩ := r1
      obtain ⟨l, e1, e2⟩ := vals_str r2
      subst e
      subst e1
      exact ⟨(y, t) :: l, rfl, by rw [List.map_cons, e2]⟩

/-! ### split -/

/-! ### join -/
def rJoin (K : PySem.W.Frag) : V → List V → Hp → VK → Prop := fun x vs H Q => ∃ z a ys, x = .str z ∧ vs = [.ref a] ∧ SqL K H a (ys.map V.str) ∧ (ys.map (·.length)).sum + ys.length * z.length ≤ sizeLine ∧ Q (.str (Txt.join z ys)) H
theorem join_fold (z : Str) : ∀ (ys : List Str) (n : Nat), ys.foldl (fun (n : Nat) (s : Str) => n + s.length + z.length) n = n + ((ys.map (·.length)).sum + ys.length * z.length)
  | [], n => by simp
  | y :: ys, n => by
    rw [List.foldl_cons, join_fold z ys, List.map_cons, List.sum_cons, List.length_cons, Nat.succ_mul]
    omega
theorem mt_join : MtR X "str.join" (rJoin X.K) := by
  intro pins s σ H x vs v us Q I rx rv h
  obtain ⟨z, a, ys, rfl, rfl, hq, hz, q⟩ := h
  obtain ⟨t, rfl⟩ := rx
  obtain ⟨u, rfl, ru⟩ := rv.one
  cases ru
  obtain ⟨its, r, pl, hn⟩ := I.list hq
  obtain ⟨l, rfl, e⟩ := vals_str r
  refine wpAny_with_toks (n := 1) I.tk (SC.join (texts := ys) pl.isList e ?_ fun t' k htk => ⟨.str (Txt.join z ys), H, I.tok _ htk, ⟨_, rfl⟩, q⟩)
  unfold JoinOk tooLong
  rw [← Array.foldl_toList, List.toList_toArray, join_fold, Nat.zero_add]
  simpa using hz

/-! ### strip, startswith, find, lower -/
def rS2 (f : Str → Str → V) : V → List V → Hp → VK → Prop := fun x vs H Q => ∃ z y, x = .str z ∧ vs = [.str y] ∧ z.length ≤ sizeLine ∧ Q (f z y) H
theorem mt_rstrip : MtR X "str.rstrip" (rS2 fun z y => .str (Txt.rstripChars z y)) := by
  intro pins s σ H x vs v us Q I rx rv h
  obtain ⟨z, y, rfl, rfl, hz, q⟩ := h
  obtain ⟨t, rfl⟩ := rx
  obtain ⟨u, rfl, t2, rfl⟩ := rv.one
  exact wpAny_with_toks (n := 1) I.tk (SC.rstripChars (fun t' k htk => ⟨.str _, H, I.tok _ htk, ⟨_, rfl⟩, q⟩) hz)
theorem mt_strip : MtR X "str.strip" (rS2 fun z y => .str (Txt.stripChars z y)) := by
  intro pins s σ H x vs v us Q I rx rv h
  obtain ⟨z, y, rfl, rfl, hz, q⟩ := h
  obtain ⟨t, rfl⟩ := rx
  obtain ⟨u, rfl, t2, rfl⟩ := rv.one
  exact wpAny_with_toks (n := 1) I.tk (SC.stripChars (fun t' k htk => ⟨.str _, H, I.tok _ htk, ⟨_, rfl⟩, q⟩) hz)

/-! ### replace, both arguments written texts -/

/-! ### text * number -/
theorem op_mul_str : OpR X (binaryOp .Mult) (fun x y H Q => ∃ z n, x = .str z ∧ y = .int n ∧ z.length = 1 ∧ 0 ≤ n ∧ n ≤ 1000 ∧ Q (.str (Txt.mul z n)) H) := by
  intro pins s σ H x y v u Q I rx ry h
  obtain ⟨z, n, rfl, rfl, hz, h0, h1, q⟩ := h
  obtain ⟨t, rfl⟩ := rx
  obtain ⟨t', rfl⟩ := ry
  refine wpAny_with_toks (n := 1) I.tk (SB.mul ?_ fun t' k htk => ⟨.str (Txt.mul z n), H, I.tok _ htk, ⟨_, rfl⟩, q⟩)
  have hs : sizeLine = 16777216 := sizeLine_eq
  refine ⟨?_, fun _ _ => ?_, fun _ _ => ?_⟩
  · have e1 : decide (n < -(2 ^ 63 : Int)) = false := decide_eq_false (by omega)
    have e2 : decide (n ≥ 2 ^ 63) = false := decide_eq_false (by omega)
    rw [e1, e2]; rfl
  · rw [hz]
    have hn : n = 0 ∨ 0 < n := by omega
    intro q
    have h9 : (2 ^ 63 - 1 : Int) / n ≥ 1 := by
      rename_i a _
      have hp : 0 < n := by omega
      exact (Int.le_ediv_iff_mul_le hp).mpr (by omega)
    omega
  · unfold tooLong
    rw [hz]
    exact decide_eq_false (by omega)

/-! ### slices of a text -/
def rSlS : V → Option Int → Option Int → Hp → VK → Prop := fun x lo hi H Q => ∃ z, x = .str z ∧ z.length ≤ sizeLine ∧ Q (.str (Txt.slice z lo hi)) H
theorem sl_str : SlR X rSlS := by
  intro pins s σ H x v vl vu lo hi sl Q I rx hs pl pu h
  obtain ⟨z, rfl, hz, q⟩ := h
  obtain ⟨t, rfl⟩ := rx
  refine ⟨"str", _, F.slot_str_getitem.lookup, typeIs_str _ _ _, ?_⟩
  have fin : ∀ (l u : Option (Int × Tok)), l.map (·.1) = lo → u.map (·.1) = hi → (sliceMade z t l u none).post (EP X pins σ Q) s := by
    intro l u el eu
    subst el eu
    unfold sliceMade
    unfold Txt.slice at q
    have e : slicePicked z l u none = strSliceIndices (l.map (·.1)) (u.map (·.1)) 1 z.length := rfl
    rw [e]
    show (if ((1 : Int) == 1 && (strSliceIndices (l.map (·.1)) (u.map (·.1)) 1 z.length).length == z.length) = true then Made.val (.str z t) else Made.str ⟨((strSliceIndices (l.map (·.1)) (u.map (·.1)) 1 z.length).filterMap (z.cps[·]?)).toArray⟩).post (EP X pins σ Q) s
    by_cases c : (((1 : Int) == 1 && (strSliceIndices (l.map (·.1)) (u.map (·.1)) 1 z.length).length == z.length)) = true
    · rw [if_pos c]
      rw [if_pos c] at q
      exact ⟨.str z, H, I, ⟨_, rfl⟩, q⟩
    · rw [if_neg c]
      rw [if_neg c] at q
      have hl := Txt.slice_le z (l.map (·.1)) (u.map (·.1))
      unfold Txt.slice at hl
      rw [if_neg c] at hl
      exact ⟨Nat.le_trans hl hz, .str _, H, I.tok _, ⟨_, rfl⟩, q⟩
  have go : ∀ (l u : Option (Int × Tok)), vl = partValue l → vu = partValue u → l.map (·.1) = lo → u.map (·.1) = hi → wpAny (model X.prog X.w) X.A (getItem (.str z t) (.ref sl)) (EP X pins σ Q) X.xe s := by
    intro l u e1 e2 e3 e4
    subst e1 e2
    exact wpAny_getItem_str_slice (l := l) (u := u) (st := none) hs rfl (fin l u e3 e4)
  cases pl with
  | none => cases pu with
    | none => exact go none none rfl rfl rfl rfl
    | int j tj => exact go none (some (j, tj)) rfl rfl rfl rfl
  | int i ti => cases pu with
    | none => exact go (some (i, ti)) none rfl rfl rfl rfl
    | int j tj => exact go (some (i, ti)) (some (j, tj)) rfl rfl rfl rfl

/-! ### a text walked sign by sign -/

/-! ### all of a list of truths -/
theorem vals_bl_get : ∀ {bs : List Bool} {us : List Value} {i : Nat} {v : Value}, Vals (bs.map V.bl) us → us[i]? = some v → ∃ b, bs[i]? = some b ∧ v = .bool b
  | [], _, _, _, r, e => by
    rw [List.map_nil] at r
    cases r
    simp at e
  | b :: bs, us, i, v, r, e => by
    rw [List.map_cons] at r
    cases r with
    | cons r1 r2 =>
      cases i with
      | zero =>
        simp at e
        subst e
        exact ⟨b, rfl, r1⟩
      | succ i =>
        obtain ⟨c, h1, h2⟩ := vals_bl_get (i := i) r2 (by simpa using e)
        exact ⟨c, by simpa using h1, h2⟩
theorem all_range (bs : List Bool) : ((List.range bs.length).all fun i => bs.getD i true) = bs.all id := by
  rw [Bool.eq_iff_iff, List.all_eq_true, List.all_eq_true]
  constructor
  · intro h b hb
    obtain ⟨i, hi, rfl⟩ := List.getElem_of_mem hb
    have := h i (List.mem_range.mpr hi)
    rw [List.getD_eq_getElem?_getD, List.getElem?_eq_getElem hi] at this
    exact this
  · intro h i hi
    have hi' := List.mem_range.mp hi
    rw [List.getD_eq_getElem?_getD, List.getElem?_eq_getElem hi']
    exact h _ (List.getElem_mem hi')
theorem call_all (hc : X.calm = true) : CallR X (.builtin "all") (fun xs H Q => ∃ (a : Addr) (bs : List Bool), xs = [.ref a] ∧ SqL X.K H a (bs.map V.bl) ∧ Q (.bl (bs.all id)) H) := by
  intro pins s σ H xs us Q I r h
  obtain ⟨a, bs, rfl, hq, q⟩ := h
  obtain ⟨u, rfl, rx⟩ := vals1 r
  cases rx
  obtain ⟨its, r', pl, hz⟩ := I.list hq
  have hlen : its.toArray.size = bs.length := by
    have := r'.length
    rw [List.length_map] at this
    rw [List.size_toArray, this]
  have lt : a < s.heap.objs.size := by
    obtain ⟨o, n, e, _⟩ := pl
    exact Heap.lt_size e
  refine wpAny_with_toks (n := 1) I.tk (call_all_walk ?_)
  refine wpAny_pyIter_list pl.isList ?_
  refine ⟨s.heap.objs.size, _, _, _, _, _, fun i => bs.getD i true, rfl, Walks.list (A := X.A.in1) (I.ok.hd hc) s.heap.objs.size a (Nat.ne_of_lt lt) its.toArray, ⟨⟨_, Heap.get?_push_size _ rfl, rfl, rfl⟩, ?_⟩, ?_, fun h' tk kp htk => ?_⟩
  · obtain ⟨o, n, e, c, _, d⟩ := pl
    exact ⟨o, Heap.get?_push_of_some _ e, c, n, d⟩
  · intro i v s' Q' E' hP hQ
    have hP' : its[i]? = some v := by simpa using hP
    obtain ⟨b, hb, rfl⟩ := vals_bl_get r' hP'
    have hQ' : Q' (bs.getD i true) s' := hQ
    rw [List.getD_eq_getElem?_getD, hb] at hQ'
    exact wpAny_truthy_bool hQ'
  · rw [hlen, all_range]
    refine ⟨.bl _, H, I.kept (fun b o e => kp b o ?_ (Heap.get?_push_of_some _ e)) htk, rfl, q⟩
    simp only [List.mem_singleton]
    exact Nat.ne_of_lt (Heap.lt_size e)
end

/-! ### values as data -/
mutual
inductive Den (K : PySem.W.Frag) (H : Hp) : V → PyData → Prop where
  | non : Den K H .non .none
  | bl (b : Bool) : Den K H (.bl b) (.bool b)
  | int (i : Int) : Den K H (.int i) (.int i)
  | str (x : Str) (h : PyData.strOk x = true) : Den K H (.str x) (.str x)
  | lst {a : Addr} {xs : List V} {ds : List PyData} : SqL K H a xs → DenAll K H xs ds → Den K H (.ref a) (.list ds)
  | tup {a : Addr} {xs : List V} {ds : List PyData} : SqT K H a xs → DenAll K H xs ds → Den K H (.ref a) (.tuple ds)
inductive DenAll (K : PySem.W.Frag) (H : Hp) : List V → List PyData → Prop where
  | nil : DenAll K H [] []
  | cons {x : V} {xs : List V} {d : PyData} {ds : List PyData} : Den K H x d → DenAll K H xs ds → DenAll K H (x :: xs) (d :: ds)
end

section
variable {X : Cx} {pins : List (Addr × Obj)} {σ : St} {H : Hp} {s : Shared}
mutual
theorem Den.reads (I : Inv X pins σ H s) : ∀ {x : V} {d : PyData} {u : Value}, Den X.K H x d → RelV x u → ∃ as, Reads s.heap u d as
  | _, _, _, .non, r => by cases r; exact ⟨_, .none⟩
  | _, _, _, .bl b, r => by cases r; exact ⟨_, .bool b⟩
  | _, _, _, .int i, r => by obtain ⟨t, rfl⟩ := r; exact ⟨_, .int i t⟩
  | _, _, _, .str x _, r => by obtain ⟨t, rfl⟩ := r; exact ⟨_, .str x t⟩
  | _, _, _, .lst hq hd, r => by
    cases r
    obtain ⟨its, rv, ⟨o, n, e, c, _, d⟩, _⟩ := I.list hq
    obtain ⟨as, ra⟩ := DenAll.reads I hd rv
    exact ⟨_, .list e c d (by simpa using ra)⟩
  | _, _, _, .tup hq hd, r => by
    cases r
    obtain ⟨its, rv, ⟨o, e, c, n, d⟩, _⟩ := I.tuple hq
    obtain ⟨as, ra⟩ := DenAll.reads I hd rv
    exact ⟨_, .tuple e c d (by simpa using ra)⟩
theorem DenAll.reads (I : Inv X pins σ H s) : ∀ {xs : List V} {ds : List PyData} {us : List Value}, DenAll X.K H xs ds → Vals xs us → ∃ as, ReadsAll s.heap us ds as
  | _, _, _, .nil, r => by cases r; exact ⟨_, .nil⟩
  | _, _, _, .cons h hs, r => by
    cases r with
    | cons r1 r2 =>
      obtain ⟨as, a⟩ := Den.reads I h r1
      obtain ⟨bs, b⟩ := DenAll.reads I hs r2
      exact ⟨_, .cons a b⟩
end
end
mutual
theorem eqv_refl : ∀ d : PyData, d.canLay0 = true → PyData.eqv d d = true
  | .none, _ => rfl
  | .bool b, _ => by simp [PyData.eqv]
  | .int i, _ => by simp [PyData.eqv]
  | .str x, _ => by simp [PyData.eqv]
  | .list xs, h => by simp only [PyData.eqv]; exact eqvAll_refl xs (by simpa [PyData.canLay0] using h)
  | .tuple xs, h => by simp only [PyData.eqv]; exact eqvAll_refl xs (by simpa [PyData.canLay0] using h)
  | .dict _, h => by simp [PyData.canLay0] at h
theorem eqvAll_refl : ∀ ds : List PyData, PyData.canLayAll0 ds = true → PyData.eqvAll ds ds = true
  | [], _ => rfl
  | d :: ds, h => by
    simp only [PyData.canLayAll0, Bool.and_eq_true] at h
    simp only [PyData.eqvAll, Bool.and_eq_true]
    exact ⟨eqv_refl d h.1, eqvAll_refl ds h.2⟩
end
mutual
theorem Den.lay {K : PySem.W.Frag} {H : Hp} : ∀ {x : V} {d : PyData}, Den K H x d → d.canLay0 = true
  | _, _, .non => rfl
  | _, _, .bl _ => rfl
  | _, _, .int _ => rfl
  | _, _, .str _ h => h
  | _, _, .lst _ h => by simp only [PyData.canLay0]; exact h.lay
  | _, _, .tup _ h => by simp only [PyData.canLay0]; exact h.lay
theorem DenAll.lay {K : PySem.W.Frag} {H : Hp} : ∀ {xs : List V} {ds : List PyData}, DenAll K H xs ds → PyData.canLayAll0 ds = true
  | _, _, .nil => rfl
  | _, _, .cons h hs => by simp only [PyData.canLayAll0, Bool.and_eq_true]; exact ⟨h.lay, hs.lay⟩
end
section
variable {X : Cx}
/-- two things of one datum -/
def rEqD (K : PySem.W.Frag) (k : Bool) : R2 := fun x y H Q => ∃ d, Den K H x d ∧ Den K H y d ∧ d.depth ≤ 6 ∧ Q (.bl k) H
theorem op_eqD (hu : X.A.units + 64 < cLine) : OpR X (compareOp .Eq) (rEqD X.K true) := by
  intro pins s σ H x y v u Q I rx ry h
  obtain ⟨d, dx, dy, hd, q⟩ := h
  obtain ⟨as, ra⟩ := dx.reads I rx
  obtain ⟨bs, rb⟩ := dy.reads I ry
  have hs : SeqAt.shaped d = true := by
    unfold SeqAt.shaped
    rw [dx.lay, Bool.true_and]
    exact decide_eq_true (Nat.le_trans hd (by decide))
  refine eq_dataH ra rb hs hs hu ?_
  rw [eqv_refl d dx.lay]
  exact ⟨.bl true, H, I, rfl, q⟩
theorem op_neD (hu : X.A.units + 64 < cLine) : OpR X (compareOp .NotEq) (rEqD X.K false) := by
  intro pins s σ H x y v u Q I rx ry h
  obtain ⟨d, dx, dy, hd, q⟩ := h
  obtain ⟨as, ra⟩ := dx.reads I rx
  obtain ⟨bs, rb⟩ := dy.reads I ry
  have hs : SeqAt.shaped d = true := by
    unfold SeqAt.shaped
    rw [dx.lay, Bool.true_and]
    exact decide_eq_true (Nat.le_trans hd (by decide))
  refine ne_dataH ra rb hs hs hu ?_
  rw [eqv_refl d dx.lay]
  exact ⟨.bl false, H, I, rfl, q⟩
end

/-! ### comprehensions over lists and numbers, nothing changed by them -/
theorem same_new {H : Hp} {p : Addr} (h : H p = none) (o : HO) : Same H (upd H p o) := fun b u q => by rw [upd_ne (ne_of_none q h)]; exact q
/-- what stood ahead of the list that grows -/
theorem same_grow {H H' : Hp} {D : Addr} {o : HO} (hD : H D = none) (e : Same H H') : Same H (upd H' D o) := fun b u q => by
  rw [upd_ne (ne_of_none q hD)]
  exact e b u q
theorem lc_seq {J : It} {xs : List V} {k : Nat} {fr : List Nat} {g : TG} {tt : TT} {te : TE} {σ : St} {H0 : Hp} {Q : Addr → Hp → Prop} (p : V → Bool) (f : V → V) (hl : xs.length ≤ sizeLine)
    (hgo : ∀ i H, Same H0 H → i < xs.length → J.go i H) (hyl : ∀ i H x H', i < xs.length → Same H0 H → J.yld i H x H' → H' = H ∧ xs[i]? = some x) (hst : ∀ i H, Same H0 H → xs.length ≤ i → J.stop i H)
    (ht : ∀ x ∈ xs, ∀ H', Same H0 H' → ∀ (C : V → Hp → Prop) (N : Hp → Prop), (∀ H4, Same H' H4 → p x = true → C (f x) H4) → (∀ H3, Same H' H3 → p x = false → N H3) →
      g x (nfS k fr σ) H' fun σ2 H2 => nfLe k fr σ σ2 ∧ tt σ2 H2 fun b H3 => if b = true then te σ2 H3 C else N H3)
    (hq : ∀ D H', H0 D = none → Same H0 H' → H' D = some (.lst ((xs.filter p).map f)) → Q D H') : rLC k fr g tt te σ J H0 Q := by
  intro D hD
  refine ⟨fun i m acc H => m = xs.length - i ∧ i ≤ xs.length ∧ acc = ((xs.take i).filter p).map f ∧ H D = some (.lst acc) ∧ Same H0 H, ⟨xs.length, by simp, Nat.zero_le _, by simp, upd_same, same_new hD _⟩, ?_⟩
  rintro i m acc H ⟨rfl, hi, rfl, hDa, sm⟩
  refine ⟨hDa, ?_⟩
  by_cases hlt : i < xs.length
  · refine .inr ⟨hgo i H sm hlt, fun x H' y => ?_⟩
    obtain ⟨e, hxi⟩ := hyl i H x H' hlt sm y
    subst e
    have hmem : x ∈ xs := List.mem_of_getElem? hxi
    have htk := take_succ_filter p xs i x hxi
    refine ht x hmem H' sm _ _ (fun H4 s4 hp => ?_) (fun H3 s3 hp => ?_)
    · refine ⟨s4 _ _ hDa, ?_, xs.length - (i + 1), by omega, rfl, hlt, ?_, upd_same, ?_⟩
      · rw [List.length_map]
        have := List.length_filter_le p (xs.take i)
        rw [List.length_take] at this
        omega
      · rw [htk, hp]; simp
      · exact same_grow hD (sm.trans s4)
    · refine ⟨xs.length - (i + 1), by omega, rfl, hlt, ?_, s3 _ _ hDa, sm.trans s3⟩
      rw [htk, hp]; simp
  · have e : i = xs.length := by omega
    subst e
    rw [List.take_length] at hDa ⊢
    exact .inl ⟨hst _ H sm (Nat.le_refl _), hq D H hD sm hDa⟩
theorem lc_list {K : PySem.W.Frag} {a : Addr} {xs : List V} {k : Nat} {fr : List Nat} {g : TG} {tt : TT} {te : TE} {σ : St} {H0 : Hp} {Q : Addr → Hp → Prop} (p : V → Bool) (f : V → V) (hx : SqL K H0 a xs) (hl : xs.length ≤ sizeLine)
    (ht : ∀ x ∈ xs, ∀ H', Same H0 H' → ∀ (C : V → Hp → Prop) (N : Hp → Prop), (∀ H4, Same H' H4 → p x = true → C (f x) H4) → (∀ H3, Same H' H3 → p x = false → N H3) →
      g x (nfS k fr σ) H' fun σ2 H2 => nfLe k fr σ σ2 ∧ tt σ2 H2 fun b H3 => if b = true then te σ2 H3 C else N H3)
    (hq : ∀ D H', H0 D = none → Same H0 H' → H' D = some (.lst ((xs.filter p).map f)) → Q D H') : rLC k fr g tt te σ (Itl K a) H0 Q :=
  lc_seq p f hl (fun i H sm hi => ⟨xs, xs[i], sm.seq hx, by simp [hi]⟩) (fun i H x H' _ sm y => ⟨y.1, by obtain ⟨e, y⟩ := y; exact y xs (sm.seq hx)⟩) (fun i H sm hi => ⟨xs, sm.seq hx, hi⟩) ht hq

/-! ### the names of a block, shown by computation -/
def FreeOk (X : Cx) (scope : Scope) (N' : List Str) : Nat → List Nat → List Str → Prop
  | _, [], [] => True
  | k, j :: fr, x :: xs => X.N[j]? = some x ∧ N'[k]? = some x ∧ (X.env.kindOf x = some .cell ∨ X.env.kindOf x = some .free) ∧
      ((relabel scope X.env).names.lookup x = some .cell ∨ (relabel scope X.env).names.lookup x = some .free) ∧ FreeOk X scope N' (k + 1) fr xs
  | _, _, _ => False
theorem FreeOk.get {X : Cx} {scope : Scope} {N' : List Str} : ∀ {k : Nat} {fr : List Nat} {xs : List Str}, FreeOk X scope N' k fr xs → ∀ (i j : Nat), fr[i]? = some j → ∃ x, X.N[j]? = some x ∧ N'[k + i]? = some x ∧
    (X.env.kindOf x = some .cell ∨ X.env.kindOf x = some .free) ∧ ((relabel scope X.env).names.lookup x = some .cell ∨ (relabel scope X.env).names.lookup x = some .free)
  | _, [], [], _, i, j, e => by simp at e
  | _, [], _ :: _, h, _, _, _ => h.elim
  | _, _ :: _, [], h, _, _, _ => h.elim
  | k, j0 :: fr, x :: xs, h, i, j, e => by
    obtain ⟨h1, h2, h3, h4, h5⟩ := h
    cases i with
    | zero =>
      simp at e
      subst e
      exact ⟨x, h1, h2, h3, h4⟩
    | succ i =>
      have := h5.get i j (by simpa using e)
      have e2 : k + 1 + i = k + (i + 1) := by omega
      rw [e2] at this
      exact this
theorem compN {X : Cx} {scope : Scope} {cl : List (Str × Addr)} {own : List Str} {fr : List Nat} {xs N' : List Str} (cells : CellsIn X.env cl) (free : FreeOk X scope N' own.length fr xs)
    (nd : N'.Nodup) (all : ((relabel scope X.env).names.all fun y => y.2 == .local || y.2 == .globalImplicit || (cl.lookup y.1).isSome) = true := by rfl)
    (kind : scope.kind = .function := by rfl) (len : N'.length = own.length + fr.length := by rfl) : CompN X scope cl own fr N' := by
  refine ⟨kind, cells, fun x hx => ?_, nd, len, fun i j e => free.get i j e⟩
  have key : ∀ k, (relabel scope X.env).names.lookup x = some k → (k = .cell ∨ k = .free) → ∃ c, cl.lookup x = some c := fun k e hk => by
    have hm := PySem.mem_of_lookup e
    have := List.all_eq_true.mp all _ hm
    rcases hk with rfl | rfl
    · simp only [Bool.or_eq_true] at this
      rcases this with (z | z) | z
      · exact absurd z (by decide)
      · exact absurd z (by decide)
      · exact Option.isSome_iff_exists.mp z
    · simp only [Bool.or_eq_true] at this
      rcases this with (z | z) | z
      · exact absurd z (by decide)
      · exact absurd z (by decide)
      · exact Option.isSome_iff_exists.mp z
  rcases hx with e | e
  · exact key _ e (.inl rfl)
  · exact key _ e (.inr rfl)
end L2

namespace L2
open PySem PySem.Spec PyProof.Rows
/-- a def that keeps its promise, with all that a call of it asks -/
structure Def (P : Program) (w : World) (K : PySem.W.Frag) (mg : Str → Option Value) (base : Heap) (k : Nat) (x : Str) (ps : List Str) (sp : Sp) : Prop where
  ex : ∃ f fd, FnOk P w K mg base CX0 k f fd ps sp ∧ mg x = some (.ref f) ∧ PySem.W.keepIn K (.ref f) = true ∧ Binds K fd ps []
section
variable {X : Cx} {k : Nat} {x : Str} {ps : List Str} {sp : Sp} {e : Expr} {es : List Expr} {te : TE} {t : TA} {p pos : Pos}
theorem pe_callD (D : Def X.prog X.w X.K X.mg X.base k x ps sp) (hr : Room k X.A) (ha : PA X (e :: es) t) (hg : Gl X x := by exact rfl) (hdb : (x == ("__debug__" : Str)) = false := by decide)
    (he : starEach (e :: es) X.env = (false, eval e X.env) :: starEach es X.env := by rfl) (hpl : (backTo pos (starEach es X.env)).any (·.1) = false := by rfl) :
    PE X (.Call (.Name x p) (e :: es) [] pos) (tCall sp [] E0 t) := by
  obtain ⟨f, fd, G, hm, hk, hb⟩ := D.ex
  exact pe_call G hr hg hm hk hb .nil pass0 ha hdb he hpl

/-! ### argument lists, their stars seen by the first constructor alone -/
def isStar : Expr → Bool
  | .Starred .. => true
  | _ => false
theorem star_cons {e : Expr} {es : List Expr} {env : Env} (h : isStar e = false) : starEach (e :: es) env = (false, eval e env) :: starEach es env := by
  cases e <;> first | rfl | cases h
def noStars : List Expr → Bool
  | [] => true
  | e :: es => !isStar e && noStars es
theorem stars_any {pos : Pos} {env : Env} : ∀ {es : List Expr}, noStars es = true → (backTo pos (starEach es env)).any (·.1) = false
  | [], _ => rfl
  | e :: es, h => by
    unfold noStars at h
    rw [Bool.and_eq_true, Bool.not_eq_true'] at h
    rw [star_cons h.1]
    exact (show (false || (backTo pos (starEach es env)).any (·.1)) = false by rw [stars_any h.2]; rfl)
theorem stars_all {pos : Pos} {env : Env} : ∀ {es : List Expr}, noStars es = true → (backTo pos (starEach es env)).all (fun x => !x.1) = true
  | [], _ => rfl
  | e :: es, h => by
    unfold noStars at h
    rw [Bool.and_eq_true, Bool.not_eq_true'] at h
    rw [star_cons h.1]
    exact (show (true && (backTo pos (starEach es env)).all (fun x => !x.1)) = true by rw [stars_all h.2]; rfl)
theorem pa (ha : PE X e te) (hr : PA X es t) (h : isStar e = false := by rfl) : PA X (e :: es) (tCons te t) := pa_cons ha hr (star_cons h)
theorem few {cpos : Pos} {env : Env} {es : List Expr} (h : noStars es = true) (hl : decide (es.length + ([] : List Keyword).length + (if ([] : List Keyword).isEmpty then 0 else 1) < 30) = true) :
    ((backTo cpos (starEach es env)).all (fun x => !x.1) && (backToKw cpos (keywordEach [] env)).all (fun x => x.1.isSome)
      && decide (es.length + ([] : List Keyword).length + (if ([] : List Keyword).isEmpty then 0 else 1) < 30)) = true := by
  rw [stars_all h, hl]
  rfl
theorem pm {o e : Expr} {es : List Expr} {to : TE} {t : TA} {name : Str} {apos cpos : Pos} {T id : String} {r : V → List V → Hp → VK → Prop} (pa : PlainAttrs T) (slot : Slot T name id) (hty : typeOf (.builtin id) = pure (.type "method_descriptor")) (hm : MtR X id r) (ho : PE X o to) (ha : PA X (e :: es) t)
    (hbase : attributeBase o name X.env (eval o X.env) = eval o X.env) (hst : noStars (e :: es) = true := by rfl) (hl : decide ((e :: es).length + ([] : List Keyword).length + (if ([] : List Keyword).isEmpty then 0 else 1) < 30) = true := by rfl)
    (hline : (apos.endLine == cpos.line) = true := by rfl) : PE X (.Call (.Attribute o name apos) (e :: es) [] cpos) (tBM X.K T r to t) := by
  have h2 : noStars es = true := by
    unfold noStars at hst
    rw [Bool.and_eq_true] at hst
    exact hst.2
  have h1 : isStar e = false := by
    unfold noStars at hst
    rw [Bool.and_eq_true, Bool.not_eq_true'] at hst
    exact hst.1
  exact pe_bm pa slot hty hm ho ha hbase (few hst hl) hline (star_cons h1) (stars_any h2)
/-- the receiver is no bare call without arguments (super()) -/
def plainBase : Expr → Bool
  | .Call (.Name x _) [] [] _ => x != Str.ofString "super"
  | _ => true
theorem base_of {o : Expr} {name : Str} {env : Env} {w : Sem Value} (h : plainBase o = true) : attributeBase o name env w = w := by
  unfold attributeBase
  split
  · rename_i id _ _
    have h : (id != Str.ofString "super") = true := h
    rw [h]
    rfl
  · rfl
theorem cD {k : Nat} {x : Str} {ps : List Str} {sp : Sp} (D : Def X.prog X.w X.K X.mg X.base k x ps sp) (hr : Room k X.A) (ha : PA X (e :: es) t) (hg : Gl X x := by exact rfl) (hdb : (x == ("__debug__" : Str)) = false := by decide)
    (hst : noStars (e :: es) = true := by rfl) : PE X (.Call (.Name x p) (e :: es) [] pos) (tCall sp [] E0 t) := by
  have h2 : noStars es = true := by
    unfold noStars at hst
    rw [Bool.and_eq_true] at hst
    exact hst.2
  have h1 : isStar e = false := by
    unfold noStars at hst
    rw [Bool.and_eq_true, Bool.not_eq_true'] at hst
    exact hst.1
  exact pe_callD D hr ha hg hdb (star_cons h1) (stars_any h2)
theorem cB {id : String} {r : List V → Hp → VK → Prop} (hc : CallR X (.builtin id) r) (hg : Gl X x) (hm : X.mg x = none) (hv : bootBuiltins x = some (.builtin id)) (ha : PA X (e :: es) t) (hn : x ≠ "__name__" := by decide) (hdb : (x == ("__debug__" : Str)) = false := by decide)
    (hst : noStars (e :: es) = true := by rfl) : PE X (.Call (.Name x p) (e :: es) [] pos) (tCB r t) := by
  have h2 : noStars es = true := by
    unfold noStars at hst
    rw [Bool.and_eq_true] at hst
    exact hst.2
  have h1 : isStar e = false := by
    unfold noStars at hst
    rw [Bool.and_eq_true, Bool.not_eq_true'] at hst
    exact hst.1
  exact pe_callB hc hg hm hv ha hn hdb (star_cons h1) (stars_any h2)
/-! ### isinstance of a written type -/
def rIsT (K : PySem.W.Frag) : List V → Hp → VK → Prop := fun xs H Q => ∃ x t T b, xs = [x, .ty T] ∧ TyOf K H x t ∧ PySem.W.kitOne K t (.type T) = some b ∧ Q (.bl b) H
theorem call_isT : CallR X (.builtin "isinstance") (rIsT X.K) := by
  intro pins s σ H xs us Q I r h
  obtain ⟨x, t, T, b, rfl, ty, e, q⟩ := h
  obtain ⟨u, v, rfl, rx, rv⟩ := r.two
  cases rv
  exact wpAny_with_toks (n := 1) I.tk (isinst_ok I rx ty e fun tk htk => ⟨.bl b, H, I.tok _ htk, rfl, q⟩)
theorem kit_same (K : PySem.W.Frag) (t : Value) : PySem.W.kitOne K t t = some true := by
  unfold PySem.W.kitOne
  rw [if_pos (beq_self_eq_true t)]
end
end L2

set_option Elab.async false
set_option linter.all false
set_option maxRecDepth 100000
/-! The judgements as structures: the elaborator does not look behind them. -/
namespace L2
open PySem PySem.Spec PyProof.Rows
structure XE (X : Cx) (e : Expr) (t : TE) : Prop where
  h : PE X e t
structure XT (X : Cx) (e : Expr) (t : TT) : Prop where
  h : PT X e t
structure XW (X : Cx) (e : Expr) (t : TT) : Prop where
  h : PW X e t
structure XA (X : Cx) (e : List Expr) (t : TA) : Prop where
  h : PA X e t
structure XS (X : Cx) (st : Stmt) (t : TS) : Prop where
  h : PS X st t
structure XB (X : Cx) (st : List Stmt) (t : TS) : Prop where
  h : PSs X st t
structure XG (X : Cx) (e : Expr) (t : TG) : Prop where
  h : PG X e t
structure XGs (X : Cx) (e : List Expr) (t : TGs) : Prop where
  h : PGs X e t
structure XI (X : Cx) (tg it : Expr) (t : TI) : Prop where
  h : PI X tg it t
structure XO (X : Cx) (e : Option Expr) (t : TO) : Prop where
  h : PO X e t
structure XQ (X : Cx) (ifs : List Expr) (t : TT) : Prop where
  h : PTs X ifs t
theorem of_XB {X : Cx} {st : List Stmt} {t : TS} {D : Ends} {σ : St} {H : Hp} (h : XB X st t) (q : t D σ H) : ∃ t, PSs X st t ∧ t D σ H := ⟨t, h.h, q⟩
section
variable {X : Cx} {a b c o e : Expr} {ta tb tc te to : TE} {tA tB' : TT} {es : List Expr} {t : TA} {pos p p2 apos cpos : Pos} {x : Str}
/-! blocks -/
theorem xb0 : XB X [] tNext := ⟨pss_nil⟩
theorem xb1 {st : Stmt} {u : TS} (h : XS X st u) : XB X [st] u := ⟨pss_one h.h⟩
theorem xbc {st : Stmt} {sts : List Stmt} {u v : TS} (h : XS X st u) (r : XB X sts v) : XB X (st :: sts) (tSeq u v) := ⟨pss_cons h.h r.h⟩
theorem xret (h : XE X e te) : XS X (.Return (some e) pos) (tRet te) := ⟨ps_ret h.h⟩
theorem xif {f g : List Stmt} {tf tg : TS} (h : XT X c tA) (h1 : XB X f tf) (h2 : XB X g tg) : XS X (.If c f g pos) (tIfS tA tf tg) := ⟨ps_if h.h h1.h h2.h⟩
theorem xexpr (h : XE X e te) (hs : swapsWith e none pos.line X.env = pure false := by rfl) : XS X (.Expr e pos) (tDrop te) := ⟨ps_expr h.h hs⟩
theorem xset {i : Nat} {pos' : Pos} (hN : X.N.Nodup) (hi : X.N[i]? = some x) (hx : Loc X.env.scope x) (he : XE X e te) (hs : swapsWith e (some (.Name x pos')) pos.line X.env = pure false := by rfl) (hf : X.fn x = true ∨ X.env.scope.names.lookup x = some .local := by first | exact .inl rfl | exact .inr rfl) :
    XS X (.Assign [.Name x pos'] e pos) (tAsg te (gName i)) := ⟨ps_set hN hi hx he.h hs hf⟩
theorem xgn {i : Nat} (hN : X.N.Nodup) (hi : X.N[i]? = some x) (hx : Loc X.env.scope x) (hf : X.fn x = true ∨ X.env.scope.names.lookup x = some .local := by first | exact .inl rfl | exact .inr rfl) : XG X (.Name x pos) (gName i) := ⟨pg_name hN hi hx hf⟩
theorem xgs0 : XGs X [] gNil := ⟨pgs_nil⟩
theorem xgsc {tg : TG} {tgs : TGs} (h1 : XG X e tg) (h2 : XGs X es tgs) (hs : (assignEach (e :: es) X.env).map (·.2) = assign e X.env :: (assignEach es X.env).map (·.2) := by rfl) : XGs X (e :: es) (gCons tg tgs) := ⟨pgs_cons h1.h h2.h hs⟩
theorem xgt {k n : Nat} {tgs : TGs} (hc : X.calm = true) (h : XGs X es tgs) (hn : (assignEach es X.env).length = n := by rfl) (hst : (assignEach es X.env).findIdx? (·.1) = none := by rfl) : XG X (.Tuple es k pos) (gTup X.K n tgs) := ⟨pg_tup hc h.h hn hst⟩
theorem xasg {tg : Expr} {g : TG} (he : XE X e te) (hg : XG X tg g) (hs : swapsWithSole [tg] e pos.line X.env = pure false := by rfl) (hw : swappedStores [tg] e X.env = pure none := by rfl)
    (h1 : (assignEach [tg] X.env).map (·.2) = [assign tg X.env] := by rfl) : XS X (.Assign [tg] e pos) (tAsg te g) := ⟨ps_asg he.h hg.h hs hw h1⟩
theorem xfor {tg it : Expr} {body : List Stmt} {wi : TI} {g : TG} {tb : TS} (hp : PassesOwn (model X.prog X.w) X.A X.env X.xe) (hc : X.calm = true) (hi : XI X tg it wi) (hg : XG X tg g) (hb : XB X body tb)
    (hs : ∀ x, foldedSetIterable it X.env x = pure x := by intro _; rfl) : XS X (.For tg it body [] pos) (tFor wi g tb) := ⟨ps_for hp hc hi.h hg.h hb.h hs⟩
theorem xwhile {body : List Stmt} {tb : TS} (hp : PassesOwn (model X.prog X.w) X.A X.env X.xe) (hc : XT X c tA) (hb : XB X body tb) : XS X (.While c body [] pos) (tWhile tA tb) := ⟨ps_while hp hc.h hb.h⟩
theorem xgsub {i : Expr} {ti : TE} {t : TSet} (ho : XE X o to) (hi : XE X i ti) (hs : PSet X t)
    (ha : ∀ v, assign (.Subscript o i pos) X.env v = (do
      let ov ← holding [v] (eval o X.env)
      let iv ← holding [v, ov] (eval i X.env)
      standAt pos
      holding [v, ov, iv] (setItem ov iv v)
      release [v, ov, iv] []) := by intro _; rfl) : XG X (.Subscript o i pos) (gSub to ti t) := ⟨pg_sub ho.h hi.h hs ha⟩
/-! iterators -/
theorem xir1 {tg : Expr} (hg : Gl X "range") (hm : X.mg "range" = none) (ha : XA X [a] t) (h : isStar a = false := by rfl) : XI X tg (.Call (.Name "range" p) [a] [] pos) (iRng1 t) := ⟨pi_range1 hg hm ha.h (star_cons h)⟩
theorem xil {tg l : Expr} {tl : TE} (h : XE X l tl) : XI X tg l (iList X.K tl) := ⟨pi_list h.h⟩
/-! tests -/
theorem xcmpT {op : CmpOp} {r : R2} (ho : OpR X (compareOp op) r) (ha : XE X a ta) (hb : XE X b tb) (hm : behindInMarks op b = false) : XT X (.Compare a [op] [b] pos) (tTest (tOp r ta tb)) := ⟨pt_cmpR ho ha.h hb.h hm⟩
theorem xnotT (h : XT X a tA) : XT X (.UnaryOp .Not a pos) (tNot tA) := ⟨pt_not h.h⟩
theorem xvalT (h : XE X e te) (he : ∀ whole, isTrue e X.env whole = (do let v ← whole; standAt e.pos; holding [v] (truthy v)) := by intro _; rfl) : XT X e (tB te) := ⟨pt_val h.h he⟩
theorem xand1 (h : XT X a tA) : XW X (.BoolOp .And [a] pos) tA := ⟨pw_and1 h.h⟩
theorem xor1 (h : XT X a tA) : XW X (.BoolOp .Or [a] pos) tA := ⟨pw_or1 h.h⟩
theorem xand {rest : List Expr} (h : XT X a tA) (h2 : XW X (.BoolOp .And (b :: rest) pos) tB') : XW X (.BoolOp .And (a :: b :: rest) pos) (tAnd tA tB') := ⟨pw_and h.h h2.h⟩
theorem xor {rest : List Expr} (h : XT X a tA) (h2 : XW X (.BoolOp .Or (b :: rest) pos) tB') : XW X (.BoolOp .Or (a :: b :: rest) pos) (tOr tA tB') := ⟨pw_or h.h h2.h⟩
theorem XW.xt (h : XW X e tA) : XT X e tA := ⟨h.h.pt⟩
/-! expressions -/
theorem xnon {j : Nat} : XE X (.Constant .none j pos) (tC .non) := ⟨pe_non⟩
theorem xbl {k : Bool} {j : Nat} : XE X (.Constant (.bool k) j pos) (tC (.bl k)) := ⟨pe_bl⟩
theorem xint {i : Int} {j : Nat} : XE X (.Constant (.int i) j pos) (tC (.int i)) := ⟨pe_int⟩
theorem xstr {y : Str} {j : Nat} : XE X (.Constant (.str y) j pos) (tC (.str y)) := ⟨pe_str⟩
theorem xv (i : Nat) (hN : X.N[i]? = some x := by rfl) (hv : Vis X.env.scope x := by first | exact Or.inl rfl | exact Or.inr (Or.inl rfl) | exact Or.inr (Or.inr rfl)) (hd : (x == ("__debug__" : Str)) = false := by decide)
    (hcd : (x == ("__classdict__" : Str)) = false := by decide) : XE X (.Name x pos) (tVar i) := ⟨pv i hN hv hd hcd⟩
theorem xty {T : String} (hm : X.mg x = none) (hv : bootBuiltins x = some (.type T)) (hg : Gl X x := by exact rfl) (hn : x ≠ "__name__" := by decide) (hd : (x == ("__debug__" : Str)) = false := by decide) : XE X (.Name x pos) (tC (.ty T)) := ⟨pe_bltn hg hm hv rfl hn hd⟩
theorem xop {op : Operator} {r : R2} (ho : OpR X (binaryOp op) r) (ha : XE X a ta) (hb : XE X b tb) : XE X (.BinOp a op b pos) (tOp r ta tb) := ⟨pe_op ho ha.h hb.h⟩
theorem xun {op : UnaryOp} {r : V → Hp → VK → Prop} (ho : UnR X (unaryOp op) r) (ha : XE X a ta) : XE X (.UnaryOp op a pos) (tUn r ta) := ⟨pe_un ho ha.h⟩
theorem xcmp {op : CmpOp} {r : R2} (ho : OpR X (compareOp op) r) (ha : XE X a ta) (hb : XE X b tb) (hm : behindInMarks op b = false) : XE X (.Compare a [op] [b] pos) (tOp r ta tb) := ⟨pe_cmpR ho ha.h hb.h hm⟩
theorem xone {op} (h : XE X a ta) : XE X (.BoolOp op [a] pos) ta := ⟨pe_one h.h⟩
theorem xandV {rest : List Expr} (h : XE X a ta) (h2 : XE X (.BoolOp .And (b :: rest) pos) tb) : XE X (.BoolOp .And (a :: b :: rest) pos) (tAndV ta tb) := ⟨pe_and h.h h2.h⟩
theorem xifE (h : XT X c tA) (ha : XE X a ta) (hb : XE X b tb) : XE X (.IfExp c a b pos) (tIf tA ta tb) := ⟨pe_ifExp h.h ha.h hb.h⟩
theorem xo0 : XO X none tNoPart := ⟨po_none⟩
theorem xo1 (h : XE X e te) : XO X (some e) (tPart te) := ⟨po_some h.h⟩
theorem xsl {r : V → Option Int → Option Int → Hp → VK → Prop} {lo hi : Option Expr} {tl th : TO} (hr : SlR X r) (he : XE X e te) (hl : XO X lo tl) (hu : XO X hi th) : XE X (.Subscript e (.Slice lo hi none p2) pos) (tSl r te tl th) := ⟨pe_slice hr he.h hl.h hu.h⟩
theorem xix {r : R2} (hr : IxR X r) (ha : XE X a ta) (hb : XE X b tb) (hs : PlainIx b) : XE X (.Subscript a b pos) (tOp r ta tb) := ⟨pe_ix hr ha.h hb.h hs⟩
theorem xa0 : XA X [] tNil := ⟨pa_nil⟩
theorem xac (ha : XE X e te) (hr : XA X es t) (h : isStar e = false := by rfl) : XA X (e :: es) (tCons te t) := ⟨pa ha.h hr.h h⟩
theorem xlst (h : XA X es t) : XE X (.List es pos) (tLst t) := ⟨pe_lst h.h⟩
theorem xcD {k : Nat} {ps : List Str} {sp : Sp} (D : Def X.prog X.w X.K X.mg X.base k x ps sp) (hr : Room k X.A) (ha : XA X (e :: es) t) (hg : Gl X x := by exact rfl) (hdb : (x == ("__debug__" : Str)) = false := by decide) (hst : noStars (e :: es) = true := by rfl) :
    XE X (.Call (.Name x p) (e :: es) [] pos) (tCall sp [] E0 t) := ⟨cD D hr ha.h hg hdb hst⟩
theorem xcB {id : String} {r : List V → Hp → VK → Prop} (hc : CallR X (.builtin id) r) (hm : X.mg x = none) (hv : bootBuiltins x = some (.builtin id)) (ha : XA X (e :: es) t) (hg : Gl X x := by exact rfl) (hn : x ≠ "__name__" := by decide) (hdb : (x == ("__debug__" : Str)) = false := by decide)
    (hst : noStars (e :: es) = true := by rfl) : XE X (.Call (.Name x p) (e :: es) [] pos) (tCB r t) := ⟨cB hc hg hm hv ha.h hn hdb hst⟩
theorem xcTy {T : String} {r : List V → Hp → VK → Prop} (hc : CallR X (.type T) r) (hm : X.mg x = none) (hv : bootBuiltins x = some (.type T)) (ha : XA X (e :: es) t) (hg : Gl X x := by exact rfl) (hn : x ≠ "__name__" := by decide) (hdb : (x == ("__debug__" : Str)) = false := by decide)
    (hst : noStars (e :: es) = true := by rfl) : XE X (.Call (.Name x p) (e :: es) [] pos) (tCB r t) := by
  have h1 : isStar e = false := by
    have := hst
    unfold noStars at this
    rw [Bool.and_eq_true, Bool.not_eq_true'] at this
    exact this.1
  have h2 : noStars es = true := by
    have := hst
    unfold noStars at this
    rw [Bool.and_eq_true] at this
    exact this.2
  exact ⟨pe_callTy hc hg hm hv ha.h hn hdb (star_cons h1) (stars_any h2)⟩
theorem xm {name : Str} {T id : String} {r : V → List V → Hp → VK → Prop} (pa : PlainAttrs T) (slot : Slot T name id) (hty : typeOf (.builtin id) = pure (.type "method_descriptor")) (hm : MtR X id r) (ho : XE X o to) (ha : XA X (e :: es) t)
    (hb : plainBase o = true := by rfl) (hst : noStars (e :: es) = true := by rfl) (hl : decide ((e :: es).length + ([] : List Keyword).length + (if ([] : List Keyword).isEmpty then 0 else 1) < 30) = true := by rfl)
    (hline : (apos.endLine == cpos.line) = true := by rfl) : XE X (.Call (.Attribute o name apos) (e :: es) [] cpos) (tBM X.K T r to t) := ⟨pm pa slot hty hm ho.h ha.h (base_of hb) hst hl hline⟩
theorem xm0 {name : Str} {T id : String} {r : V → List V → Hp → VK → Prop} (pa : PlainAttrs T) (slot : Slot T name id) (hty : typeOf (.builtin id) = pure (.type "method_descriptor")) (hm : MtR X id r) (ho : XE X o to)
    (hb : plainBase o = true := by rfl) (hline : (apos.endLine == cpos.line) = true := by rfl) : XE X (.Call (.Attribute o name apos) [] [] cpos) (tBM0 X.K T r to) := ⟨pe_bm0 pa slot hty hm ho.h (base_of hb) hline⟩
/-! comprehensions -/
theorem xq0 : XQ X [] tYes := ⟨pts_nil⟩
theorem xq1 (h : XT X c tA) : XQ X [c] tA := ⟨pts_one h.h⟩
section
variable {scope : Scope} {cl : List (Str × Addr)} {own : List Str} {fr : List Nat} {N' : List Str} {tg iter elt : Expr} {ifs : List Expr} {wi : TI} {g : TG} {tt : TT}
theorem xlc (hc : X.calm = true) (Z : CompN X scope cl own fr N') (hcell : ∀ y ∈ scope.names, y.2 ≠ .cell) (hnames : ∀ x ∈ scope.names, x.2 = .local → scope.names.lookup x.1 = some .local) (hclos : closureFor scope X.env = pure cl)
    (hi : XI X tg iter wi) (hg : ∀ C fp s H, XG (compX X scope cl C N' fp s H) tg g) (ht : ∀ C fp s H, XQ (compX X scope cl C N' fp s H) ifs tt) (he : ∀ C fp s H, XE (compX X scope cl C N' fp s H) elt te)
    (hs : ∀ x, foldedSetIterable iter X.env x = pure x := by intro _; rfl) : XE X (.ListComp elt [⟨tg, iter, ifs, 0⟩] scope pos) (tLC wi own.length fr g tt te) :=
  ⟨pe_lc hc Z hcell hnames hclos hi.h (fun C fp s H => (hg C fp s H).h) (fun C fp s H => (ht C fp s H).h) (fun C fp s H => (he C fp s H).h) hs⟩
theorem xslc {i : Nat} {pos' spos : Pos} (hN : X.N.Nodup) (hix : X.N[i]? = some x) (hx : X.env.scope.names.lookup x = some .local) (hc : X.calm = true) (Z : CompN X scope cl own fr N') (hcell : ∀ y ∈ scope.names, y.2 ≠ .cell)
    (hnames : ∀ x ∈ scope.names, x.2 = .local → scope.names.lookup x.1 = some .local) (hclos : closureFor scope X.env = pure cl)
    (hi : XI X tg iter wi) (hg : ∀ C fp s H, XG (compX X scope cl C N' fp s H) tg g) (ht : ∀ C fp s H, XQ (compX X scope cl C N' fp s H) ifs tt) (he : ∀ C fp s H, XE (compX X scope cl C N' fp s H) elt te)
    (hs : ∀ x, foldedSetIterable iter X.env x = pure x := by intro _; rfl) (hsw : swapsWith (.ListComp elt [⟨tg, iter, ifs, 0⟩] scope pos) (some (.Name x pos')) spos.line X.env = pure true := by rfl) :
    XS X (.Assign [.Name x pos'] (.ListComp elt [⟨tg, iter, ifs, 0⟩] scope pos) spos) (tSetLC i wi own.length fr g tt te) :=
  ⟨ps_setlc hN hix hx hc Z hcell hnames hclos hi.h (fun C fp s H => (hg C fp s H).h) (fun C fp s H => (ht C fp s H).h) (fun C fp s H => (he C fp s H).h) hs hsw⟩
end
end
end L2

set_option Elab.async false
set_option linter.all false
set_option maxRecDepth 100000
namespace L2
open PySem PySem.Spec PyProof.Rows


section
variable {X : Cx} {CX : CXT} {k : Nat} {f C : Addr} {fd : FuncData} {ps : List Str} {sp : Sp} {dvs : List V} {ds : List Value} {E : XK} {x m : Str} {p pos apos : Pos} {e o : Expr} {es : List Expr} {ta : TE} {t : TA}


end
section
variable {P : Program} {w : World} {K : PySem.W.Frag} {mg : Str → Option Value} {base : Heap}

end
section
variable {X : Cx} {k : Nat} {x : Str} {ps : List Str} {sp : Sp} {e : Expr} {es : List Expr} {te : TE} {t : TA} {p pos : Pos}
end
end L2

set_option Elab.async false
set_option linter.all false
set_option maxRecDepth 100000
/-! enumerate over a list, and a list by steps -/
namespace L2
open PySem PySem.Spec PyProof.Rows
section
variable {X : Cx} {pins : List (Addr × Obj)} {σ : St} {H : Hp} {s : Shared} {h' : Heap}
/-- two records of ours have turned, a new object is laid -/
theorem Inv.turned2 {t' : Nat} {e it T : Addr} {o : HO} (I : Inv X pins σ H s) (k : ∀ b ob, b ≠ e → b ≠ it → s.heap.get? b = some ob → h'.get? b = some ob) (fe : FpOk X pins H e) (fi : FpOk X pins H it) (hT : s.heap.objs.size ≤ T)
    (new : ObjOk X.prog X.w (upd H T o) h' T o) (ht : 0 < t') : Inv X pins σ (upd H T o) { s with heap := h', toks := t' } := by
  have hn : H T = none := I.hok.fresh hT
  have ne1 : ∀ b u, H b = some u → b ≠ e := fun b u q z => by rw [z, fe.1] at q; cases q
  have ne2 : ∀ b u, H b = some u → b ≠ it := fun b u q z => by rw [z, fi.1] at q; cases q
  have kk : ∀ b ob, b ∉ [e, it] → s.heap.get? b = some ob → h'.get? b = some ob := fun b ob hb q => k b ob (fun z => hb (by simp [z])) (fun z => hb (by simp [z])) q
  refine I.step (g' := s.gens) (d' := s.drawn) (ch := [e, it]) (fun b hb => ?_) (fun b ob _ _ hc q _ => kk b ob hc q) (fun b ob _ _ hc q _ => ⟨ob.slots, kk b ob hc q⟩) (fun b ob _ q n => ?_)
    (fun b ob hc q => ⟨ob, kk b ob hc q⟩) (fun b xs q => ?_) (fun b ob u q => ?_) (fun b ps q => ⟨#[], ?_⟩) (fun m hm => ?_) (fun b u q => ?_) I.bare
  · rcases List.mem_cons.mp hb with rfl | hb
    · exact ⟨fe.2.2.2.1, fe.2.1, fe.2.2.2.2.1, fe.2.2.2.2.2⟩
    · have z : b = it := by simpa using hb
      subst z
      exact ⟨fi.2.2.2.1, fi.2.1, fi.2.2.2.2.1, fi.2.2.2.2.2⟩
  · rw [upd_ne (Nat.ne_of_lt (Nat.lt_of_lt_of_le (Heap.lt_size q) hT))]; exact n
  · rw [upd_ne (ne_of_none q hn)]; exact q
  · rw [upd_ne (ne_of_none q hn)]; exact q
  · rw [upd_ne (ne_of_none q hn), q]; simp
  · obtain ⟨ob, es, ep, ho, r⟩ := hm
    exact ⟨ob, es, ep, k _ ob (Ne.symm fe.2.1) (Ne.symm fi.2.1) ho, r⟩
  · by_cases hb : b = T
    · subst hb; rw [upd_same] at q; cases q; exact new
    · rw [upd_ne hb] at q
      refine (I.hok b u q).stay (fun c v hc q2 => ?_) (fun c q2 => by rw [upd_ne (ne_of_none q2 hn)]; exact q2) fun c xs q2 => by rw [upd_ne (ne_of_none q2 hn)]; exact q2
      rcases hc with z | z
      · subst z; exact k _ v (ne1 _ u q) (ne2 _ u q) q2
      · exact k c v (ne1 c _ z) (ne2 c _ z) q2
/-- (0, x), (1, y), .. of the list at a: a new tuple each -/
def Ite (K : PySem.W.Frag) (a : Addr) : It :=
  ⟨fun i H => ∃ xs x, SqL K H a xs ∧ xs[i]? = some x, fun i H x H' => ∃ T y, (∀ xs, SqL K H a xs → xs[i]? = some y) ∧ H T = none ∧ x = .ref T ∧ H' = upd H T (.tup [.int i, y]), fun i H => ∃ xs, SqL K H a xs ∧ xs.length ≤ i⟩
theorem turn_enum {P : Program} {w : World} {K : PySem.W.Frag} {elts : List Expr} {k : Nat} {pos : Pos} (a e it : Addr) (hne : e ≠ it) :
    Turn P w K (.Tuple elts k pos) (Ite K a) [e, it] e (fun i h => (∃ old, IsEnum h e it i old) ∧ h.IsListIter it a i) where
  mem := by simp
  obj := fun i h st b hb => by
    obtain ⟨⟨old, h1⟩, o, h2, h3, h4⟩ := st
    rcases List.mem_cons.mp hb with rfl | hb
    · exact ⟨_, h1, fun v z => by cases z⟩
    · have z : b = it := by simpa using hb
      subst z
      exact ⟨o, h2, fun v z => by rw [h4] at z; cases z⟩
  keep := fun i h h' st kk => by
    obtain ⟨⟨old, h1⟩, o, h2, h3⟩ := st
    exact ⟨⟨old, kk e (by simp) _ h1⟩, o, kk it (by simp) o h2, h3⟩
  item := by
    intro X hP hw hK hc i pins s σ H E I hf st hg
    subst hP hw hK
    obtain ⟨xs, x, hq, hx⟩ := hg
    obtain ⟨its, rv, p, hz⟩ := I.list hq
    obtain ⟨u, hu, ru⟩ := rv.get hx
    obtain ⟨⟨old, h1⟩, h2⟩ := st
    have fe := hf e (by simp)
    have fi := hf it (by simp)
    have hL := p.isList
    have hae : a ≠ e := fun z => by
      obtain ⟨o, q1, q2, _⟩ := hL
      rw [z, h1] at q1
      cases q1
      exact absurd (Value.type.inj q2) (by decide)
    have hai : a ≠ it := fun z => by
      obtain ⟨o, q1, q2, _⟩ := hL
      obtain ⟨o', q3, q4, _⟩ := h2
      rw [z, q3] at q1
      cases q1
      rw [q4] at q2
      exact absurd (Value.type.inj q2) (by decide)
    refine wpAny_pyNext_enum_item h1 h2 hL (x := u) (by simpa using hu) hne fun h' g1 g2 g3 g4 g5 => ⟨_, rfl, ?_⟩
    have hle : e < s.heap.objs.size := Heap.lt_size h1
    obtain ⟨oi, hoi, _⟩ := id h2
    have hli : it < s.heap.objs.size := Heap.lt_size hoi
    have hTe : s.heap.objs.size ≠ e := Nat.ne_of_gt hle
    have hTi : s.heap.objs.size ≠ it := Nat.ne_of_gt hli
    have hL' : h'.IsList a its.toArray := by
      obtain ⟨o, q1, q2, q3⟩ := hL
      exact ⟨o, g5 a o hae hai q1, q2, q3⟩
    refine (WalksT.enumerate (I.ok.hd hc) e it a hne hae hai its.toArray).go elts k pos i s.heap.objs.size _ _ _ ⟨⟨_, g1⟩, g2, hL', hTe, hTi⟩ fun h2 st2 kp => ?_
    have hT : h2.get? s.heap.objs.size = some { cls := .type "tuple", data := .seq #[.int i s.toks, u] } := kp _ _ (by simp [hTe, hTi]) g3
    refine ⟨.ref s.heap.objs.size, upd H s.heap.objs.size (.tup [.int i, x]), ?_, rfl, ⟨s.heap.objs.size, x, fun ys hy => by rw [I.list_inj hy hq]; exact hx, I.hok.fresh (Nat.le_refl _), rfl, rfl⟩, ⟨?_, ?_⟩, ?_⟩
    · refine I.turned2 (t' := s.toks + 1) (fun b ob n1 n2 q => kp b ob (by simp [n1, n2]) (g5 b ob n1 n2 q)) fe fi (Nat.le_refl _) ?_ (Nat.succ_pos _)
      refine ⟨by show 2 ≤ sizeLine; rw [sizeLine_eq]; decide, [.int i s.toks, u], .cons ⟨_, rfl⟩ (.cons ru .nil), ?_⟩
      exact ⟨_, hT, rfl, 0, rfl⟩
    · obtain ⟨old2, q⟩ := st2.1
      exact ⟨old2, by simpa using q⟩
    · exact st2.2.1
    · intro b hb
      rcases List.mem_cons.mp hb with rfl | hb
      · rw [upd_ne (Ne.symm hTe)]; exact fe.1
      · have z : b = it := by simpa using hb
        subst z
        rw [upd_ne (Ne.symm hTi)]; exact fi.1
  done := by
    intro X hP hw hK hc i pins s σ H E I hf st hg
    subst hP hw hK
    obtain ⟨xs, hq, hx⟩ := hg
    obtain ⟨its, rv, p, hz⟩ := I.list hq
    obtain ⟨⟨old, h1⟩, h2⟩ := st
    obtain ⟨f0, f1, f2, f3, f4, f5⟩ := hf it (by simp)
    have hl := rv.length
    exact wpAny_pyNext_enum_end (I.ok.hd hc) h1 h2 p.isList (by simp; omega) fun h' eb => ⟨rfl, I.turned (t' := s.toks) (fun b o hb e => eb b o hb e) f0 f1 f3 f4 f5⟩
  self := fun _ _ _ _ _ st h => by
    obtain ⟨⟨old, h1⟩, _⟩ := st
    exact wpAny_pyIter_enum h1 h
def iEnum (K : PySem.W.Frag) (ta : TA) : TI := fun σ H R => ta σ H fun vs H1 => ∃ a xs, vs = [.ref a] ∧ H1 a = some (.lst xs) ∧ R (Ite K a) H1
theorem pi_enum {l : Expr} {ta : TA} {p pos : Pos} {elts : List Expr} {k : Nat} {pos' : Pos} (hg : Gl X "enumerate") (hm : X.mg "enumerate" = none) (ha : PA X [l] ta) (hs : starEach [l] X.env = [(false, eval l X.env)] := by rfl) :
    PI X (.Tuple elts k pos') (.Call (.Name "enumerate" p) [l] [] pos) (iEnum X.K ta) := by
  intro pins s σ H R I h
  refine Call_ (ld_blt I hg hm boot_enumerate (PyProof.Rows.callWith_type1 (thn (ha pos pins s σ H _ I h) fun us s1 ⟨vs, H1, I1, r1, q1⟩ => ?_) hs rfl))
  obtain ⟨a, xs, e, hq, q⟩ := q1
  subst e
  obtain ⟨u, rfl, ru⟩ := r1.one
  cases ru
  obtain ⟨z, its, n, r, hl, e⟩ := I1.lstM hq
  refine call_enumerate_1 e fun h' g1 g2 g3 g4 => ?_
  have hne : s1.heap.objs.size + 1 ≠ s1.heap.objs.size := by omega
  refine wpAny_pyIter_enum g1 ?_
  refine ⟨s1.heap.objs.size + 1, [s1.heap.objs.size + 1, s1.heap.objs.size], _, _, H1, rfl, I1.kept (t' := s1.toks) g4, turn_enum a _ _ hne, ⟨⟨_, g1⟩, g2⟩, fun b hb => ?_, q⟩
  have hb' : s1.heap.objs.size ≤ b := by
    rcases List.mem_cons.mp hb with rfl | hb
    · omega
    · have z : b = s1.heap.objs.size := by simpa using hb
      exact Nat.le_of_eq z.symm
  exact I1.fpOk hb' (I1.hok.fresh hb')
end
/-! ### isinstance of several written types -/
section
variable {X : Cx} {e l : Expr} {te : TE} {t : TA} {pos p p1 p2 p3 : Pos}
theorem xie {elts : List Expr} {k : Nat} {pos' : Pos} (hm : X.mg "enumerate" = none) (ha : XA X [l] t) (hg : Gl X "enumerate" := by exact rfl) (h : isStar l = false := by rfl) : XI X (.Tuple elts k pos') (.Call (.Name "enumerate" p) [l] [] pos) (iEnum X.K t) := ⟨pi_enum hg hm ha.h (star_cons h)⟩
theorem xgtC {scope : Scope} {cl : List (Str × Addr)} {C : Addr} {N' : List Str} {fp : List Addr} {s : Shared} {H : Hp} {es : List Expr} {k n : Nat} {tgs : TGs} (hc : X.calm = true) (h : XGs (compX X scope cl C N' fp s H) es tgs)
    (hn : (assignEach es (compX X scope cl C N' fp s H).env).length = n := by rfl) (hst : (assignEach es (compX X scope cl C N' fp s H).env).findIdx? (·.1) = none := by rfl) : XG (compX X scope cl C N' fp s H) (.Tuple es k pos) (gTup X.K n tgs) := ⟨pg_tup hc h.h hn hst⟩
theorem call_isTC {scope : Scope} {cl : List (Str × Addr)} {C : Addr} {N' : List Str} {fp : List Addr} {s : Shared} {H : Hp} : CallR (compX X scope cl C N' fp s H) (.builtin "isinstance") (rIsT X.K) := call_isT (X := compX X scope cl C N' fp s H)
section
variable {scope : Scope} {cl : List (Str × Addr)} {C : Addr} {N' : List Str} {fp : List Addr} {s : Shared} {H : Hp}
theorem ix_listC : IxR (compX X scope cl C N' fp s H) (rIxL X.K) := ix_list (X := compX X scope cl C N' fp s H)
end
end
end L2

set_option Elab.async false
set_option linter.all false
set_option maxRecDepth 100000
/-! sum, max, min of a list of numbers; zip; == of any data -/
namespace L2
open PySem PySem.Spec PyProof.Rows
section
variable {X : Cx} {pins : List (Addr × Obj)} {σ : St} {H : Hp} {s : Shared} {h' : Heap}
theorem vals_int_get : ∀ {ns : List Int} {us : List Value} {i : Nat} {v : Value}, Vals (ns.map V.int) us → us[i]? = some v → ∃ t, v = .int (ns.getD i 0) t
  | [], _, i, v, .nil, e => by simp at e
  | n :: ns, _, 0, v, .cons r t, e => by
    obtain ⟨tk, rfl⟩ := r
    cases e
    exact ⟨tk, rfl⟩
  | n :: ns, _, i + 1, v, .cons r t, e => vals_int_get (ns := ns) (i := i) t (by simpa using e)
theorem call_sum (hc : X.calm = true) : CallR X (.builtin "sum") (fun xs H Q => ∃ (a : Addr) (ns : List Int), xs = [.ref a] ∧ SqL X.K H a (ns.map V.int) ∧ Q (.int ns.sum) H) := by
  intro pins s σ H xs us Q I r h
  obtain ⟨a, ns, rfl, hq, q⟩ := h
  obtain ⟨u, rfl, rx⟩ := vals1 r
  cases rx
  obtain ⟨its, r', pl, hz⟩ := I.list hq
  have hlen : its.toArray.size = ns.length := by
    have := r'.length
    rw [List.length_map] at this
    rw [List.size_toArray, this]
  have lt : a < s.heap.objs.size := by
    obtain ⟨o, n, e, _⟩ := pl
    exact Heap.lt_size e
  refine wpAny_with_toks (n := 1) I.tk (call_sum_walkG ?_)
  refine wpAny_pyIter_list pl.isList ?_
  refine ⟨s.heap.objs.size, _, _, _, _, _, fun i => ns.getD i 0, rfl, Walks.list (A := X.A.in1) (I.ok.hd hc) s.heap.objs.size a (Nat.ne_of_lt lt) its.toArray, ⟨⟨_, Heap.get?_push_size _ rfl, rfl, rfl⟩, ?_⟩, ?_, ?_, fun h' tk t' kp htk => ?_⟩
  · obtain ⟨o, n, e, c, _, d⟩ := pl
    exact ⟨o, Heap.get?_push_of_some _ e, c, n, d⟩
  · intro b hb
    rw [show (s.heap.push { cls := Value.type "list_iterator", data := Data.fields #[Value.ref a, Value.int 0 0] }).objs.size = s.heap.objs.size + 1 from by simp [Heap.push]]
    rcases List.mem_cons.mp hb with rfl | hb
    · exact Nat.lt_succ_self _
    · have : b = a := by simpa using hb
      subst this
      exact Nat.lt_succ_of_lt lt
  · intro i v hP
    exact vals_int_get r' (by simpa using hP)
  · rw [hlen, preSum_getD, List.take_length]
    refine ⟨.int _, H, I.kept (fun b o e => kp b o ?_ (Heap.get?_push_of_some _ e)) htk, ⟨_, rfl⟩, q⟩
    simp only [List.mem_singleton]
    exact Nat.ne_of_lt (Heap.lt_size e)
theorem getD_mem {ns : List Int} {i : Nat} (h : i < ns.length) : ns.getD i 0 ∈ ns := by
  rw [List.getD_eq_getElem?_getD, List.getElem?_eq_getElem h]
  exact List.getElem_mem h
theorem mem_getD {ns : List Int} {x : Int} (h : x ∈ ns) : ∃ i, i < ns.length ∧ ns.getD i 0 = x := by
  obtain ⟨i, hi, e⟩ := List.getElem_of_mem h
  exact ⟨i, hi, by rw [List.getD_eq_getElem?_getD, List.getElem?_eq_getElem hi, e]; rfl⟩
theorem call_maxL (hc : X.calm = true) : CallR X (.builtin "max") (fun xs H Q => ∃ (a : Addr) (ns : List Int), xs = [.ref a] ∧ SqL X.K H a (ns.map V.int) ∧ 0 < ns.length ∧ ∀ m, m ∈ ns → (∀ x ∈ ns, x ≤ m) → Q (.int m) H) := by
  intro pins s σ H xs us Q I r h
  obtain ⟨a, ns, rfl, hq, hpos, q⟩ := h
  obtain ⟨u, rfl, rx⟩ := vals1 r
  cases rx
  obtain ⟨its, r', pl, hz⟩ := I.list hq
  have hlen : its.toArray.size = ns.length := by
    have := r'.length
    rw [List.length_map] at this
    rw [List.size_toArray, this]
  have lt : a < s.heap.objs.size := by
    obtain ⟨o, n, e, _⟩ := pl
    exact Heap.lt_size e
  refine wpAny_with_toks (n := 1) I.tk (call_max_walk ?_)
  refine wpAny_pyIter_list pl.isList ?_
  have hP : ∀ (i : Nat) (v : Value), its.toArray[i]? = some v → ∃ t, v = Value.int (ns.getD i 0) t := fun i v hP => vals_int_get r' (by simpa using hP)
  refine ⟨s.heap.objs.size, _, _, _, _, _, _, rfl, Walks.list (A := X.A.in1) (I.ok.hd hc) s.heap.objs.size a (Nat.ne_of_lt lt) its.toArray, ⟨⟨_, Heap.get?_push_size _ rfl, rfl, rfl⟩, ?_⟩, ?_, by omega, CmpOf.ints_gt (fun i => ns.getD i 0) hP, fun v h' tk hv kp htk => ?_⟩
  · obtain ⟨o, n, e, c, _, d⟩ := pl
    exact ⟨o, Heap.get?_push_of_some _ e, c, n, d⟩
  · intro b hb
    rw [show (s.heap.push { cls := Value.type "list_iterator", data := Data.fields #[Value.ref a, Value.int 0 0] }).objs.size = s.heap.objs.size + 1 from by simp [Heap.push]]
    rcases List.mem_cons.mp hb with rfl | hb
    · exact Nat.lt_succ_self _
    · have : b = a := by simpa using hb
      subst this
      exact Nat.lt_succ_of_lt lt
  · obtain ⟨t, rfl⟩ := hP _ _ hv
    have hb := argBest_gt (fun i => ns.getD i 0) (its.toArray.size - 1)
    rw [hlen] at hb ⊢
    refine ⟨.int _, H, I.kept (fun b o e => kp b o ?_ (Heap.get?_push_of_some _ e)) htk, ⟨_, rfl⟩, q _ (getD_mem (by omega)) fun x hx => ?_⟩
    · simp only [List.mem_singleton]
      exact Nat.ne_of_lt (Heap.lt_size e)
    · obtain ⟨i, hi, rfl⟩ := mem_getD hx
      exact hb.2 i (by omega)
/-! ### == of any data -/
def rEqG (K : PySem.W.Frag) (neg : Bool) : R2 := fun x y H Q => ∃ d e, Den K H x d ∧ Den K H y e ∧ d.depth ≤ 6 ∧ e.depth ≤ 6 ∧ Q (.bl (if neg then !(PyData.eqv d e) else PyData.eqv d e)) H
theorem op_eqG (hu : X.A.units + 64 < cLine) : OpR X (compareOp .Eq) (rEqG X.K false) := by
  intro pins s σ H x y v u Q I rx ry h
  obtain ⟨d, e, dx, dy, hd, he, q⟩ := h
  obtain ⟨as, ra⟩ := dx.reads I rx
  obtain ⟨bs, rb⟩ := dy.reads I ry
  have hs1 : SeqAt.shaped d = true := by
    unfold SeqAt.shaped
    rw [dx.lay, Bool.true_and]
    exact decide_eq_true (Nat.le_trans hd (by decide))
  have hs2 : SeqAt.shaped e = true := by
    unfold SeqAt.shaped
    rw [dy.lay, Bool.true_and]
    exact decide_eq_true (Nat.le_trans he (by decide))
  exact eq_dataH ra rb hs1 hs2 hu ⟨.bl _, H, I, rfl, q⟩
theorem op_neG (hu : X.A.units + 64 < cLine) : OpR X (compareOp .NotEq) (rEqG X.K true) := by
  intro pins s σ H x y v u Q I rx ry h
  obtain ⟨d, e, dx, dy, hd, he, q⟩ := h
  obtain ⟨as, ra⟩ := dx.reads I rx
  obtain ⟨bs, rb⟩ := dy.reads I ry
  have hs1 : SeqAt.shaped d = true := by
    unfold SeqAt.shaped
    rw [dx.lay, Bool.true_and]
    exact decide_eq_true (Nat.le_trans hd (by decide))
  have hs2 : SeqAt.shaped e = true := by
    unfold SeqAt.shaped
    rw [dy.lay, Bool.true_and]
    exact decide_eq_true (Nat.le_trans he (by decide))
  exact ne_dataH ra rb hs1 hs2 hu ⟨.bl _, H, I, rfl, q⟩
/-! ### zip of two lists -/
theorem Inv.turnedL {t' : Nat} {ch : List Addr} {T : Addr} {o : HO} (I : Inv X pins σ H s) (k : ∀ b ob, b ∉ ch → s.heap.get? b = some ob → h'.get? b = some ob) (f : ∀ b ∈ ch, FpOk X pins H b) (hT : s.heap.objs.size ≤ T)
    (new : ObjOk X.prog X.w (upd H T o) h' T o) (ht : 0 < t') : Inv X pins σ (upd H T o) { s with heap := h', toks := t' } := by
  have hn : H T = none := I.hok.fresh hT
  have ne : ∀ b u, H b = some u → b ∉ ch := fun b u q z => by rw [(f b z).1] at q; cases q
  have nl : X.env.locals ∉ ch := fun z => (f _ z).2.1 rfl
  refine I.step (g' := s.gens) (d' := s.drawn) (ch := ch) (fun b hb => ⟨(f b hb).2.2.2.1, (f b hb).2.1, (f b hb).2.2.2.2.1, (f b hb).2.2.2.2.2⟩) (fun b ob _ _ hc q _ => k b ob hc q) (fun b ob _ _ hc q _ => ⟨ob.slots, k b ob hc q⟩) (fun b ob _ q n => ?_)
    (fun b ob hc q => ⟨ob, k b ob hc q⟩) (fun b xs q => ?_) (fun b ob u q => ?_) (fun b ps q => ⟨#[], ?_⟩) (fun m hm => ?_) (fun b u q => ?_) I.bare
  · rw [upd_ne (Nat.ne_of_lt (Nat.lt_of_lt_of_le (Heap.lt_size q) hT))]; exact n
  · rw [upd_ne (ne_of_none q hn)]; exact q
  · rw [upd_ne (ne_of_none q hn)]; exact q
  · rw [upd_ne (ne_of_none q hn), q]; simp
  · obtain ⟨ob, es, ep, ho, r⟩ := hm
    exact ⟨ob, es, ep, k _ ob nl ho, r⟩
  · by_cases hb : b = T
    · subst hb; rw [upd_same] at q; cases q; exact new
    · rw [upd_ne hb] at q
      refine (I.hok b u q).stay (fun c v hc q2 => ?_) (fun c q2 => by rw [upd_ne (ne_of_none q2 hn)]; exact q2) fun c xs q2 => by rw [upd_ne (ne_of_none q2 hn)]; exact q2
      rcases hc with z | z
      · subst z; exact k _ v (ne _ u q) q2
      · exact k c v (ne c _ z) q2
theorem Inv.turnedL0 {t' : Nat} {ch : List Addr} (I : Inv X pins σ H s) (k : ∀ b ob, b ∉ ch → s.heap.get? b = some ob → h'.get? b = some ob) (f : ∀ b ∈ ch, FpOk X pins H b) (ht : 0 < t') : Inv X pins σ H { s with heap := h', toks := t' } := by
  have ne : ∀ b u, H b = some u → b ∉ ch := fun b u q z => by rw [(f b z).1] at q; cases q
  have nl : X.env.locals ∉ ch := fun z => (f _ z).2.1 rfl
  refine I.step (g' := s.gens) (d' := s.drawn) (ch := ch) (fun b hb => ⟨(f b hb).2.2.2.1, (f b hb).2.1, (f b hb).2.2.2.2.1, (f b hb).2.2.2.2.2⟩) (fun b ob _ _ hc q _ => k b ob hc q) (fun b ob _ _ hc q _ => ⟨ob.slots, k b ob hc q⟩) (fun _ _ _ _ n => n)
    (fun b ob hc q => ⟨ob, k b ob hc q⟩) (fun _ _ q => q) (fun _ _ _ q => q) (fun b ps q => ⟨#[], by rw [q]; simp⟩) (fun m hm => ?_) (fun b u q => ?_) I.bare
  · obtain ⟨ob, es, ep, ho, r⟩ := hm
    exact ⟨ob, es, ep, k _ ob nl ho, r⟩
  · refine (I.hok b u q).stay (fun c v hc q2 => ?_) (fun c q2 => q2) fun c xs q2 => q2
    rcases hc with z | z
    · subst z; exact k _ v (ne _ u q) q2
    · exact k c v (ne c _ z) q2
def Itz (K : PySem.W.Frag) (a b : Addr) : It :=
  ⟨fun i H => ∃ xs ys x y, SqL K H a xs ∧ SqL K H b ys ∧ xs[i]? = some x ∧ ys[i]? = some y, fun i H x H' => ∃ T u v, (∀ xs, SqL K H a xs → xs[i]? = some u) ∧ (∀ ys, SqL K H b ys → ys[i]? = some v) ∧ H T = none ∧ x = .ref T ∧ H' = upd H T (.tup [u, v]),
    fun i H => ∃ xs ys, SqL K H a xs ∧ SqL K H b ys ∧ (xs.length ≤ i ∨ ys.length ≤ i)⟩
theorem cls_ne {h : Heap} {a b : Addr} {its : Array Value} {o : Obj} {T : String} (hL : h.IsList a its) (e : h.get? b = some o) (c : o.cls = .type T) (hT : "list" ≠ T) : a ≠ b := fun z => by
  obtain ⟨o', q1, q2, _⟩ := hL
  rw [z, e] at q1
  cases q1
  rw [c] at q2
  exact hT (Value.type.inj q2).symm
theorem turn_zip {P : Program} {w : World} {K : PySem.W.Frag} {elts : List Expr} {k : Nat} {pos : Pos} (a b z TI TO i1 i2 : Addr)
    (n1 : TI ≠ z) (n2 : TO ≠ z) (n3 : i1 ≠ z) (n4 : i2 ≠ z) (n5 : TI ≠ TO) (n6 : TI ≠ i1) (n7 : TI ≠ i2) (n8 : TO ≠ i1) (n9 : TO ≠ i2) (n0 : i1 ≠ i2) :
    Turn P w K (.Tuple elts k pos) (Itz K a b) [z, TI, TO, i1, i2] z (fun i h => IsZip h z TI TO .none ∧ IsPair h TI (.ref i1) (.ref i2) ∧ (∃ u v, IsPair h TO u v) ∧ h.IsListIter i1 a i ∧ h.IsListIter i2 b i) where
  mem := by simp
  obj := fun i h st c hc => by
    obtain ⟨h1, h2, ⟨u, v, h3⟩, ⟨o4, h4, h4c, h4d⟩, ⟨o5, h5, h5c, h5d⟩⟩ := st
    rcases List.mem_cons.mp hc with rfl | hc
    · exact ⟨_, h1, fun v z => by cases z⟩
    rcases List.mem_cons.mp hc with rfl | hc
    · exact ⟨_, h2, fun v z => by cases z⟩
    rcases List.mem_cons.mp hc with rfl | hc
    · exact ⟨_, h3, fun v z => by cases z⟩
    rcases List.mem_cons.mp hc with rfl | hc
    · exact ⟨o4, h4, fun v z => by rw [h4d] at z; cases z⟩
    · have e : c = i2 := by simpa using hc
      subst e
      exact ⟨o5, h5, fun v z => by rw [h5d] at z; cases z⟩
  keep := fun i h h' st kk => by
    obtain ⟨h1, h2, ⟨u, v, h3⟩, ⟨o4, h4, h4r⟩, ⟨o5, h5, h5r⟩⟩ := st
    exact ⟨kk z (by simp) _ h1, kk TI (by simp) _ h2, ⟨u, v, kk TO (by simp) _ h3⟩, ⟨o4, kk i1 (by simp) _ h4, h4r⟩, ⟨o5, kk i2 (by simp) _ h5, h5r⟩⟩
  item := by
    intro X hP hw hK hc i pins s σ H E I hf st hg
    subst hP hw hK
    obtain ⟨xs, ys, x, y, hqx, hqy, hx, hy⟩ := hg
    obtain ⟨its, rv, p, hz⟩ := I.list hqx
    obtain ⟨its2, rv2, p2, hz2⟩ := I.list hqy
    obtain ⟨u, hu, ru⟩ := rv.get hx
    obtain ⟨v, hv, rw'⟩ := rv2.get hy
    obtain ⟨h1, h2, ⟨u0, v0, h3⟩, h4, h5⟩ := st
    obtain ⟨o4, g4, c4, _⟩ := id h4
    obtain ⟨o5, g5, c5, _⟩ := id h5
    have hL := p.isList
    have hL2 := p2.isList
    have az := cls_ne hL h1 rfl (by decide)
    have aTO := cls_ne hL h3 rfl (by decide)
    have ai1 := cls_ne hL g4 c4 (by decide)
    have ai2 := cls_ne hL g5 c5 (by decide)
    have bz := cls_ne hL2 h1 rfl (by decide)
    have bTO := cls_ne hL2 h3 rfl (by decide)
    have bi1 := cls_ne hL2 g4 c4 (by decide)
    have bi2 := cls_ne hL2 g5 c5 (by decide)
    have ap : ZipApart z TI TO i1 i2 a b := ⟨n1, n2, n3, n4, n5, n6, n7, n8, n9, n0, az, aTO, ai1, ai2, bz, bTO, bi1, bi2⟩
    refine wpAny_pyNext_zip_item ap h1 h2 h3 h4 h5 hL hL2 (x := u) (y := v) (by simpa using hu) (by simpa using hv) fun h' k1 k2 k3 k4 k5 k6 k7 => ⟨_, rfl, ?_⟩
    have hlz : z < s.heap.objs.size := Heap.lt_size h1
    have hlTO : TO < s.heap.objs.size := Heap.lt_size h3
    have hlTI : TI < s.heap.objs.size := Heap.lt_size h2
    have hl1 : i1 < s.heap.objs.size := Heap.lt_size g4
    have hl2 : i2 < s.heap.objs.size := Heap.lt_size g5
    refine wpAny_letOwnedTupleGo_zip k1 fun h2' q1 sb => ?_
    have keep : ∀ c o, c ≠ z → h'.get? c = some o → h2'.get? c = some o := fun c o hc e => (sb.2 c hc).trans e
    refine ⟨.ref s.heap.objs.size, upd H s.heap.objs.size (.tup [x, y]), ?_, rfl, ⟨s.heap.objs.size, x, y, fun ys' hy' => by rw [I.list_inj hy' hqx]; exact hx, fun ys' hy' => by rw [I.list_inj hy' hqy]; exact hy, I.hok.fresh (Nat.le_refl _), rfl, rfl⟩, ⟨q1, ?_, ⟨u, v, keep _ _ n2 k2⟩, ?_, ?_⟩, ?_⟩
    · refine I.turnedL (t' := s.toks) (ch := [z, TI, TO, i1, i2]) (fun c ob hc q => ?_) hf (Nat.le_refl _) ?_ I.tk
      · simp only [List.mem_cons, List.mem_nil_iff, or_false, not_or] at hc
        exact keep _ _ hc.1 (k7 c ob hc.1 hc.2.2.1 hc.2.2.2.1 hc.2.2.2.2 q)
      · refine ⟨by show 2 ≤ sizeLine; rw [sizeLine_eq]; decide, [u, v], .cons ru (.cons rw' .nil), ?_⟩
        exact ⟨_, keep _ _ (Nat.ne_of_gt hlz) k5, rfl, 0, rfl⟩
    · exact keep _ _ n1 (k7 TI _ n1 n5 n6 n7 h2)
    · obtain ⟨o, e, r⟩ := k3
      exact ⟨o, keep _ _ n3 e, r⟩
    · obtain ⟨o, e, r⟩ := k4
      exact ⟨o, keep _ _ n4 e, r⟩
    · intro c hc
      have hlt : c < s.heap.objs.size := by
        rcases List.mem_cons.mp hc with rfl | hc
        · exact hlz
        rcases List.mem_cons.mp hc with rfl | hc
        · exact hlTI
        rcases List.mem_cons.mp hc with rfl | hc
        · exact hlTO
        rcases List.mem_cons.mp hc with rfl | hc
        · exact hl1
        · have e : c = i2 := by simpa using hc
          subst e
          exact hl2
      rw [upd_ne (Nat.ne_of_lt hlt)]
      exact (hf c hc).1
  done := by
    intro X hP hw hK hc i pins s σ H E I hf st hg
    subst hP hw hK
    obtain ⟨xs, ys, hqx, hqy, hx⟩ := hg
    obtain ⟨its, rv, p, hz⟩ := I.list hqx
    obtain ⟨its2, rv2, p2, hz2⟩ := I.list hqy
    obtain ⟨h1, h2, ⟨u0, v0, h3⟩, h4, h5⟩ := st
    obtain ⟨o4, g4, c4, _⟩ := id h4
    obtain ⟨o5, g5, c5, _⟩ := id h5
    have hL := p.isList
    have hL2 := p2.isList
    have ap : ZipApart z TI TO i1 i2 a b := ⟨n1, n2, n3, n4, n5, n6, n7, n8, n9, n0, cls_ne hL h1 rfl (by decide), cls_ne hL h3 rfl (by decide), cls_ne hL g4 c4 (by decide), cls_ne hL g5 c5 (by decide), cls_ne hL2 h1 rfl (by decide), cls_ne hL2 h3 rfl (by decide), cls_ne hL2 g4 c4 (by decide), cls_ne hL2 g5 c5 (by decide)⟩
    have e1 := rv.length
    have e2 := rv2.length
    refine wpAny_pyNext_zip_end (I.ok.hd hc) ap h1 h2 h3 h4 h5 hL hL2 ?_ fun h' kp => ⟨rfl, I.turnedL0 (t' := s.toks) (ch := [z, TI, TO, i1, i2]) (fun c ob hc q => ?_) hf I.tk⟩
    · rcases hx with hx | hx
      · exact .inl (by simp; omega)
      · exact .inr (by simp; omega)
    · simp only [List.mem_cons, List.mem_nil_iff, or_false, not_or] at hc
      exact kp c ob hc.1 hc.2.2.1 hc.2.2.2.1 hc.2.2.2.2 q
  self := fun _ _ _ _ _ st h => wpAny_pyIter_zip st.1 h
def iZip (K : PySem.W.Frag) (ta : TA) : TI := fun σ H R => ta σ H fun vs H1 => ∃ a b, vs = [.ref a, .ref b] ∧ (∃ xs, SqL K H1 a xs) ∧ (∃ ys, SqL K H1 b ys) ∧ R (Itz K a b) H1
theorem pi_zip {l l2 : Expr} {ta : TA} {p pos : Pos} {elts : List Expr} {k : Nat} {pos' : Pos} (hg : Gl X "zip") (hm : X.mg "zip" = none) (ha : PA X [l, l2] ta) (hs : starEach [l, l2] X.env = (false, eval l X.env) :: starEach [l2] X.env) (hs2 : (backTo pos (starEach [l2] X.env)).any (·.1) = false) :
    PI X (.Tuple elts k pos') (.Call (.Name "zip" p) [l, l2] [] pos) (iZip X.K ta) := by
  intro pins s σ H R I h
  refine Call_ (ld_blt I hg hm boot_zip (PyProof.Rows.callWith_type1 (thn (ha pos pins s σ H _ I h) fun us s1 ⟨vs, H1, I1, r1, q1⟩ => ?_) hs hs2))
  obtain ⟨a, b, e, ⟨xs, hqa⟩, ⟨ys, hqb⟩, q⟩ := q1
  subst e
  obtain ⟨u, v, rfl, ru, rv⟩ := r1.two
  cases ru
  cases rv
  obtain ⟨its, _, pl, _⟩ := I1.list hqa
  obtain ⟨its2, _, pl2, _⟩ := I1.list hqb
  refine call_zip_2 pl.isList pl2.isList fun h' g1 g2 g3 g4 g5 g6 g7 => ?_
  refine wpAny_pyIter_zip g1 ?_
  refine ⟨s1.heap.objs.size + 4, [s1.heap.objs.size + 4, s1.heap.objs.size + 2, s1.heap.objs.size + 3, s1.heap.objs.size, s1.heap.objs.size + 1], _, _, H1, rfl, I1.kept (t' := s1.toks) g7,
    turn_zip a b _ (s1.heap.objs.size + 2) (s1.heap.objs.size + 3) s1.heap.objs.size (s1.heap.objs.size + 1) (show (s1.heap.objs.size + 2 : Nat) ≠ s1.heap.objs.size + 4 by omega) (show (s1.heap.objs.size + 3 : Nat) ≠ s1.heap.objs.size + 4 by omega) (show (s1.heap.objs.size : Nat) ≠ s1.heap.objs.size + 4 by omega) (show (s1.heap.objs.size + 1 : Nat) ≠ s1.heap.objs.size + 4 by omega) (show (s1.heap.objs.size + 2 : Nat) ≠ s1.heap.objs.size + 3 by omega) (show (s1.heap.objs.size + 2 : Nat) ≠ s1.heap.objs.size by omega) (show (s1.heap.objs.size + 2 : Nat) ≠ s1.heap.objs.size + 1 by omega) (show (s1.heap.objs.size + 3 : Nat) ≠ s1.heap.objs.size by omega) (show (s1.heap.objs.size + 3 : Nat) ≠ s1.heap.objs.size + 1 by omega) (show (s1.heap.objs.size : Nat) ≠ s1.heap.objs.size + 1 by omega), ⟨g1, g2, ⟨_, _, g3⟩, g4, g5⟩, fun c hc => ?_, q⟩
  have hb' : s1.heap.objs.size ≤ c := by
    rcases List.mem_cons.mp hc with rfl | hc
    · exact Nat.le_add_right _ _
    rcases List.mem_cons.mp hc with rfl | hc
    · exact Nat.le_add_right _ _
    rcases List.mem_cons.mp hc with rfl | hc
    · exact Nat.le_add_right _ _
    rcases List.mem_cons.mp hc with rfl | hc
    · exact Nat.le_refl _
    · rw [show c = s1.heap.objs.size + 1 by simpa using hc]
      exact Nat.le_add_right _ _
  exact I1.fpOk hb' (I1.hok.fresh hb')
theorem xiz {l l2 : Expr} {t : TA} {p pos : Pos} {elts : List Expr} {k : Nat} {pos' : Pos} (hm : X.mg "zip" = none) (ha : XA X [l, l2] t) (hg : Gl X "zip" := by exact rfl) (h : isStar l = false := by rfl) (h2 : isStar l2 = false := by rfl) : XI X (.Tuple elts k pos') (.Call (.Name "zip" p) [l, l2] [] pos) (iZip X.K t) :=
  ⟨pi_zip hg hm ha.h (star_cons h) (by rw [star_cons h2]; rfl)⟩
/-! ### xs[::-1], as it is -/
theorem filterMap_rangeA {α : Type} (l : List α) : ∀ (n a : Nat), a + n ≤ l.length → ((List.range n).filterMap fun k => l[a + k]?) = (l.drop a).take n := by
  intro n
  induction n with
  | zero => intro a _; simp
  | succ n ih =>
    intro a h
    rw [List.range_succ, List.filterMap_append, ih a (by omega), List.take_add_one]
    have : a + n < l.length := by omega
    simp [List.getElem?_drop, this]
theorem fm_congr {α β : Type} {f g : α → Option β} : ∀ {l : List α}, (∀ x ∈ l, f x = g x) → l.filterMap f = l.filterMap g
  | [], _ => rfl
  | x :: l, h => by
    rw [List.filterMap_cons, List.filterMap_cons, h x (List.mem_cons_self ..), fm_congr fun y hy => h y (List.mem_cons_of_mem _ hy)]
theorem pick_rev {α : Type} (xs : List α) : (sliceRange (sliceBounds none none (some (-1)) xs.length).fst (sliceBounds none none (some (-1)) xs.length).snd.fst (sliceBounds none none (some (-1)) xs.length).snd.snd).filterMap (xs[·]?) = xs.reverse := by
  have hb : sliceBounds none none (some (-1)) xs.length = ((xs.length : Int) - 1, -1, -1) := by
    unfold sliceBounds
    simp only [Option.getD_some]
    rw [if_neg (by decide), if_neg (by decide)]
  rw [hb]
  show (sliceRange ((xs.length : Int) - 1) (-1) (-1)).filterMap (xs[·]?) = xs.reverse
  have hs : sliceRange ((xs.length : Int) - 1) (-1) (-1) = (List.range xs.length).map fun k => xs.length - 1 - k := by
    unfold sliceRange
    simp only []
    rw [if_neg (by decide), show (- -1 : Int) = 1 from rfl, Int.ediv_one]
    have hc : (if ((xs.length : Int) - 1) > -1 then (xs.length : Int) - 1 - -1 - -1 - 1 else 0).toNat = xs.length := by split <;> omega
    rw [hc]
    refine List.map_congr_left fun k hk => ?_
    have := List.mem_range.mp hk
    omega
  rw [hs, List.filterMap_map]
  have h2 : (List.range xs.length).filterMap ((xs[·]?) ∘ fun k => xs.length - 1 - k) = (List.range xs.length).filterMap fun k => xs.reverse[k]? := by
    refine fm_congr fun k hk => ?_
    have hk := List.mem_range.mp hk
    show xs[xs.length - 1 - k]? = xs.reverse[k]?
    rw [List.getElem?_reverse hk]
  rw [h2]
  have h3 : ∀ (zs : List α), (List.range zs.length).filterMap (fun k => zs[k]?) = zs := by
    intro zs
    have := filterMap_rangeA zs zs.length 0 (by omega)
    simpa using this
  have := h3 xs.reverse
  rwa [List.length_reverse] at this
def tRevX (K : PySem.W.Frag) (te : TE) : TE := fun σ H Q => te σ H fun x H1 => ∃ a xs, x = .ref a ∧ SqL K H1 a xs ∧ ∀ p, H1 p = none → Q (.ref p) (upd H1 p (.lst xs.reverse))
theorem pe_revX {e : Expr} {te : TE} {j : Nat} {p1 p2 p3 pos : Pos} (he : PE X e te) : PE X (.Subscript e (.Slice none none (some (.UnaryOp .USub (.Constant (.int 1) j p1) p3)) p2) pos) (tRevX X.K te) := by
  intro pins s σ H Q I h
  refine Subscript_ (thn (he pins s σ H _ I h) fun v s1 ⟨x, H1, I1, r1, q1⟩ => ?_)
  obtain ⟨a, xs, rfl, hx, q⟩ := q1
  cases r1
  refine wpAny_Slice ?_
  rw [evalPart_none]
  refine wpAny_pure (wpAny_pure ?_)
  rw [evalPart_some]
  refine thn ((pe_un un_neg pe_int (pos := p3)) pins s1 σ H1 (fun y H' => y = .int (-1) ∧ H' = H1) I1 ⟨1, rfl, rfl, rfl⟩) fun st s2 ⟨y, H2, I2, r2, e1, e2⟩ => ?_
  subst e1 e2
  obtain ⟨t, rfl⟩ := r2
  have I4 : Inv X pins σ H2 { s2 with heap := s2.heap.push { cls := .type "slice", data := .fields #[.none, .none, .int (-1) t] } } := I2.kept (t' := s2.toks) fun b ob q => Heap.get?_push_of_some _ q
  obtain ⟨its, r, ht, hz⟩ := I4.list hx
  have hlen := r.length
  show wpAny (model X.prog X.w) X.A (subscriptTail e (.Slice none none (some (.UnaryOp .USub (.Constant (.int 1) j p1) p3)) p2) (.ref a) (.ref s2.heap.objs.size)) (EP X pins σ Q) X.xe { s2 with heap := s2.heap.push { cls := .type "slice", data := .fields #[.none, .none, .int (-1) t] } }
  refine tail_any (ops := [.ref a, .ref s2.heap.objs.size]) ht.isList.typeIs slot_list_getitem.lookup ?_ (by with_unfolding_all rfl)
  refine wpAny_getItem_list_slice ht.isList (Heap.IsSliceOf.new ..) .none .none (.int (-1) t) (by decide) ?_ (by rw [List.size_toArray] <;> omega)
  have hsz : its.toArray.size = xs.length := by rw [List.size_toArray]; omega
  have e : slicePick its.toArray none none (some (-1)) = its.reverse.toArray := by
    unfold slicePick
    rw [List.size_toArray, ← pick_rev its]
    simp
  rw [e]
  refine ⟨.ref _, _, I4.laid (t' := s2.toks) (o := .lst xs.reverse) (fun b ob q => Heap.get?_push_of_some _ q) (Nat.le_refl _) ?_, rfl, q _ (I4.hok.fresh (Nat.le_refl _))⟩
  exact ⟨by rw [List.length_reverse]; exact hz, _, 0, r.reverse, Heap.get?_push_size _ rfl⟩
theorem xrevX {e : Expr} {te : TE} {pos p1 p2 p3 : Pos} {j : Nat} (he : XE X e te) : XE X (.Subscript e (.Slice none none (some (.UnaryOp .USub (.Constant (.int 1) j p1) p3)) p2) pos) (tRevX X.K te) := ⟨pe_revX he.h⟩
end
end L2

set_option Elab.async false
set_option linter.all false
set_option maxRecDepth 100000
/-! Exceptions of own classes: how one is made, leaves a def, passes on, is caught. -/
namespace L2
open PySem PySem.Spec PyProof.Rows
/-! ### an exception and its trace -/
section
variable {h h' B : Heap} {e T : Addr} {cls a0 fl : Value}
end
/-! ### hiding: what the rules of a flight keep -/
/-! ### an exception that has left a def -/
/-! ### an exception within the frame -/
section
variable {X : Cx} {pins : List (Addr × Obj)} {σ : St} {H H' : Hp} {e T : Addr} {cls a0 fl fl' : Value} {s s' : Shared} {h' : Heap}
variable {M : Model} {A : Around} {E : Value → Shared → Prop} {Q : Unit → Shared → Prop}
end
end L2

set_option Elab.async false
set_option linter.all false
set_option maxRecDepth 100000
/-! raise, try, and calls that may raise. -/
namespace L2
open PySem PySem.Spec PyProof.Rows
/-! ### leaving a def -/
section
variable {P : Program} {w : World} {K : PySem.W.Frag} {mg : Str → Option Value} {base : Heap} {N : List Str} {qual : Str} {scope : Scope} {f : Addr} {cd : Value} {A : Around} {outer : List Env} {s₀ : Shared} {H₀ : Hp} {E : XK}
end
/-! ### raise -/
section
variable {X : Cx} {C : Addr} {E : XK} {x : Str} {e0 : Expr} {rest : List Expr} {ta : TA} {np cpos pos : Pos}
end
/-! ### a def that may raise -/
section
variable {X : Cx} {k : Nat} {x : Str} {ps : List Str} {sp : Sp} {e : Expr} {es : List Expr} {te : TE} {t : TA} {p pos : Pos}
/-! ### code that may raise, the exception seen with the names as they are -/
end
/-! ### try -/
section
variable {X : Cx} {x n : Str} {C : Addr} {i : Nat} {body suite : List Stmt} {b₀ : Stmt} {np hpos pos : Pos} {tb : TSx} {th : TS}
end
end L2

set_option Elab.async false
set_option linter.all false
set_option maxRecDepth 100000
/-! isinstance of a caught exception of an own class. -/
namespace L2
open PySem PySem.Spec PySem.Calls PyProof.Rows PySem.W PySem.Builtin PySem.Builtin.Str PySem.Builtin.ObjectAttr PySem.Builtin.Getset_descriptor
section
variable {prog : Program} {w : World} {A : Around} {E : Value → Shared → Prop} {s : Shared} {K : PySem.W.Frag} {e C : Addr}
end
/-! ### the rules in short -/
section
variable {X : Cx} {x : Str} {pos p : Pos}
theorem xgC {C : Addr} (hm : X.mg x = some (.ref C)) (hg : Gl X x := by exact rfl) (hd : (x == ("__debug__" : Str)) = false := by decide) : XE X (.Name x pos) (tC (.ref C)) := ⟨pe_glob hg hm rfl hd⟩
/-! ### the empty dict, a text many times -/
end
end L2

set_option Elab.async false
set_option linter.all false
set_option maxRecDepth 100000
/-! rules for a comprehension's block that name the outer context's fragment -/
namespace L2
open PySem PySem.Spec PyProof.Rows
section
variable {X : Cx} {scope : Scope} {cl : List (Str × Addr)} {C : Addr} {N' : List Str} {fp : List Addr} {s : Shared} {H : Hp} {o e : Expr} {es : List Expr} {to : TE} {t : TA} {apos cpos : Pos}
theorem xmC {name : Str} {T id : String} {r : V → List V → Hp → VK → Prop} (pa : PlainAttrs T) (slot : Slot T name id) (hty : typeOf (.builtin id) = pure (.type "method_descriptor")) (hm : MtR (compX X scope cl C N' fp s H) id r)
    (ho : XE (compX X scope cl C N' fp s H) o to) (ha : XA (compX X scope cl C N' fp s H) (e :: es) t) (hb : plainBase o = true := by rfl) (hst : noStars (e :: es) = true := by rfl)
    (hl : decide ((e :: es).length + ([] : List Keyword).length + (if ([] : List Keyword).isEmpty then 0 else 1) < 30) = true := by rfl) (hline : (apos.endLine == cpos.line) = true := by rfl) :
    XE (compX X scope cl C N' fp s H) (.Call (.Attribute o name apos) (e :: es) [] cpos) (tBM X.K T r to t) := xm (X := compX X scope cl C N' fp s H) pa slot hty hm ho ha hb hst hl hline
end
end L2

set_option Elab.async false
set_option linter.all false
set_option maxRecDepth 100000
/-! Closures: a def within a def, what it captures, a call with it, a call of it. -/
namespace L2
open PySem PySem.Spec PyProof.Rows

/-! ### the closure's body -/





end L2

set_option Elab.async false
set_option linter.all false
set_option maxRecDepth 100000
/-! A def within a def: the statement. -/
namespace L2
open PySem PySem.Spec PyProof.Rows

/-! ### what it captures -/

/-! ### the table of a def's codes -/







section
variable {X : Cx} {c P : Addr} {name : Str} {params : Arguments} {body : List Stmt} {scope : Scope} {pos : Pos} {qs : List (Pos × Str)} {i : Nat}
end
end L2

set_option Elab.async false
set_option linter.all false
set_option maxRecDepth 100000
/-! A call with closures: the callee's base holds them. A call of a closure. -/
namespace L2
open PySem PySem.Spec PyProof.Rows



section
variable {X : Cx} {pins : List (Addr × Obj)} {σ : St} {H : Hp} {s : Shared} {D : List Clo}


end

section
variable {X : Cx} {k i : Nat} {x : Str} {ps : List Str} {sp : Sp} {e : Expr} {es : List Expr} {te : TE} {t : TA} {p pos : Pos}

/-- a function that stands in the base, as a value -/
structure FnV (P : Program) (w : World) (K : PySem.W.Frag) (mg : Str → Option Value) (base : Heap) (k : Nat) (g : Addr) (ps : List Str) (sp : Sp) : Prop where
  ex : ∃ fd, FnOk P w K mg base CX0 k g fd ps sp ∧ Binds K fd ps [] ∧ PySem.W.FnAt g base
theorem FnV.mono {P : Program} {w : World} {K : PySem.W.Frag} {mg : Str → Option Value} {base : Heap} {j k : Nat} {g : Addr} {ps : List Str} {sp : Sp} (V : FnV P w K mg base j g ps sp) (h : j ≤ k) : FnV P w K mg base k g ps sp := let ⟨fd, F, r⟩ := V.ex; ⟨fd, F.mono h, r⟩
/-- x(..), x a name of the def that holds a function -/
def tCallV (X : Cx) (k i : Nat) (t : TA) : TE := fun σ H Q => ∃ g ps sp, σ[i]? = some (some (.ref g)) ∧ FnV X.prog X.w X.K X.mg X.base k g ps sp ∧ t σ H fun vs H1 => sp vs H1 Q E0
theorem FnAt.keeps' {h h' : Heap} {q : Addr} (x : PySem.W.FnAt q h) (k : ∀ b o, h.get? b = some o → h'.get? b = some o) : PySem.W.FnAt q h' := let ⟨a, b, c, d, e⟩ := x; ⟨a, b, c, d, k _ _ e⟩
theorem pe_callV (hN : X.N[i]? = some x) (hv : Vis X.env.scope x) (hr : Room k X.A) (ha : PA X (e :: es) t) (hd : (x == ("__debug__" : Str)) = false := by decide) (hcd : (x == ("__classdict__" : Str)) = false := by decide)
    (he : starEach (e :: es) X.env = (false, eval e X.env) :: starEach es X.env := by rfl) (hpl : (backTo pos (starEach es X.env)).any (·.1) = false := by rfl) :
    PE X (.Call (.Name x p) (e :: es) [] pos) (tCallV X k i t) := by
  intro pins s σ H Q I h
  obtain ⟨g, ps, sp, hg, V, h⟩ := h
  obtain ⟨fd, F, hb, hat⟩ := V.ex
  refine wpAny_Call_Name_kw (thn (pe_var hN hv hd hcd pins s σ H (fun v H' => v = .ref g ∧ H' = H) I ⟨_, hg, rfl, rfl⟩) fun u s1 ⟨v, H', I1, r, hv', hH⟩ => ?_)
  subst hv'; subst hH
  obtain rfl : u = Value.ref g := r
  refine PySem.W.callWith_F (FnAt.keeps' hat I1.bk) (thn (ha pos pins s1 σ _ _ I1 h) fun us s2 ⟨vs, H2, I2, r2, q⟩ => ⟨FnAt.keeps' hat I2.bk, ?_⟩) he hpl
  exact run_fn (ds := []) (dvs := []) F hr hb .nil pass0 I2 r2 (by rw [List.append_nil]; exact q)
end
end L2

set_option Elab.async false
set_option linter.all false
set_option maxRecDepth 100000
/-! The head with tables of codes; a def that has defs within it. -/
namespace L2
open PySem PySem.Spec PyProof.Rows

section
variable {P : Program} {w : World} {K : PySem.W.Frag} {mg : Str → Option Value} {base : Heap}
end

/-! ### the fragment without the tables -/

end L2

/-! Texts as lists of signs: splitting, words, tidy, cells. -/
namespace Lm
/-- glue -/
def glueC (g : List Nat) : List (List Nat) → List Nat
  | [] => []
  | [p] => p
  | p :: q :: r => p ++ g ++ glueC g (q :: r)
theorem glueC_cons (g p : List Nat) (r : List (List Nat)) (h : r ≠ []) : glueC g (p :: r) = p ++ g ++ glueC g r := by
  cases r with
  | nil => exact absurd rfl h
  | cons q r => rfl
end Lm

set_option linter.all false
namespace Lm
open PySem PySem.Builtin PySem.Builtin.Str PySem.StrLaws
abbrev S (l : List Nat) : Str := ⟨l.toArray⟩
theorem S_len (l : List Nat) : (S l).length = l.length := by simp [Str.length]
theorem S_list (l : List Nat) : (S l).cps.toList = l := by simp
theorem S_inj {a b : List Nat} (h : S a = S b) : a = b := by
  have := congrArg (fun x : Str => x.cps.toList) h
  simpa using this
theorem S_app (a b : List Nat) : S a ++ S b = S (a ++ b) := by
  show Str.append (S a) (S b) = _
  simp [Str.append]
theorem glued_S (g : List Nat) (ps : List (List Nat)) : glued (S g) (ps.map S) = S (glueC g ps) := by
  have key : ∀ (ps : List (List Nat)) (acc : List Nat), (ps.map S).foldl (fun acc p => acc ++ (S g).cps ++ p.cps) acc.toArray = (acc ++ (ps.map fun p => g ++ p).flatten).toArray := by
    intro ps
    induction ps with
    | nil => intro acc; simp
    | cons p r ih =>
      intro acc
      rw [List.map_cons, List.foldl_cons]
      have e : acc.toArray ++ (S g).cps ++ (S p).cps = (acc ++ g ++ p).toArray := by simp
      rw [e, ih]
      simp
  have gl : ∀ (p : List Nat) (r : List (List Nat)), glueC g (p :: r) = p ++ (r.map fun p => g ++ p).flatten := by
    intro p r
    induction r generalizing p with
    | nil => simp [glueC]
    | cons q r ih => rw [glueC_cons g p (q :: r) (by simp), ih q]; simp
  unfold glued
  cases ps with
  | nil => rfl
  | cons p r =>
    rw [gl]
    show (⟨(List.drop 1 (S p :: r.map S)).foldl _ (S p).cps⟩ : Str) = _
    rw [List.drop_one, List.tail_cons, key]
theorem joinT_S (g : List Nat) (ps : List (List Nat)) : Txt.join (S g) (ps.map S) = S (glueC g ps) := glued_S g ps
/-! ### stripping -/
def rstripL (p : Nat → Bool) (l : List Nat) : List Nat := (l.reverse.dropWhile p).reverse
theorem take_len_sub (l : List Nat) (p : Nat → Bool) : l.take (l.length - (l.reverse.takeWhile p).length) = rstripL p l := by
  unfold rstripL
  have h : l.reverse = l.reverse.takeWhile p ++ l.reverse.dropWhile p := (List.takeWhile_append_dropWhile).symm
  have h2 : l = (l.reverse.dropWhile p).reverse ++ (l.reverse.takeWhile p).reverse := by
    have := congrArg List.reverse h
    rw [List.reverse_reverse, List.reverse_append] at this
    exact this
  conv => lhs; arg 2; rw [h2]
  have e : l.length - (l.reverse.takeWhile p).length = (l.reverse.dropWhile p).reverse.length := by
    have := congrArg List.length h
    rw [List.length_append, List.length_reverse] at this
    rw [List.length_reverse]
    omega
  rw [e, List.take_left]
theorem rstrip_S (l y : List Nat) : Txt.rstripChars (S l) (S y) = S (rstripL y.contains l) := by
  have e : (S y).cps.contains = y.contains := by funext c; simp
  unfold Txt.rstripChars Txt.stripBy
  rw [e]
  have h0 : stripLo y.contains false (S l) = 0 := rfl
  have h1 : stripHi y.contains true (S l) 0 = l.length - (l.reverse.takeWhile y.contains).length := by
    simp [stripHi, Str.length]
  split
  · rename_i h
    rw [stripSame, h0, h1] at h
    simp only [beq_self_eq_true, Bool.true_and, beq_iff_eq, S_len] at h
    rw [← take_len_sub, h, List.take_length]
  · rw [stripped, h0, h1]
    unfold strSub
    rw [← take_len_sub]
    simp
/-! ### occurrences -/

/-! ### replace -/
/-! ### slices -/
def clipL (n : Nat) (d : Nat) : Option Int → Nat
  | none => d
  | some i => (max 0 (min (if i < 0 then i + n else i) n)).toNat
def cutL (l : List Nat) (lo hi : Option Int) : List Nat := (l.drop (clipL l.length 0 lo)).take (clipL l.length l.length hi - clipL l.length 0 lo)
theorem filterMap_range (l : List Nat) : ∀ (n a : Nat), a + n ≤ l.length → ((List.range n).map fun (k : Nat) => a + k).filterMap (l[·]?) = (l.drop a).take n := by
  intro n
  induction n with
  | zero => intro a _; simp
  | succ n ih =>
    intro a h
    rw [List.range_succ, List.map_append, List.filterMap_append, ih a (by omega), List.take_add_one]
    have : a + n < l.length := by omega
    simp [List.getElem?_drop, this]
theorem slice_S (l : List Nat) (lo hi : Option Int) : Txt.slice (S l) lo hi = S (cutL l lo hi) := by
  have key : ∃ (a b : Nat), a = clipL l.length 0 lo ∧ b = clipL l.length l.length hi ∧ a ≤ l.length ∧ b ≤ l.length ∧ strSliceIndices lo hi 1 l.length = (List.range (b - a)).map fun (k : Nat) => a + k := by
    refine ⟨_, _, rfl, rfl, ?_, ?_, ?_⟩
    · cases lo <;> simp only [clipL] <;> omega
    · cases hi <;> simp only [clipL] <;> omega
    · unfold strSliceIndices sliceRange
      have e1 : (1 : Int) > 0 := by decide
      simp only [e1, if_true]
      cases lo <;> cases hi <;> simp only [clipL] <;> (refine congr (congrArg List.map ?_) (congrArg List.range ?_)) <;> first | (funext k; omega) | (split <;> omega) | (split <;> (try split) <;> omega)
  obtain ⟨a, b, ea, eb, ha, hb, e⟩ := key
  unfold Txt.slice cutL
  rw [S_len, e, ← ea, ← eb]
  simp only [List.length_map, List.length_range]
  split
  · rename_i h
    simp only [beq_self_eq_true, Bool.true_and, beq_iff_eq] at h
    have h1 : a = 0 := by omega
    have h2 : b = l.length := by omega
    rw [h1, h2]
    simp
  · rename_i h
    congr 1
    have q := filterMap_range l (b - a) a (by omega)
    rw [← q]
    congr 2
    funext i
    simp
end Lm

set_option linter.all false
namespace Lm
/-! ### the texts between bars -/
/-! ### one more sign -/
/-! ### bars with a backslash -/
end Lm

set_option linter.all false
namespace Lm
/-! ### blanks at the ends -/
/-! ### names -/
/-! ### sorts -/
/-! ### the law's way -/
/-! headings -/
end Lm

set_option linter.all false
namespace Lm
/-! ### lengths -/
/-! ### signs below 128 -/
def Asc (l : List Nat) : Prop := ∀ c ∈ l, c < 128
theorem Asc.sub {a b : List Nat} (h : Asc b) (s : ∀ c ∈ a, c ∈ b) : Asc a := fun c hc => h c (s c hc)
theorem Asc.drop {l : List Nat} (h : Asc l) (n : Nat) : Asc (l.drop n) := h.sub fun c hc => List.mem_of_mem_drop hc
theorem Asc.take {l : List Nat} (h : Asc l) (n : Nat) : Asc (l.take n) := h.sub fun c hc => List.mem_of_mem_take hc
theorem strOk_S {l : List Nat} (h : Asc l) : PySem.PyData.strOk (S l) = true := by
  unfold PySem.PyData.strOk
  rw [Array.all_eq_true_iff_forall_mem]
  intro c hc
  have : c ∈ l := by simpa using hc
  have := h c this
  exact decide_eq_true (by omega)
/-! ### the pieces between places -/
end Lm

set_option Elab.async false
set_option linter.all false
set_option maxRecDepth 100000
set_option maxHeartbeats 4000000
namespace Lw
open PySem L2 Lm
theorem big {n : Nat} (h : n ≤ 1000000) : n ≤ sizeLine := by rw [sizeLine_eq]; omega
theorem bigS {l : List Nat} (h : l.length ≤ 1000000) : (S l).length ≤ sizeLine := by rw [S_len]; exact big h
theorem at_S {l : List Nat} {i : Nat} (h : i < l.length) : atI (S l).cps.toList (i : Int) = some (l.getD i 0) := by
  rw [S_list]
  refine atI_nat ?_
  rw [List.getD_eq_getElem?_getD, List.getElem?_eq_getElem h]
  simp
section
variable {a b : List Nat} {x y : V}
end
section
variable {P : Program} {w : World} {K : PySem.W.Frag} {mg : Str → Option Value} {base : Heap}
/-! is_parting_bar -/
/-! words_of -/
/-! tidy -/
theorem map_S_V (ws : List (List Nat)) : (ws.map fun w => V.str (S w)) = (ws.map S).map V.str := by rw [List.map_map]; rfl
end
abbrev vS (l : List Nat) : V := .str (S l)
section
variable {P : Program} {w : World} {K : PySem.W.Frag} {mg : Str → Option Value} {base : Heap}
/-! split_cells -/
end
theorem cut_from (l : List Nat) (b : Nat) : cutL l (some (b : Int)) none = l.drop b := by
  unfold cutL
  have e : clipL l.length 0 (some (b : Int)) = min b l.length := by unfold clipL; simp only []; omega
  rw [e]
  show (l.drop (min b l.length)).take (l.length - min b l.length) = l.drop b
  rcases Nat.le_total b l.length with h | h
  · rw [Nat.min_eq_left h, List.take_of_length_le (by rw [List.length_drop]; exact Nat.le_refl _)]
  · rw [Nat.min_eq_right h, Nat.sub_self, List.take_zero, List.drop_eq_nil_of_le h]
theorem cut_to (l : List Nat) (p : Nat) : cutL l none (some (p : Int)) = l.take p := by
  unfold cutL
  have e : clipL l.length l.length (some (p : Int)) = min p l.length := by unfold clipL; simp only []; omega
  rw [e]
  show (l.drop 0).take (min p l.length - 0) = l.take p
  rw [List.drop_zero, Nat.sub_zero]
  rcases Nat.le_total p l.length with h | h
  · rw [Nat.min_eq_left h]
  · rw [Nat.min_eq_right h, List.take_of_length_le (Nat.le_refl _), List.take_of_length_le h]
theorem cut_any (l : List Nat) (b p : Nat) : cutL l (some (b : Int)) (some (p : Int)) = (l.drop b).take (p - b) := by
  unfold cutL
  have e : clipL l.length 0 (some (b : Int)) = min b l.length := by unfold clipL; simp only []; omega
  have e2 : clipL l.length l.length (some (p : Int)) = min p l.length := by unfold clipL; simp only []; omega
  rw [e, e2]
  rcases Nat.le_total b l.length with h | h
  · rw [Nat.min_eq_left h]
    rcases Nat.le_total p l.length with h2 | h2
    · rw [Nat.min_eq_left h2]
    · rw [Nat.min_eq_right h2, List.take_of_length_le (by rw [List.length_drop]; exact Nat.le_refl _), List.take_of_length_le (by rw [List.length_drop]; omega)]
  · rw [Nat.min_eq_right h, List.drop_eq_nil_of_le h, List.drop_eq_nil_of_le (Nat.le_refl _)]; simp
section
variable {P : Program} {w : World} {K : PySem.W.Frag} {mg : Str → Option Value} {base : Heap}
/-! is_name -/
/-! name_of -/
/-! rest_of_quote -/
/-! heading_level -/
/-! is_cells -/
end
/-- what a test tells, the heap grown -/
def Tells (t : TT) (σ : St) (H : Hp) (a : Bool) : Prop := ∀ R : Bool → Hp → Prop, (∀ H', Same H H' → R a H') → t σ H R
theorem t_and {t u : TT} {σ : St} {H : Hp} (a b : Bool) (ht : Tells t σ H a) (hu : a = true → ∀ H1, Same H H1 → Tells u σ H1 b) : Tells (tAnd t u) σ H (a && b) := by
  intro R k
  refine ht _ fun H1 s1 => ?_
  cases a with
  | true => exact hu rfl H1 s1 R fun H' s' => k H' (s1.trans s')
  | false => exact k H1 s1
theorem t_or {t u : TT} {σ : St} {H : Hp} (a b : Bool) (ht : Tells t σ H a) (hu : a = false → ∀ H1, Same H H1 → Tells u σ H1 b) : Tells (tOr t u) σ H (a || b) := by
  intro R k
  refine ht _ fun H1 s1 => ?_
  cases a with
  | false => exact hu rfl H1 s1 R fun H' s' => k H' (s1.trans s')
  | true => exact k H1 s1
theorem t_not {t : TT} {σ : St} {H : Hp} (a : Bool) (ht : Tells t σ H a) : Tells (tNot t) σ H (!a) := fun R k => ht _ fun H1 s1 => k H1 s1
theorem s_if {t : TT} {f g : TS} {D : Ends} {σ : St} {H : Hp} (a : Bool) (ht : Tells t σ H a) (k1 : ∀ H', Same H H' → a = true → f D σ H') (k2 : ∀ H', Same H H' → a = false → g D σ H') : tIfS t f g D σ H :=
  ht _ fun H' s' => ite2 (k1 H' s') fun c => k2 H' s' (Bool.eq_false_iff.mpr c)
section
variable {P : Program} {w : World} {K : PySem.W.Frag} {mg : Str → Option Value} {base : Heap}
/-! definition_of -/
end
section
variable {P : Program} {w : World} {K : PySem.W.Frag} {mg : Str → Option Value} {base : Heap}
/-! item_or_plain -/
/-! sort_of -/
end
section
variable {P : Program} {w : World} {K : PySem.W.Frag} {mg : Str → Option Value} {base : Heap}
/-! _law_mixed -/
/-! _law_signs -/
end
theorem asc_app {a b : List Nat} (h : Asc a) (k : Asc b) : Asc (a ++ b) := fun c hc => by
  rcases List.mem_append.mp hc with hc | hc
  · exact h c hc
  · exact k c hc
theorem w_ixs {H : Hp} {l : List Nat} {i : Int} {Q : VK} (hl : l.length ≤ 1000000) (h0 : 0 ≤ i) (h1 : i < (l.length : Nat)) (k : Q (vS [l.getD i.toNat 0]) H) : rIxS (vS l) (.int i) H Q := by
  have e := at_S (l := l) (i := i.toNat) (by omega)
  rw [show ((i.toNat : Nat) : Int) = i by omega] at e
  exact ⟨_, i, _, rfl, rfl, bigS hl, e, k⟩
section
variable {P : Program} {w : World} {K : PySem.W.Frag} {mg : Str → Option Value} {base : Heap}
/-! _law_row -/
end
/-! what an expression tells, the heap as it was -/
def Ev (te : TE) (σ : St) (H : Hp) (v : V) : Prop := ∀ R : VK, R v H → te σ H R
def EvO (t : TO) (σ : St) (H : Hp) (o : Option Int) : Prop := ∀ R : Option Int → Hp → Prop, R o H → t σ H R
section
variable {σ : St} {H : Hp} {ta tb : TE} {i j : Int} {a b l : List Nat} {v : V}
theorem ev_v {k : Nat} (h : σ[k]? = some (some v)) : Ev (tVar k) σ H v := fun R r => ⟨v, h, r⟩
theorem ev_c : Ev (tC v) σ H v := fun R r => r
theorem ev_lit {y : Str} (e : y = S b) : Ev (tC (.str y)) σ H (vS b) := fun R r => by rw [e]; exact r
theorem ev_len (hl : l.length ≤ 1000000) (h : Ev ta σ H (vS l)) : Ev (tCB (fun xs H Q => ∃ z, xs = [.str z] ∧ z.length ≤ sizeLine ∧ Q (.int z.length) H) (tCons ta tNil)) σ H (.int l.length) := fun R r =>
  h _ ⟨_, rfl, bigS hl, by rw [S_len]; exact r⟩
theorem ev_op {g : Int → Int → V} (h1 : Ev ta σ H (.int i)) (h2 : Ev tb σ H (.int j)) (e : g i j = v) : Ev (tOp (rI0 g) ta tb) σ H v := fun R r => h1 _ (h2 _ ⟨i, j, rfl, rfl, by rw [e]; exact r⟩)
theorem evo_s (h : Ev ta σ H (.int i)) : EvO (tPart ta) σ H (some i) := fun R r => h _ ⟨i, rfl, r⟩
theorem ev_sl {tl th : TO} {lo hi : Option Int} (hl : l.length ≤ 1000000) (h1 : Ev ta σ H (vS l)) (h2 : EvO tl σ H lo) (h3 : EvO th σ H hi) (e : cutL l lo hi = a) : Ev (tSl rSlS ta tl th) σ H (vS a) := fun R r =>
  h1 _ (h2 _ (h3 _ ⟨_, rfl, bigS hl, by rw [slice_S, e]; exact r⟩))
theorem t_eqs (h1 : Ev ta σ H (vS a)) (h2 : Ev tb σ H (vS b)) : Tells (tTest (tOp rEq ta tb)) σ H (decide (a = b)) := fun R k => h1 _ (h2 _ ⟨rfl, _, rfl, by
  have : decide (vS a = vS b) = decide (a = b) := decide_eq_decide.mpr ⟨fun h => S_inj (V.str.inj h), fun h => by rw [h]⟩
  rw [this]
  exact k H (Same.refl H)⟩)
theorem t_eqi (h1 : Ev ta σ H (.int i)) (h2 : Ev tb σ H (.int j)) : Tells (tTest (tOp rEq ta tb)) σ H (decide (i = j)) := fun R k => h1 _ (h2 _ ⟨rfl, _, rfl, by
  rw [show decide (V.int i = V.int j) = decide (i = j) from decide_eq_decide.mpr ⟨fun h => V.int.inj h, fun h => by rw [h]⟩]
  exact k H (Same.refl H)⟩)
end
theorem while_t {c : TT} {tb : TS} {D : Ends} {σ : St} {H : Hp} (Pv : Nat → St → Hp → Prop) (m0 : Nat) (h0 : Pv m0 σ H)
    (hs : ∀ m σ H, Pv m σ H → ∃ a, Tells c σ H a ∧ (a = true → ∀ H', Same H H' → tb { D with nx := fun σ' H' => ∃ m', m' < m ∧ Pv m' σ' H', ct := fun σ' H' => ∃ m', m' < m ∧ Pv m' σ' H', bk := D.nx } σ H') ∧ (a = false → ∀ H', Same H H' → D.nx σ H')) : tWhile c tb D σ H := by
  refine ⟨Pv, ⟨m0, h0⟩, fun m σ H p => ?_⟩
  obtain ⟨a, ht, h1, h2⟩ := hs m σ H p
  exact ht _ fun H' s' => ite2 (fun c => ⟨fun σ' H' => ∃ m', m' < m ∧ Pv m' σ' H', fun σ' H' h => h, h1 c H' s'⟩) fun c => h2 (Bool.eq_false_iff.mpr c) H' s'
/-! ### the bounds -/
section
variable {P : Program} {w : World} {K : PySem.W.Frag} {mg : Str → Option Value} {base : Heap}
/-! _law_bounds -/
end
section
variable {P : Program} {w : World} {K : PySem.W.Frag} {mg : Str → Option Value} {base : Heap}
/-! _law_cells -/
/-! _law_name -/
end
section
variable {P : Program} {w : World} {K : PySem.W.Frag} {mg : Str → Option Value} {base : Heap}
/-! _law_flush -/
/-! _law_due -/
end
/-! ### sorts as data -/
def dT (ts : List (List Nat)) : List PyData := ts.map fun t => .str (S t)
theorem dep_dT : ∀ ts : List (List Nat), PyData.depthAll (dT ts) ≤ 1
  | [] => by simp [dT, PyData.depthAll]
  | t :: ts => by
    have := dep_dT ts
    unfold dT at this ⊢
    rw [List.map_cons]
    simp only [PyData.depthAll, PyData.depth]
    omega
section
variable {K : PySem.W.Frag} {H : Hp}
theorem den_S {l : List Nat} (h : Asc l) : Den K H (vS l) (.str (S l)) := .str _ (strOk_S h)
theorem den_dT : ∀ {ts : List (List Nat)}, (∀ t ∈ ts, Asc t) → DenAll K H (ts.map vS) (dT ts)
  | [], _ => .nil
  | t :: ts, h => .cons (den_S (h t (List.mem_cons_self ..))) (den_dT fun u hu => h u (List.mem_cons_of_mem _ hu))
end
/-! ### what sort_of tells is of the row's signs -/
section
variable {P : Program} {w : World} {K : PySem.W.Frag} {mg : Str → Option Value} {base : Heap}
end
end Lw

set_option Elab.async false
set_option linter.all false
set_option maxRecDepth 100000
namespace Lw
open PySem L2 Lm
theorem mul_S (c : Nat) (n : Nat) : Txt.mul (S [c]) (n : Int) = S (List.replicate n c) := by
  unfold Txt.mul
  by_cases h : (n : Int) < 1
  · rw [if_pos h]
    have : n = 0 := by omega
    subst this
    rfl
  · rw [if_neg h]
    by_cases h1 : n = 1
    · subst h1; rfl
    · rw [if_neg (by
        rw [Bool.or_eq_true]
        rintro (z | z)
        · have : (n : Int) = 1 := by simpa using z
          omega
        · rw [S_len] at z; simp at z)]
      have key : ∀ (m : Nat) (acc : List Nat), List.foldl (fun x1 x2 => x1 ++ x2) acc.toArray (List.replicate m (S [c]).cps) = (acc ++ List.replicate m c).toArray := by
        intro m
        induction m with
        | zero => intro acc; simp
        | succ m ih =>
          intro acc
          rw [List.replicate_succ, List.foldl_cons]
          have e : acc.toArray ++ (S [c]).cps = (acc ++ [c]).toArray := by simp
          rw [e, ih (acc ++ [c]), List.replicate_succ]
          simp
      have := key n []
      rw [show (n : Int).toNat = n by omega]
      simp only [List.nil_append] at this
      rw [show (#[] : Array Nat) = ([] : List Nat).toArray from rfl, this]
section
variable {neat loose : List Nat}
/-! ### cells -/
end
/-- numbers walked: all that is told has the property -/
theorem lc_rangeA {n : Nat} {k : Nat} {fr : List Nat} {g : TG} {tt : TT} {te : TE} {σ : St} {H0 : Hp} {Q : Addr → Hp → Prop} (lo : Int) (Pr : V → Prop) (hl : n ≤ sizeLine)
    (ht : ∀ i, i < n → ∀ H', Same H0 H' → ∀ (C : V → Hp → Prop) (N : Hp → Prop), (∀ v H4, Same H' H4 → Pr v → C v H4) →
      g (.int (lo + (i : Nat))) (nfS k fr σ) H' fun σ2 H2 => nfLe k fr σ σ2 ∧ tt σ2 H2 fun b H3 => if b = true then te σ2 H3 C else N H3)
    (hq : ∀ D H' ys, H0 D = none → Same H0 H' → H' D = some (.lst ys) → ys.length = n → (∀ y ∈ ys, Pr y) → Q D H') : rLC k fr g tt te σ (Itr lo n) H0 Q := by
  intro D hD
  refine ⟨fun i m acc H => m = n - i ∧ i ≤ n ∧ acc.length = i ∧ (∀ y ∈ acc, Pr y) ∧ H D = some (.lst acc) ∧ Same H0 H, ⟨n, by simp, Nat.zero_le _, rfl, (fun _ z => nomatch z), upd_same, same_new hD _⟩, ?_⟩
  rintro i m acc H ⟨rfl, hi, ha, hP, hDa, sm⟩
  refine ⟨hDa, ?_⟩
  by_cases hlt : i < n
  · refine .inr ⟨hlt, ?_⟩
    rintro x H' ⟨rfl, rfl⟩
    refine ht i hlt _ sm _ _ fun v H4 s4 pv => ?_
    refine ⟨s4 _ _ hDa, by omega, n - (i + 1), by omega, rfl, hlt, by rw [List.length_append, ha]; rfl, ?_, upd_same, same_grow hD (sm.trans s4)⟩
    intro z hz
    rcases List.mem_append.mp hz with hz | hz
    · exact hP z hz
    · rw [show z = v by simpa using hz]; exact pv
  · exact .inl ⟨by show n ≤ i; omega, hq D H acc hD sm hDa (by omega) hP⟩
/-- texts of one sign each -/
theorem signs_of {p : Nat → Prop} : ∀ {ys : List V}, (∀ y ∈ ys, ∃ c, y = vS [c] ∧ p c) → ∃ cs : List Nat, ys = (cs.map fun c => S [c]).map V.str ∧ cs.length = ys.length ∧ ∀ c ∈ cs, p c
  | [], _ => ⟨[], rfl, rfl, fun _ z => nomatch z⟩
  | y :: ys, h => by
    obtain ⟨c, e, pc⟩ := h y (List.mem_cons_self ..)
    obtain ⟨cs, e2, hl, hp⟩ := signs_of (ys := ys) fun z hz => h z (List.mem_cons_of_mem _ hz)
    refine ⟨c :: cs, by rw [e, e2]; rfl, by rw [List.length_cons, List.length_cons, hl], ?_⟩
    intro x hx
    rcases List.mem_cons.mp hx with rfl | hx
    · exact pc
    · exact hp x hx
theorem glue_signs : ∀ cs : List Nat, glueC [] (cs.map fun c => [c]) = cs
  | [] => rfl
  | [c] => rfl
  | c :: d :: cs => by
    have ih := glue_signs (d :: cs)
    rw [List.map_cons, glueC_cons _ _ _ (by simp), ih]; rfl
theorem join_signs (cs : List Nat) : Txt.join (Str.ofString "") (cs.map fun c => S [c]) = S cs := by
  have h := joinT_S [] (cs.map fun c => [c])
  rw [List.map_map, glue_signs] at h
  exact h
end Lw

set_option linter.all false
namespace Lw
open PySem L2 Lm
/-! ### shares -/
end Lw

set_option Elab.async false
set_option linter.all false
set_option maxRecDepth 100000
namespace L2
open PySem PySem.Spec PyProof.Rows
section
variable {X : Cx} {c P : Addr} {k i : Nat} {x name : Str} {ps : List Str} {e : Expr} {es : List Expr} {t : TA} {p pos : Pos} {params : Arguments} {body : List Stmt} {scope : Scope} {qs : List (Pos × Str)}
theorem star_parts (hst : noStars (e :: es) = true) : isStar e = false ∧ noStars es = true := by
  unfold noStars at hst
  rw [Bool.and_eq_true, Bool.not_eq_true'] at hst
  exact hst
theorem xcV (hN : X.N[i]? = some x) (hv : Vis X.env.scope x) (hr : Room k X.A) (ha : XA X (e :: es) t) (hd : (x == ("__debug__" : Str)) = false := by decide) (hcd : (x == ("__classdict__" : Str)) = false := by decide) (hst : noStars (e :: es) = true := by rfl) :
    XE X (.Call (.Name x p) (e :: es) [] pos) (tCallV X k i t) := ⟨pe_callV hN hv hr ha.h hd hcd (star_cons (star_parts hst).1) (stars_any (star_parts hst).2)⟩
end
/-- all but W is kept -/
def SameW (W : Addr → Prop) (H H' : Hp) : Prop := ∀ b o, ¬ W b → H b = some o → H' b = some o
theorem SameW.refl {W : Addr → Prop} {H : Hp} : SameW W H H := fun _ _ _ h => h
theorem SameW.trans {W : Addr → Prop} {H H1 H2 : Hp} (a : SameW W H H1) (b : SameW W H1 H2) : SameW W H H2 := fun c o n h => b c o n (a c o n h)
theorem SameW.free {W : Addr → Prop} {H H' : Hp} (e : SameW W H H') {l : Addr} (hx : ¬ W l) (h : H' l = none) : H l = none := by
  cases q : H l with
  | none => rfl
  | some o => rw [e l o hx q] at h; cases h
/-- a function that is handed a number and tells a text: L by the number; what it may change is W; Pre k: it may be called k times more -/
structure LeadW (W : Addr → Prop) (Pre : Nat → Hp → Prop) : Prop where
  stay : ∀ k H H', Pre k H → (∀ b, W b → H' b = H b) → Pre k H'
  there : ∀ k H b, Pre k H → W b → H b ≠ none
  less : ∀ k H, Pre (k + 1) H → Pre k H
def spLeadF (W : Addr → Prop) (Pre : Nat → Hp → Prop) (L : Nat → List Nat) : Sp := fun vs H Q _ => ∃ n k : Nat, vs = [.int n] ∧ n ≤ 4000000 ∧ Pre (k + 1) H ∧ ∀ H', Pre k H' → SameW W H H' → Q (.str (Lm.S (L n))) H'
end L2
namespace Lm
/-! ### words filled -/
def fitC (room : Nat) (due : List Nat) : List (List Nat) → List Nat × List (List Nat)
  | [] => (due, [])
  | w :: r => if due.length + 1 + w.length ≤ room then fitC room (due ++ [32] ++ w) r else (due, w :: r)
inductive Filled (width : Nat) (L : Nat → List Nat) : Nat → List (List Nat) → List (List Nat) → Prop where
  | nil (n) : Filled width L n [] []
  | cut (n w r rows) : width - (L n).length < w.length → Filled width L (n + 1) (w.drop (width - (L n).length) :: r) rows → Filled width L n (w :: r) ((L n ++ w.take (width - (L n).length)) :: rows)
  | row (n w r rows) : w.length ≤ width - (L n).length → Filled width L (n + 1) (fitC (width - (L n).length) w r).2 rows → Filled width L n (w :: r) ((L n ++ (fitC (width - (L n).length) w r).1) :: rows)
theorem Filled.det {width : Nat} {L : Nat → List Nat} {n : Nat} {ws r1 : List (List Nat)} (h : Filled width L n ws r1) : ∀ {r2}, Filled width L n ws r2 → r1 = r2 := by
  induction h with
  | nil n => intro r2 h2; cases h2; rfl
  | cut n w r rows hc _ ih =>
    intro r2 h2
    cases h2 with
    | cut _ _ _ rows2 _ h3 => rw [ih h3]
    | row _ _ _ rows2 h3 _ => omega
  | row n w r rows hc _ ih =>
    intro r2 h2
    cases h2 with
    | cut _ _ _ rows2 h3 _ => omega
    | row _ _ _ rows2 _ h3 => rw [ih h3]
def tot : List (List Nat) → Nat
  | [] => 0
  | w :: r => w.length + 1 + tot r
theorem fit_left (room : Nat) : ∀ (r : List (List Nat)) (due : List Nat), tot (fitC room due r).2 ≤ tot r ∧ (∀ w ∈ (fitC room due r).2, w ∈ r)
  | [], _ => ⟨Nat.le_refl _, fun _ h => h⟩
  | w :: r, due => by
    unfold fitC
    split
    · have := fit_left room r (due ++ [32] ++ w)
      exact ⟨Nat.le_trans this.1 (by simp [tot]), fun x hx => List.mem_cons_of_mem _ (this.2 x hx)⟩
    · exact ⟨Nat.le_refl _, fun _ h => h⟩
theorem Filled.count {width : Nat} {L : Nat → List Nat} {n : Nat} {ws rows : List (List Nat)} (h : Filled width L n ws rows) (hL : ∀ n, (L n).length < width) : rows.length ≤ tot ws := by
  induction h with
  | nil n => exact Nat.le_refl _
  | cut n w r rows hc _ ih =>
    have := hL n
    simp only [tot, List.length_cons, List.length_drop] at ih ⊢
    omega
  | row n w r rows hc _ ih =>
    have := (fit_left (width - (L n).length) r w).1
    simp only [tot, List.length_cons]
    omega
theorem fit_len (room : Nat) : ∀ (r : List (List Nat)) (due : List Nat), due.length ≤ room → (fitC room due r).1.length ≤ room
  | [], _, h => h
  | w :: r, due, h => by
    unfold fitC
    split
    · rename_i hc
      exact fit_len room r _ (by simp only [List.length_append, List.length_cons, List.length_nil]; omega)
    · exact h
theorem Filled.wide {width : Nat} {L : Nat → List Nat} {n : Nat} {ws rows : List (List Nat)} (h : Filled width L n ws rows) (hL : ∀ n, (L n).length < width) : ∀ r ∈ rows, r.length ≤ width := by
  induction h with
  | nil n => intro r h; cases h
  | cut n w r rows hc _ ih =>
    intro x hx
    rcases List.mem_cons.mp hx with rfl | hx
    · have := hL n
      rw [List.length_append, List.length_take]; omega
    · exact ih x hx
  | row n w r rows hc _ ih =>
    intro x hx
    rcases List.mem_cons.mp hx with rfl | hx
    · have := hL n
      have := fit_len (width - (L n).length) r w hc
      rw [List.length_append]; omega
    · exact ih x hx
theorem tot_le {ws : List (List Nat)} {m : Nat} (h : ∀ w ∈ ws, w.length ≤ m) : tot ws ≤ ws.length * (m + 1) := by
  induction ws with
  | nil => simp [tot]
  | cons w ws ih =>
    have h1 := h w List.mem_cons_self
    have h2 := ih fun x hx => h x (List.mem_cons_of_mem _ hx)
    simp only [tot, List.length_cons, Nat.add_mul, Nat.one_mul]
    omega
/-- what the law's lead tells -/
def leadC (kind wide : Nat) (n : Nat) : List Nat :=
  if kind = 0 then [] else if kind = 1 then List.replicate wide 43 else if kind = 2 then (if n = 0 then List.replicate wide 45 else List.replicate wide 32) else List.replicate ((wide + 5 * n) % (wide + 1)) 62
theorem lead_len (kind wide n : Nat) : (leadC kind wide n).length ≤ wide := by
  unfold leadC
  have := Nat.mod_lt (wide + 5 * n) (show 0 < wide + 1 by omega)
  split
  · exact Nat.zero_le _
  · split
    · rw [List.length_replicate]; exact Nat.le_refl _
    · split
      · split <;> (rw [List.length_replicate]; exact Nat.le_refl _)
      · rw [List.length_replicate]; omega
end Lm

set_option Elab.async false
set_option linter.all false
set_option maxRecDepth 100000
namespace L2
open PySem PySem.Spec PyProof.Rows
section
variable {X : Cx}
/-- x.ljust(i), x.rjust(i) -/
theorem mt_ljust : MtR X "str.ljust" (fun x vs H Q => ∃ z i, x = .str z ∧ vs = [.int i] ∧ PadOk i = true ∧ Q (.str (Txt.ljust z i)) H) := by
  intro pins s σ H x vs v us Q I rx rv h
  obtain ⟨z, i, rfl, rfl, hi, q⟩ := h
  obtain ⟨t, rfl⟩ := rx
  obtain ⟨u, rfl, t2, rfl⟩ := rv.one
  exact wpAny_with_toks (n := 1) I.tk (SC.ljust hi fun t' k htk => ⟨.str _, H, I.tok _ htk, ⟨_, rfl⟩, q⟩)
theorem mt_rjust : MtR X "str.rjust" (fun x vs H Q => ∃ z i, x = .str z ∧ vs = [.int i] ∧ PadOk i = true ∧ Q (.str (Txt.rjust z i)) H) := by
  intro pins s σ H x vs v us Q I rx rv h
  obtain ⟨z, i, rfl, rfl, hi, q⟩ := h
  obtain ⟨t, rfl⟩ := rx
  obtain ⟨u, rfl, t2, rfl⟩ := rv.one
  exact wpAny_with_toks (n := 1) I.tk (SC.rjust hi fun t' k htk => ⟨.str _, H, I.tok _ htk, ⟨_, rfl⟩, q⟩)
end
end L2

set_option Elab.async false
set_option linter.all false
set_option maxRecDepth 100000
/-! Objects of own classes: made, their values read and stored, their methods called, by the class that they are of. -/
namespace L2
open PySem PySem.Spec PyProof.Rows
section
variable {X : Cx} {k : Nat} {C : Addr} {x m f : Str} {ps : List Str} {sp : Sp} {e o value : Expr} {es : List Expr} {ta tv : TE} {t : TA} {p pos pos' apos : Pos}
end
end L2

set_option Elab.async false
set_option linter.all false
set_option maxRecDepth 100000
/-! A def that makes a closure and gives it back: its cells are the closure's alone. -/
namespace L2
open PySem PySem.Spec PyProof.Rows
section
variable {P : Program} {w : World} {K : PySem.W.Frag} {mg : Str → Option Value} {base : Heap}
end
end L2

set_option Elab.async false
set_option linter.all false
set_option maxRecDepth 100000
set_option maxHeartbeats 1000000
namespace K10
open PySem L2 Lm Lw
structure Tx10 (mg : Str → Option Value) : Prop where
  n_len : mg "len" = none
  n_range : mg "range" = none
  n_isinstance : mg "isinstance" = none
  n_bool : mg "bool" = none
  n_int : mg "int" = none
  n_list : mg "list" = none
  n_max : mg "max" = none
  n_min : mg "min" = none
  n_enumerate : mg "enumerate" = none
  n_str : mg "str" = none
  n_sum : mg "sum" = none
  n_all : mg "all" = none
  n_zip : mg "zip" = none
def top (i : Nat) : Stmt := PySem.Challenge.pw_lightmark_k10_beside.main.body.getD i (.Pass ⟨0, 0, 0, 0⟩)
def SameX (x : Addr) (H H' : Hp) : Prop := ∀ b o, b ≠ x → H b = some o → H' b = some o
theorem SameX.of {x : Addr} {H H' : Hp} (s : Same H H') : SameX x H H' := fun b o _ h => s b o h
theorem SameX.trans {x : Addr} {H H1 H2 : Hp} (a : SameX x H H1) (b : SameX x H1 H2) : SameX x H H2 := fun c o n h => b c o n (a c o n h)
theorem SameX.upd {x : Addr} {H : Hp} (o : HO) : SameX x H (L2.upd H x o) := fun b u n h => by rw [upd_ne n]; exact h
theorem SameX.free {x : Addr} {H H' : Hp} (e : SameX x H H') {l : Addr} (hx : l ≠ x) (h : H' l = none) : H l = none := by
  cases q : H l with
  | none => rfl
  | some o => rw [e l o hx q] at h; cases h
abbrev vI (ns : List Int) : List V := ns.map V.int
/-- the script, whatever becomes of the tape -/
def Scr (K : PySem.W.Frag) (t : Addr) (H : Hp) (a : Addr) (ns : List Int) : Prop := ∀ H', SameX t H H' → SqL K H' a (vI ns)
theorem Scr.move {K : PySem.W.Frag} {t a : Addr} {H H' : Hp} {ns : List Int} (s : SameX t H H') (h : Scr K t H a ns) : Scr K t H' a ns := fun H2 s2 => h H2 (s.trans s2)
theorem for_any {J : It} {g : TG} {tb : TS} {D : Ends} {σ : St} {H : Hp} (n : Nat) (Pv : Nat → St → Hp → Prop) (h0 : Pv 0 σ H) (hgo : ∀ i σ H, i < n → Pv i σ H → J.go i H) (hst : ∀ σ H, Pv n σ H → J.stop n H)
    (hs : ∀ i σ H x H', i < n → Pv i σ H → J.yld i H x H' → g x σ H' fun σ2 H2 => tb { D with nx := Pv (i + 1), ct := Pv (i + 1), bk := D.nx } σ2 H2) (hd : ∀ σ H, Pv n σ H → D.nx σ H) :
    ∃ W : Nat → Nat → St → Hp → Prop, (∃ m, W 0 m σ H) ∧ ∀ i m σ H, W i m σ H →
      (J.stop i H ∧ D.nx σ H) ∨ (J.go i H ∧ ∃ N : St → Hp → Prop, (∀ σ' H', N σ' H' → ∃ m', m' < m ∧ W (i + 1) m' σ' H') ∧ ∀ x H', J.yld i H x H' → g x σ H' fun σ2 H2 => tb { D with nx := N, ct := N, bk := D.nx } σ2 H2) := by
  refine ⟨fun i m σ H => m = n - i ∧ i ≤ n ∧ Pv i σ H, ⟨n, by simp, Nat.zero_le _, h0⟩, ?_⟩
  rintro i m σ H ⟨rfl, hi, p⟩
  by_cases hlt : i < n
  · exact .inr ⟨hgo i σ H hlt p, Pv (i + 1), fun σ' H' q => ⟨n - (i + 1), by omega, rfl, hlt, q⟩, fun x H' y => hs i σ H x H' hlt p y⟩
  · have e : i = n := by omega
    subst e
    exact .inl ⟨hst σ H p, hd σ H p⟩
/-- numbers walked while the tape at t goes on -/
theorem lc_tape {n : Nat} {k : Nat} {fr : List Nat} {g : TG} {tt : TT} {te : TE} {σ : St} {H0 : Hp} {Q : Addr → Hp → Prop} (t : Addr) (m0 : Int) (Pr : V → Prop) (hl : n ≤ sizeLine) (h0 : H0 t = some (.lst [.int m0]))
    (ht : ∀ i, i < n → ∀ H', SameX t H0 H' → H' t = some (.lst [.int (m0 + (i : Nat))]) → ∀ (C : V → Hp → Prop) (N : Hp → Prop), (∀ v H4, SameX t H' H4 → H4 t = some (.lst [.int (m0 + (i : Nat) + 1)]) → Pr v → C v H4) →
      g (.int (0 + (i : Nat))) (nfS k fr σ) H' fun σ2 H2 => nfLe k fr σ σ2 ∧ tt σ2 H2 fun b H3 => if b = true then te σ2 H3 C else N H3)
    (hq : ∀ D H' ys, H0 D = none → SameX t H0 H' → H' t = some (.lst [.int (m0 + (n : Nat))]) → H' D = some (.lst ys) → ys.length = n → (∀ y ∈ ys, Pr y) → Q D H') : rLC k fr g tt te σ (Itr 0 n) H0 Q := by
  intro D hD
  have hDt : D ≠ t := fun e => by rw [e, h0] at hD; cases hD
  refine ⟨fun i m acc H => m = n - i ∧ i ≤ n ∧ acc.length = i ∧ (∀ y ∈ acc, Pr y) ∧ H D = some (.lst acc) ∧ SameX t H0 H ∧ H t = some (.lst [.int (m0 + (i : Nat))]), ⟨n, by simp, Nat.zero_le _, rfl, (fun _ z => nomatch z), upd_same, SameX.of (same_new hD _), ?_⟩, ?_⟩
  · rw [upd_ne (Ne.symm hDt), h0]; simp
  rintro i m acc H ⟨rfl, hi, ha, hP, hDa, sm, et⟩
  refine ⟨hDa, ?_⟩
  by_cases hlt : i < n
  · refine .inr ⟨hlt, ?_⟩
    rintro x H' ⟨rfl, rfl⟩
    refine ht i hlt _ sm et _ _ fun v H4 s4 et4 pv => ?_
    refine ⟨s4 _ _ hDt hDa, by omega, n - (i + 1), by omega, rfl, hlt, by rw [List.length_append, ha]; rfl, ?_, upd_same, ?_, ?_⟩
    · intro z hz
      rcases List.mem_append.mp hz with hz | hz
      · exact hP z hz
      · rw [show z = v by simpa using hz]; exact pv
    · intro b o nb hb
      rw [upd_ne (fun z => by rw [z, hD] at hb; cases hb)]
      exact (sm.trans s4) b o nb hb
    · rw [upd_ne (Ne.symm hDt), et4]
      congr 4
      omega
  · have e : i = n := by omega
    subst e
    exact .inl ⟨Nat.le_refl _, hq D H acc hD sm et hDa ha hP⟩
/-- a statement's end, cut -/
theorem s_join {f u : TS} {D : Ends} {σ : St} {H : Hp} (J : St → Hp → Prop) (h : ∀ N : St → Hp → Prop, (∀ σ' H', J σ' H' → N σ' H') → f { D with nx := N } σ H) (k : ∀ σ' H', J σ' H' → u D σ' H') : tSeq f u D σ H := h (u D) k
theorem Scr.of {K : PySem.W.Frag} {t a : Addr} {H : Hp} {o : HO} {ns : List Int} (n : H t = none) (q : SqL K H a (vI ns)) : Scr K t (upd H t o) a ns := by
  have ne : ∀ b o, H b = some o → b ≠ t := fun b o e z => by rw [z, n] at e; cases e
  have up : ∀ H', SameX t (upd H t o) H' → ∀ b u, H b = some u → H' b = some u := fun H' s b u e => s _ _ (ne _ _ e) (by rw [upd_ne (ne _ _ e)]; exact e)
  intro H' s
  rcases q with (q | ⟨o, q⟩) | q
  · exact .inl (.inl (up H' s _ _ q))
  · exact .inl (.inr ⟨o, up H' s _ _ q⟩)
  · exact .inr q
section
variable {P : Program} {w : World} {K : PySem.W.Frag} {mg : Str → Option Value} {base : Heap}
/-! _law_draw -/
abbrev sDraw : Stmt := top 10
theorem scDraw : FnScope ["_law_script", "_law_tape", "_law_many", "_law_seed", "_law_cell"] ["_law_script", "_law_tape", "_law_many"] (defScope sDraw) := ⟨rfl, rfl, rfl, by decide +kernel, rfl, by decide +kernel, by decide +kernel⟩
def spDraw (K : PySem.W.Frag) : Sp := fun vs H Q _ => ∃ (a t : Addr) (ns : List Int) (m many : Int), vs = [.ref a, .ref t, .int many] ∧ Scr K t H a ns ∧ ns.length ≤ 1000 ∧ H t = some (.lst [.int m]) ∧ 0 ≤ m ∧ m ≤ 1000 ∧ 0 < many ∧
  ∀ i H', 0 ≤ i → i < many → SameX t H H' → H' t = some (.lst [.int (m + 1)]) → Q (.int i) H'
theorem ok_draw {f : Addr} {fd : FuncData} (F : Fun K "_law_draw" "_law_draw" sDraw f fd) (T : Tx10 mg) : FnOk P w K mg base CX0 1 f fd ["_law_script", "_law_tape", "_law_many"] (spDraw K) := by
  have sc := scDraw
  refine F.ok sc (fun vs H Q E h => ?_) (fun cdv A outer s H vs Q E hr h => ?_)
  · obtain ⟨a, t, ns, m, many, rfl, _⟩ := h
    rfl
  obtain ⟨a, t, ns, m, many, rfl, hscr, hns, et, m0, m1, hmany, q⟩ := h
  refine of_XB (xbc (xasg (xop op_add (xix ix_list (xv 1) xint (fun _ _ => rfl)) xint) (xgsub (xv 1) xint set_list))
    (xbc (xif (xcmpT op_le (xix ix_list (xv 1) xint (fun _ _ => rfl)) (xcB call_len_seq T.n_len PySem.boot_len (xac (xv 0) xa0)) (nomark _)) (xb1 (xret (xop op_mod (xix ix_list (xv 0) (xop op_sub (xix ix_list (xv 1) xint (fun _ _ => rfl)) xint) (fun _ _ => rfl)) (xv 2)))) xb0)
    (xbc (xset (i := 3) sc.nd rfl (Or.inl rfl) (xcB call_len_seq T.n_len PySem.boot_len (xac (xv 0) xa0)))
    (xbc (xfor PassesOwn.never rfl (xil (xsl sl_list (xv 0) xo0 (xo1 xint))) (xgn (i := 4) sc.nd rfl (Or.inl rfl))
    (xb1 (xset (i := 3) sc.nd rfl (Or.inl rfl) (xop op_mod (xop op_add (xop op_mul (xv 3) xint) (xv 4)) xint))))
    (xb1 (xret (xop op_mod (xop op_mod (xop op_mul (xop op_add (xv 3) xint) (xop op_add (xop op_mul (xix ix_list (xv 1) xint (fun _ _ => rfl)) (xix ix_list (xv 1) xint (fun _ _ => rfl))) xint)) xint) (xv 2)))))))) ?_
  refine ⟨_, rfl, t, _, 0, .int m, rfl, rfl, SqL.of et, atI_nat (j := 0) rfl, _, _, rfl, rfl, _, rfl, t, _, 0, 0, rfl, rfl, et, rfl, ?_⟩
  have et1 : upd H t (.lst [.int (m + 1)]) t = some (.lst [.int (m + 1)]) := upd_same
  have s1 : SameX t H (upd H t (.lst [.int (m + 1)])) := SameX.upd _
  show tSeq _ _ _ _ (upd H t (.lst [.int (m + 1)]))
  generalize upd H t (.lst [.int (m + 1)]) = H1 at et1 s1
  have hq1 : SqL K H1 a (vI ns) := hscr H1 s1
  refine ⟨_, rfl, t, _, 0, .int (m + 1), rfl, rfl, SqL.of et1, atI_nat (j := 0) rfl, _, rfl, a, _, rfl, .inl hq1, _, _, rfl, rfl, _, rfl, ?_⟩
  rw [List.length_map]
  refine ite2 (fun c => ?_) (fun c => ?_)
  · have c := of_decide_eq_true c
    obtain ⟨j, hj⟩ : ∃ j : Nat, m + 1 - 1 = (j : Int) := ⟨m.toNat, by omega⟩
    have hjl : j < ns.length := by omega
    refine ⟨_, rfl, _, rfl, t, _, 0, .int (m + 1), rfl, rfl, SqL.of et1, atI_nat (j := 0) rfl, _, _, rfl, rfl, a, _, _, .int ns[j], rfl, rfl, hq1, ?_, _, rfl, _, _, rfl, rfl, hmany, ?_⟩
    · rw [hj]
      exact atI_nat (by rw [List.getElem?_map, List.getElem?_eq_getElem hjl]; rfl)
    · exact q _ _ (Int.emod_nonneg _ (by omega)) (Int.emod_lt_of_pos _ hmany) s1 et1
  · refine ⟨_, rfl, a, _, rfl, .inl hq1, ?_⟩
    refine ⟨_, rfl, _, rfl, a, _, rfl, hq1, fun p hp => ⟨p, rfl, ⟨_, SqL.of upd_same⟩, ?_⟩⟩
    have hpt : t ≠ p := fun e => by rw [← e, et1] at hp; cases hp
    refine for_list (xs := cutV (vI ns) none (some 4)) (fun i σ H' => ∃ (sd : Int) (x : Option V), σ = [some (.ref a), some (.ref t), some (.int many), some (.int sd), x] ∧ 0 ≤ sd ∧ sd ≤ 1000003 ∧ SameX t H H' ∧ H' t = some (.lst [.int (m + 1)]) ∧ H' p = some (.lst (cutV (vI ns) none (some 4))))
      ⟨ns.length, none, by rw [List.length_map]; rfl, by omega, by omega, s1.trans (SameX.of (same_new hp _)), (upd_ne hpt).trans et1, upd_same⟩ ?_ ?_ ?_
    · rintro i σ H' _ ⟨sd, x, _, _, _, _, _, h⟩
      exact SqL.of h
    · rintro i v σ H' hv ⟨sd, x, rfl, h0, h1, s2, et2, ep⟩
      have hmem := List.mem_of_getElem? hv
      unfold cutV at hmem
      obtain ⟨n, _, rfl⟩ := List.mem_map.mp (List.mem_of_mem_drop (List.mem_of_mem_take hmem))
      refine ⟨_, rfl, _, _, rfl, rfl, .inl ⟨by omega, by omega⟩, _, rfl, _, _, rfl, rfl, _, _, rfl, rfl, show (0 : Int) < 1000003 by omega, _, _, rfl, Int.emod_nonneg _ (by omega), ?_, s2, et2, ep⟩
      have := Int.emod_lt_of_pos (sd * 131 + n) (show (0 : Int) < 1000003 by omega)
      exact Int.le_of_lt this
    · rintro σ H' ⟨sd, x, rfl, h0, h1, s2, et2, ep⟩
      have hmm : 0 ≤ (m + 1) * (m + 1) ∧ (m + 1) * (m + 1) ≤ 1002001 := by
        constructor
        · exact Int.mul_nonneg (by omega) (by omega)
        · calc (m + 1) * (m + 1) ≤ 1001 * 1001 := Int.mul_le_mul (by omega) (by omega) (by omega) (by omega)
            _ = 1002001 := rfl
      refine ⟨_, rfl, _, _, rfl, rfl, _, rfl, t, _, 0, .int (m + 1), rfl, rfl, SqL.of et2, atI_nat (j := 0) rfl, _, rfl, t, _, 0, .int (m + 1), rfl, rfl, SqL.of et2, atI_nat (j := 0) rfl, _, _, rfl, rfl, .inl ⟨by omega, by omega⟩, _, _, rfl, rfl, _, _, rfl, rfl, .inl ⟨by omega, by omega⟩, _, _, rfl, rfl, show (0 : Int) < 1000003 by omega, _, rfl, _, _, rfl, rfl, hmany, ?_⟩
      exact q _ _ (Int.emod_nonneg _ (by omega)) (Int.emod_lt_of_pos _ hmany) s2 et2
end
end K10

set_option Elab.async false
set_option linter.all false
set_option maxRecDepth 100000
set_option maxHeartbeats 4000000
namespace K10
open PySem L2 Lm Lw
def signs8 : List Nat := ((List.range 94).map (· + 33)).filter (· != 37)
theorem signs8_len : signs8.length = 93 := by decide +kernel
theorem signs8_ne : ∀ c ∈ signs8, c ≠ 32 ∧ c < 128 := by decide +kernel
theorem sum_signs : ∀ cs : List Nat, ((cs.map fun c => S [c]).map (·.length)).sum = cs.length
  | [] => rfl
  | c :: cs => by
    have ih := sum_signs cs
    rw [List.map_cons, List.map_cons, List.sum_cons, ih, S_len, List.length_cons]
    simp
    omega
/-- a good word -/
def Wd (m : Nat) (l : List Nat) : Prop := l ≠ [] ∧ 32 ∉ l ∧ l.length ≤ m ∧ Asc l
section
variable {P : Program} {w : World} {K : PySem.W.Frag} {mg : Str → Option Value} {base : Heap}
/-! _law_word -/
abbrev sWord : Stmt := top 11
theorem scWord : FnScope ["_law_script", "_law_tape", "_law_size", "_law_signs", "_law_begin", "_law_step"] ["_law_script", "_law_tape", "_law_size"] (defScope sWord) := ⟨rfl, rfl, rfl, by decide +kernel, rfl, by decide +kernel, by decide +kernel⟩
def spWord (K : PySem.W.Frag) : Sp := fun vs H Q _ => ∃ (a t : Addr) (ns : List Int) (m size : Int), vs = [.ref a, .ref t, .int size] ∧ Scr K t H a ns ∧ ns.length ≤ 1000 ∧ H t = some (.lst [.int m]) ∧ 0 ≤ m ∧ m ≤ 998 ∧ 1 ≤ size ∧ size ≤ 1000 ∧
  ∀ l H', Wd 1000 l → l.length ≤ size → SameX t H H' → H' t = some (.lst [.int (m + 2)]) → Q (vS l) H'
theorem ok_word {f : Addr} {fd : FuncData} (F : Fun K "_law_word" "_law_word" sWord f fd) (T : Tx10 mg) (D_l_draw : Def P w K mg base 1 "_law_draw" ["_law_script", "_law_tape", "_law_many"] (spDraw K)) :
    FnOk P w K mg base CX0 2 f fd ["_law_script", "_law_tape", "_law_size"] (spWord K) := by
  have sc := scWord
  refine F.ok sc (fun vs H Q E h => ?_) (fun cdv A outer s H vs Q E hr h => ?_)
  · obtain ⟨a, t, ns, m, size, rfl, _⟩ := h
    rfl
  obtain ⟨a, t, ns, m, size, rfl, hscr, hns, et, m0, m1, z0, z1, q⟩ := h
  refine of_XB (xbc (xset (i := 3) sc.nd rfl (Or.inr rfl) xstr)
    (xbc (xset (i := 4) sc.nd rfl (Or.inr rfl) (xcD D_l_draw (hr.mono (by decide)) (xac (xv 0) (xac (xv 1) (xac xint xa0)))))
    (xbc (xset (i := 5) sc.nd rfl (Or.inr rfl) (xcD D_l_draw (hr.mono (by decide)) (xac (xv 0) (xac (xv 1) (xac xint xa0)))))
    (xb1 (xret (xm PySem.F.plainAttrs_str PySem.F.slot_str_join PySem.F.type_str_join mt_join xstr (xac (xlc (cl := [("_law_step", s.heap.objs.size + 3), ("_law_signs", s.heap.objs.size + 1), ("_law_begin", s.heap.objs.size + 2)]) (own := ["_law_k"]) (fr := [3, 4, 5]) (N' := ["_law_k", "_law_signs", "_law_begin", "_law_step"]) rfl (compN (xs := ["_law_signs", "_law_begin", "_law_step"]) ⟨rfl, ⟨rfl, ⟨rfl, trivial⟩⟩⟩ ⟨rfl, rfl, .inl rfl, .inl rfl, ⟨rfl, rfl, .inl rfl, .inl rfl, ⟨rfl, rfl, .inl rfl, .inl rfl, trivial⟩⟩⟩ (by decide +kernel)) (by decide +kernel) (by decide +kernel) (by with_unfolding_all rfl)
    (xir1 rfl T.n_range (xac (xv 2) xa0))
    (fun _ _ _ _ => xgn (i := 0) (show (["_law_k", "_law_signs", "_law_begin", "_law_step"] : List Str).Nodup by decide +kernel) rfl (Or.inl rfl)) (fun _ _ _ _ => xq0) (fun _ _ _ _ => (xix ix_str (xv 1) (xop op_mod (xop op_add (xop op_add (xv 2) (xop op_mul (xv 3) (xv 0))) (xop op_mul (xv 0) (xv 0))) xint) (fun _ _ => rfl)))) xa0))))))) ?_
  have hs : sizeLine = 16777216 := sizeLine_eq
  refine ⟨_, rfl, _, rfl, a, t, ns, m, 93, rfl, hscr, hns, et, by omega, by omega, by omega, fun b H1 b0 b1 sx1 et1 => ?_⟩
  refine ⟨_, rfl, _, rfl, a, t, ns, m + 1, 93, rfl, hscr.move sx1, hns, et1, by omega, by omega, by omega, fun c H2 c0 c1 sx2 et2 => ?_⟩
  refine ⟨rfl, _, rfl, _, rfl, by omega, by omega, ?_⟩
  refine lc_rangeA 0 (fun v => ∃ c, v = vS [c] ∧ c ≠ 32 ∧ c < 128) (by omega) ?_ ?_
  · intro i hi H' sm C N hC
    refine ⟨(nfLe.refl _ _ _).set (by decide) _, ?_⟩
    refine ⟨vS signs8, by with_unfolding_all rfl, _, rfl, _, rfl, _, rfl, _, _, rfl, rfl, .inl ⟨by omega, by omega⟩, _, _, rfl, rfl, _, rfl, _, rfl, _, _, rfl, rfl, .inl ⟨by omega, by omega⟩, _, _, rfl, rfl, _, _, rfl, rfl, show (0 : Int) < 93 by omega, ?_⟩
    generalize (b + c * (0 + (i : Nat)) + (0 + (i : Nat)) * (0 + (i : Nat)) : Int) = x
    have h1 := Int.emod_nonneg x (show (93 : Int) ≠ 0 by omega)
    have h2 := Int.emod_lt_of_pos x (show (0 : Int) < 93 by omega)
    refine w_ixs (l := signs8) (by rw [signs8_len]; decide) h1 (by rw [signs8_len]; exact h2) (hC _ _ (Same.refl _) ⟨_, rfl, ?_⟩)
    have hlt : (x % 93).toNat < signs8.length := by rw [signs8_len]; omega
    rw [List.getD_eq_getElem?_getD, List.getElem?_eq_getElem hlt]
    exact signs8_ne _ (List.getElem_mem hlt)
  · intro D H' ys hD sm eD hyl hys
    obtain ⟨cs, e, hl, hg⟩ := signs_of hys
    refine ⟨_, D, cs.map fun c => S [c], rfl, rfl, SqL.of (by rw [eD, e]), ?_, ?_⟩
    · rw [sum_signs]
      refine big ?_
      rw [List.length_map]
      show cs.length + cs.length * 0 ≤ _
      omega
    · rw [join_signs]
      refine q cs H' ⟨fun z => ?_, fun z => (hg 32 z).1 rfl, by omega, fun c hc => (hg c hc).2⟩ (by omega) (sx1.trans (sx2.trans (SameX.of sm))) (sm _ _ (by rw [et2]; congr 4; omega))
      rw [z] at hl
      simp at hl
      omega
/-! _law_words -/
abbrev sWords : Stmt := top 12
theorem scWords : FnScope ["_law_script", "_law_tape", "_law_width", "_law_many", "_law_words_here", "_law_k", "_law_way", "_law_size"] ["_law_script", "_law_tape", "_law_width", "_law_many"] (defScope sWords) := ⟨rfl, rfl, rfl, by decide +kernel, rfl, by decide +kernel, by decide +kernel⟩
def spWords8 (K : PySem.W.Frag) : Sp := fun vs H Q _ => ∃ (a t : Addr) (ns : List Int) (m : Int) (width many : Nat), vs = [.ref a, .ref t, .int width, .int many] ∧ Scr K t H a ns ∧ ns.length ≤ 1000 ∧ H t = some (.lst [.int m]) ∧ 0 ≤ m ∧ m + 5 * many ≤ 990 ∧ 1 ≤ width ∧ width ≤ 40 ∧ many ≤ 20 ∧
  ∀ p (ws : List (List Nat)) (m' : Int) H', H p = none → SameX t H H' → H' p = some (.lst (ws.map vS)) → H' t = some (.lst [.int m']) → m ≤ m' → m' ≤ m + 5 * many → ws.length = many → (∀ w ∈ ws, Wd 1000 w) → Q (.ref p) H'
structure WdsAt (t p : Addr) (H0 : Hp) (ws : List (List Nat)) (m : Int) (H : Hp) : Prop where
  sx : SameX t H0 H
  et : H t = some (.lst [.int m])
  ep : H p = some (.lst (ws.map vS))
theorem WdsAt.move {t p : Addr} {H0 H H' : Hp} {ws : List (List Nat)} {m m' : Int} (h : WdsAt t p H0 ws m H) (hp : p ≠ t) (sx : SameX t H H') (et : H' t = some (.lst [.int m'])) : WdsAt t p H0 ws m' H' := ⟨h.sx.trans sx, et, sx _ _ hp h.ep⟩
theorem WdsAt.same {t p : Addr} {H0 H H' : Hp} {ws : List (List Nat)} {m : Int} (h : WdsAt t p H0 ws m H) (sx : Same H H') : WdsAt t p H0 ws m H' := ⟨h.sx.trans (SameX.of sx), sx _ _ h.et, sx _ _ h.ep⟩
theorem ok_words {f : Addr} {fd : FuncData} (F : Fun K "_law_words" "_law_words" sWords f fd) (T : Tx10 mg) (D_l_draw : Def P w K mg base 1 "_law_draw" ["_law_script", "_law_tape", "_law_many"] (spDraw K)) (D_l_word : Def P w K mg base 2 "_law_word" ["_law_script", "_law_tape", "_law_size"] (spWord K)) :
    FnOk P w K mg base CX0 3 f fd ["_law_script", "_law_tape", "_law_width", "_law_many"] (spWords8 K) := by
  have sc := scWords
  refine F.ok sc (fun vs H Q E h => ?_) (fun cdv A outer s H vs Q E hr h => ?_)
  · obtain ⟨a, t, ns, m, width, many, rfl, _⟩ := h
    rfl
  obtain ⟨a, t, ns, m, width, many, rfl, hscr, hns, et, m0, m1, w0, w1, k1, q⟩ := h
  refine of_XB (xbc (xset (i := 4) sc.nd rfl (Or.inl rfl) (xlst xa0))
    (xbc (xfor PassesOwn.never rfl (xir1 rfl T.n_range (xac (xv 3) xa0)) (xgn (i := 5) sc.nd rfl (Or.inl rfl))
    (xbc (xset (i := 6) sc.nd rfl (Or.inl rfl) (xcD D_l_draw (hr.mono (by decide)) (xac (xv 0) (xac (xv 1) (xac xint xa0)))))
    (xbc (xset (i := 7) sc.nd rfl (Or.inl rfl) (xop op_add xint (xcD D_l_draw (hr.mono (by decide)) (xac (xv 0) (xac (xv 1) (xac xint xa0))))))
    (xbc (xif (xor (xcmpT op_eq (xv 6) xint (nomark _)) (xor1 (xcmpT op_eq (xv 6) xint (nomark _)))).xt (xb1 (xset (i := 7) sc.nd rfl (Or.inl rfl) (xcB (call_max2 rfl) T.n_max rfl (xac xint (xac (xop op_add (xop op_sub (xv 2) xint) (xcD D_l_draw (hr.mono (by decide)) (xac (xv 0) (xac (xv 1) (xac xint xa0))))) xa0))))) xb0)
    (xbc (xif (xcmpT op_eq (xv 6) xint (nomark _)) (xb1 (xset (i := 7) sc.nd rfl (Or.inl rfl) (xop op_add xint (xcD D_l_draw (hr.mono (by decide)) (xac (xv 0) (xac (xv 1) (xac (xop op_add (xop op_mul xint (xv 2)) xint) xa0))))))) xb0)
    (xb1 (xexpr (xm PySem.F.plainAttrs_list PySem.F.slot_list_append PySem.F.type_list_append mt_append (xv 4) (xac (xcD D_l_word (hr.mono (by decide)) (xac (xv 0) (xac (xv 1) (xac (xv 7) xa0)))) xa0)))))))))
    (xb1 (xret (xv 4))))) ?_
  have hs : sizeLine = 16777216 := sizeLine_eq
  refine ⟨big (show (0 : Nat) ≤ 1000000 by decide), fun p hp => ?_⟩
  have hpt : p ≠ t := fun z => by rw [z, et] at hp; cases hp
  have A1 : WdsAt t p H [] m (upd H p (.lst [])) := ⟨SameX.of (same_new hp _), (upd_ne (Ne.symm hpt)).trans et, upd_same⟩
  dsimp only [gName]
  generalize upd H p (.lst []) = H1 at A1 ⊢
  refine ⟨_, rfl, _, rfl, by omega, by omega, ?_⟩
  rw [Int.toNat_natCast]
  refine for_range (fun i σ H' => ∃ ws m' x5 x6 x7, σ = [some (.ref a), some (.ref t), some (.int width), some (.int many), some (.ref p), x5, x6, x7] ∧ WdsAt t p H ws m' H' ∧ m ≤ m' ∧ m' ≤ m + 5 * (i : Nat) ∧ ws.length = i ∧ ∀ w ∈ ws, Wd 1000 w)
    ⟨[], m, none, none, none, rfl, A1, by omega, by omega, rfl, fun _ z => nomatch z⟩ ?_ ?_
  · rintro i σ H2 hi ⟨ws, m', x5, x6, x7, rfl, A2, l1, l2, hwl, hw⟩
    dsimp only [gName]
    have hsc := fun {H' : Hp} (h : SameX t H H') => hscr.move h
    refine ⟨_, rfl, _, rfl, a, t, ns, m', 8, rfl, hsc A2.sx, hns, A2.et, by omega, by omega, by omega, fun way H3 _ _ sx3 et3 => ?_⟩
    have A3 := A2.move hpt sx3 et3
    refine ⟨_, rfl, _, rfl, a, t, ns, m' + 1, 6, rfl, hsc A3.sx, hns, A3.et, by omega, by omega, by omega, fun z0 H4 z00 z01 sx4 et4 => ⟨_, _, rfl, rfl, ?_⟩⟩
    have A4 := A3.move hpt sx4 et4
    dsimp only [gName]
    refine s_join (fun σ' H' => ∃ (size m2 : Int), σ' = [some (.ref a), some (.ref t), some (.int width), some (.int many), some (.ref p), some (.int (0 + (i : Nat))), some (.int way), some (.int size)] ∧ WdsAt t p H ws m2 H' ∧ m' ≤ m2 ∧ m2 ≤ m' + 3 ∧ 1 ≤ size ∧ size ≤ 1000 ∧ (way = 7 → m2 ≤ m' + 2)) (fun N hN => ?_) ?_
    · refine s_if _ (t_or _ _ (t_eqi (ev_v rfl) ev_c) (fun _ H5 s5 => t_eqi (ev_v rfl) ev_c)) (fun H5 s5 c => ?_) (fun H5 s5 c => ?_)
      · have A5 := A4.same s5
        have hway : way ≠ 7 := by
          rcases Bool.or_eq_true_iff.mp c with c | c <;> (have := of_decide_eq_true c; omega)
        refine ⟨_, rfl, _, _, rfl, rfl, _, rfl, _, rfl, a, t, ns, _, 6, rfl, hsc A5.sx, hns, A5.et, by omega, by omega, by omega, fun z1 H6 z10 z11 sx6 et6 => ⟨_, _, rfl, rfl, _, _, rfl, ?_⟩⟩
        have A6 := A5.move hpt sx6 et6
        refine hN _ _ ⟨_, _, rfl, A6, by omega, by omega, ?_, ?_, fun z => absurd z hway⟩
        · split <;> omega
        · split <;> omega
      · exact hN _ _ ⟨_, _, rfl, A4.same s5, by omega, by omega, by omega, by omega, fun _ => by omega⟩
    rintro σ5 H5 ⟨size, m2, rfl, A5, l3, l4, l5, l6, l7⟩
    refine s_join (fun σ' H' => ∃ (size m2 : Int), σ' = [some (.ref a), some (.ref t), some (.int width), some (.int many), some (.ref p), some (.int (0 + (i : Nat))), some (.int way), some (.int size)] ∧ WdsAt t p H ws m2 H' ∧ m' ≤ m2 ∧ m2 ≤ m' + 3 ∧ 1 ≤ size ∧ size ≤ 1000) (fun N hN => ?_) ?_
    · refine s_if _ (t_eqi (ev_v rfl) ev_c) (fun H6 s6 c => ?_) (fun H6 s6 c => ?_)
      · have A6 := A5.same s6
        have hway := l7 (of_decide_eq_true c)
        refine ⟨_, rfl, _, rfl, _, rfl, _, _, rfl, rfl, .inl ⟨by omega, by omega⟩, _, _, rfl, rfl, a, t, ns, _, 3 * (width : Nat) + 2, rfl, hsc A6.sx, hns, A6.et, by omega, by omega, by omega, fun z1 H7 z10 z11 sx7 et7 => ⟨_, _, rfl, rfl, ?_⟩⟩
        exact hN _ _ ⟨_, _, rfl, A6.move hpt sx7 et7, by omega, by omega, by omega, by omega⟩
      · exact hN _ _ ⟨_, _, rfl, A5.same s6, by omega, by omega, by omega, by omega⟩
    rintro σ6 H6 ⟨size, m3, rfl, A6, l8, l9, l10, l11⟩
    refine ⟨_, rfl, .inl ⟨rfl, _, SqL.of A6.ep⟩, _, rfl, _, rfl, _, rfl, a, t, ns, m3, size, rfl, hsc A6.sx, hns, A6.et, by omega, by omega, by omega, by omega, fun l H7 hl _ sx7 et7 => ?_⟩
    have A7 := A6.move hpt sx7 et7
    refine ⟨p, _, _, rfl, rfl, A7.ep, ?_, ?_⟩
    · rw [List.length_map]; omega
    refine ⟨ws ++ [l], m3 + 2, _, _, _, rfl, ⟨?_, (upd_ne (Ne.symm hpt)).trans A7.et, upd_same.trans (by rw [List.map_append]; rfl)⟩, by omega, by omega, by rw [List.length_append, hwl]; rfl, ?_⟩
    · intro b o nb hb
      rw [upd_ne (fun z => by rw [z, hp] at hb; cases hb)]
      exact A7.sx b o nb hb
    · intro x hx
      rcases List.mem_append.mp hx with hx | hx
      · exact hw x hx
      · rw [show x = l by simpa using hx]; exact hl
  · rintro σ H2 ⟨ws, m', x5, x6, x7, rfl, A2, l1, l2, hwl, hw⟩
    exact ⟨_, rfl, q p ws m' H2 hp A2.sx A2.ep A2.et l1 l2 hwl hw⟩
/-! _law_lead -/
abbrev sLead : Stmt := top 13
theorem scLead : FnScope ["_law_kind", "_law_wide", "_law_number"] ["_law_kind", "_law_wide", "_law_number"] (defScope sLead) := ⟨rfl, rfl, rfl, by decide +kernel, rfl, by decide +kernel, by decide +kernel⟩
def spLead : Sp := fun vs H Q _ => ∃ kind wide n : Nat, vs = [.int kind, .int wide, .int n] ∧ kind ≤ 3 ∧ wide ≤ 1000 ∧ n ≤ 4000000 ∧ ∀ H', Same H H' → Q (vS (leadC kind wide n)) H'
theorem ok_lead {f : Addr} {fd : FuncData} (F : Fun K "_law_lead" "_law_lead" sLead f fd) (T : Tx10 mg) : FnOk P w K mg base CX0 1 f fd ["_law_kind", "_law_wide", "_law_number"] spLead := by
  have sc := scLead
  refine F.ok sc (fun vs H Q E h => ?_) (fun cdv A outer s H vs Q E hr h => ?_)
  · obtain ⟨kind, wide, n, rfl, _⟩ := h
    rfl
  obtain ⟨kind, wide, n, rfl, k3, w0, n0, q⟩ := h
  refine of_XB (xbc (xif (xcmpT op_eq (xv 0) xint (nomark _)) (xb1 (xret xstr)) xb0)
    (xbc (xif (xcmpT op_eq (xv 0) xint (nomark _)) (xb1 (xret (xop op_mul_str xstr (xv 1)))) xb0)
    (xbc (xif (xcmpT op_eq (xv 0) xint (nomark _)) (xb1 (xret (xix ix_list (xlst (xac (xop op_mul_str xstr (xv 1)) (xac (xop op_mul_str xstr (xv 1)) xa0))) (xcTy call_int1 T.n_int rfl (xac (xcmp op_gt (xv 2) xint (nomark _)) xa0)) (fun _ _ => rfl)))) xb0)
    (xb1 (xret (xop op_mul_str xstr (xop op_mod (xop op_add (xv 1) (xop op_mul xint (xv 2))) (xop op_add (xv 1) xint)))))))) ?_
  have hs : sizeLine = 16777216 := sizeLine_eq
  unfold leadC at q
  dsimp only [tSeq, tNext]
  refine s_if _ (t_eqi (ev_v rfl) ev_c) (fun H1 s1 c => ?_) (fun H1 s1 c => ?_)
  · have c := of_decide_eq_true c
    rw [if_pos (by omega)] at q
    exact q H1 s1
  have c := of_decide_eq_false c
  rw [if_neg (by omega)] at q
  dsimp only [tSeq, tNext]
  refine s_if _ (t_eqi (ev_v rfl) ev_c) (fun H2 s2 c2 => ?_) (fun H2 s2 c2 => ?_)
  · have c2 := of_decide_eq_true c2
    rw [if_pos (by omega)] at q
    refine ⟨_, rfl, _, _, rfl, rfl, rfl, by omega, by omega, ?_⟩
    rw [show Txt.mul (Str.ofString "+") (wide : Int) = S (List.replicate wide 43) from mul_S 43 wide]
    exact q H2 (s1.trans s2)
  have c2 := of_decide_eq_false c2
  rw [if_neg (by omega)] at q
  dsimp only [tSeq, tNext]
  refine s_if _ (t_eqi (ev_v rfl) ev_c) (fun H3 s3 c3 => ?_) (fun H3 s3 c3 => ?_)
  · have c3 := of_decide_eq_true c3
    rw [if_pos (by omega)] at q
    refine ⟨_, rfl, _, _, rfl, rfl, rfl, by omega, by omega, _, rfl, _, _, rfl, rfl, rfl, by omega, by omega, by rw [hs]; show 2 ≤ 16777216; decide, fun p hp => ?_⟩
    refine ⟨_, rfl, _, _, rfl, rfl, .inr ⟨_, rfl, ?_⟩⟩
    rw [show Txt.mul (Str.ofString "-") (wide : Int) = S (List.replicate wide 45) from mul_S 45 wide, show Txt.mul (Str.ofString " ") (wide : Int) = S (List.replicate wide 32) from mul_S 32 wide]
    have s4 := (s1.trans s2).trans (s3.trans (same_new hp (.lst [vS (List.replicate wide 45), vS (List.replicate wide 32)])))
    by_cases hn : n = 0
    · rw [if_pos hn] at q
      refine ⟨p, _, _, vS (List.replicate wide 45), rfl, rfl, SqL.of upd_same, ?_, q _ s4⟩
      rw [if_neg (by rw [decide_eq_true_iff]; omega)]
      exact atI_nat (j := 0) rfl
    · rw [if_neg hn] at q
      refine ⟨p, _, _, vS (List.replicate wide 32), rfl, rfl, SqL.of upd_same, ?_, q _ s4⟩
      rw [if_pos (by rw [decide_eq_true_iff]; omega)]
      exact atI_nat (j := 1) rfl
  have c3 := of_decide_eq_false c3
  rw [if_neg (by omega)] at q
  refine ⟨_, rfl, _, rfl, _, _, rfl, rfl, .inl ⟨by omega, by omega⟩, _, _, rfl, rfl, _, rfl, _, _, rfl, rfl, _, _, rfl, rfl, show (0 : Int) < wide + 1 by omega, ?_⟩
  have e : ((wide : Int) + 5 * (n : Int)) % ((wide : Int) + 1) = (((wide + 5 * n) % (wide + 1) : Nat) : Int) := by
    rw [Int.natCast_emod]; rfl
  dsimp only
  rw [e]
  have hm := Nat.mod_lt (wide + 5 * n) (show 0 < wide + 1 by omega)
  refine ⟨_, _, rfl, rfl, rfl, by omega, by omega, ?_⟩
  rw [show Txt.mul (Str.ofString ">") (((wide + 5 * n) % (wide + 1) : Nat) : Int) = S (List.replicate ((wide + 5 * n) % (wide + 1)) 62) from mul_S 62 _]
  exact q H3 (s1.trans (s2.trans s3))
end
end K10

set_option Elab.async false
set_option linter.all false
set_option maxRecDepth 100000
set_option maxHeartbeats 4000000
namespace K10
open PySem L2 Lm Lw
theorem eqv_nil (ts : List (List Nat)) : PyData.eqv (.list (dT ts)) (.list []) = ts.isEmpty := by
  cases ts with
  | nil => rfl
  | cons t ts => rfl
theorem ixN_0 (n : Nat) : ixN (n + 1) 0 = some 0 := by unfold ixN; rw [if_pos (Int.le_refl 0), if_pos (by omega)]; rfl
theorem dep_dT6 (ts : List (List Nat)) : PyData.depth (.list (dT ts)) ≤ 6 := by
  have := dep_dT ts
  simp only [PyData.depth]
  omega
/-- a test that does not hold, with nothing for that -/
theorem s_no {t : TT} {f u : TS} {D : Ends} {σ : St} {H : Hp} (ht : Tells t σ H false) (k : ∀ H', Same H H' → u D σ H') : tSeq (tIfS t f tNext) u D σ H := s_if false ht (fun _ _ z => Bool.noConfusion z) (fun H' s' _ => k H' s')
/-- the words that are left, at a list of their own -/
structure LeftAt (lf : Addr) (H0 : Hp) (lw : List (List Nat)) (H : Hp) : Prop where
  sm : Same H0 H
  el : H lf = some (.lst (lw.map vS))
theorem LeftAt.same {lf : Addr} {H0 H H' : Hp} {lw : List (List Nat)} (h : LeftAt lf H0 lw H) (s : Same H H') : LeftAt lf H0 lw H' := ⟨h.sm.trans s, s _ _ h.el⟩
theorem LeftAt.put {lf : Addr} {H0 H : Hp} {lw lw' : List (List Nat)} {xs : List V} (h : LeftAt lf H0 lw H) (hl : H0 lf = none) (e : xs = lw'.map vS) : LeftAt lf H0 lw' (upd H lf (.lst xs)) := ⟨fun b o hb => by rw [upd_ne (fun z => by rw [z, hl] at hb; cases hb)]; exact h.sm b o hb, by rw [upd_same, e]⟩
section
variable {K : PySem.W.Frag} {σ : St} {H : Hp} {lf : Addr} {i : Nat}
theorem ev_hd {w : List Nat} {r : List (List Nat)} (hi : σ[i]? = some (some (.ref lf))) (h : H lf = some (.lst ((w :: r).map vS))) : Ev (tOp (rIxL K) (tVar i) (tC (.int 0))) σ H (vS w) := fun R rr => ⟨_, hi, lf, _, 0, _, rfl, rfl, SqL.of h, atI_nat (j := 0) rfl, rr⟩
theorem t_nil {lw : List (List Nat)} (hi : σ[i]? = some (some (.ref lf))) (h : H lf = some (.lst (lw.map vS))) (ha : ∀ w ∈ lw, Asc w) : Tells (tTest (tOp (rEqG K false) (tVar i) (tLst tNil))) σ H lw.isEmpty := fun R k => by
  refine ⟨_, hi, big (show (0 : Nat) ≤ 1000000 by decide), fun p hp => ?_⟩
  have s1 := same_new hp (.lst [])
  refine ⟨.list (dT lw), .list [], .lst (SqL.of (s1 _ _ h)) (den_dT ha), .lst (SqL.of upd_same) .nil, dep_dT6 _, by decide, _, rfl, ?_⟩
  rw [eqv_nil]
  exact k _ s1
theorem t_notnil {lw : List (List Nat)} (hi : σ[i]? = some (some (.ref lf))) (h : H lf = some (.lst (lw.map vS))) (ha : ∀ w ∈ lw, Asc w) : Tells (tTest (tOp (rEqG K true) (tVar i) (tLst tNil))) σ H (!lw.isEmpty) := fun R k => by
  refine ⟨_, hi, big (show (0 : Nat) ≤ 1000000 by decide), fun p hp => ?_⟩
  have s1 := same_new hp (.lst [])
  refine ⟨.list (dT lw), .list [], .lst (SqL.of (s1 _ _ h)) (den_dT ha), .lst (SqL.of upd_same) .nil, dep_dT6 _, by decide, _, rfl, ?_⟩
  rw [eqv_nil]
  exact k _ s1
theorem t_rel {p : Int → Int → Bool} {ta tb : TE} {x y : Int} (h1 : Ev ta σ H (.int x)) (h2 : Ev tb σ H (.int y)) : Tells (tTest (tOp (rI0 fun i j => .bl (p i j)) ta tb)) σ H (p x y) := fun R k => h1 _ (h2 _ ⟨x, y, rfl, rfl, _, rfl, k _ (Same.refl _)⟩)
theorem pop_hd {w : List Nat} {r : List (List Nat)} {R : VK} (h : H lf = some (.lst ((w :: r).map vS))) (q : R (vS w) (upd H lf (.lst (r.map vS)))) : rPopAt (.ref lf) [.int 0] H R :=
  ⟨lf, _, 0, 0, vS w, rfl, rfl, h, by decide, by decide, by
    unfold seqIndex?
    simp only [List.map_cons, List.length_cons]
    first
      | (rw [if_pos (by omega)]; rfl)
      | simp, rfl, q⟩
end
section
variable {P : Program} {w : World} {K : PySem.W.Frag} {mg : Str → Option Value} {base : Heap}
abbrev sRight : Stmt := top 14
theorem scRight : FnScope ["_law_words_here", "_law_width", "_law_kind", "_law_wide", "_law_rows", "_law_left", "_law_number", "_law_row", "_law_ahead", "_law_room", "_law_due"] ["_law_words_here", "_law_width", "_law_kind", "_law_wide", "_law_rows"] (defScope sRight) := ⟨rfl, rfl, rfl, by decide +kernel, rfl, by decide +kernel, by decide +kernel⟩
def spRight : Sp := fun vs H Q _ => ∃ (aw ar : Addr) (ws rows : List (List Nat)) (width kind wide : Nat), vs = [.ref aw, .int width, .int kind, .int wide, .ref ar] ∧ H aw = some (.lst (ws.map vS)) ∧ H ar = some (.lst (rows.map vS)) ∧
  Filled width (leadC kind wide) 0 ws rows ∧ (∀ w ∈ ws, Wd 1000 w) ∧ ws.length ≤ 20 ∧ wide < width ∧ width ≤ 40 ∧ kind ≤ 3 ∧ ∀ H', Same H H' → Q (.bl true) H'
theorem ok_right {f : Addr} {fd : FuncData} (F : Fun K "_law_rows_right" "_law_rows_right" sRight f fd) (T : Tx10 mg) (D_l_lead : Def P w K mg base 1 "_law_lead" ["_law_kind", "_law_wide", "_law_number"] spLead) :
    FnOk P w K mg base CX0 2 f fd ["_law_words_here", "_law_width", "_law_kind", "_law_wide", "_law_rows"] spRight := by
  have sc := scRight
  refine F.ok sc (fun vs H Q E h => ?_) (fun cdv A outer s H vs Q E hr h => ?_)
  · obtain ⟨aw, ar, ws, rows, width, kind, wide, rfl, _⟩ := h
    rfl
  obtain ⟨aw, ar, ws, rows, width, kind, wide, rfl, ew, er, hF, hw, hwl, w0, w1, k3, q⟩ := h
  have hu : (A.deeper (PyProof.Rows.envOfC "_law_rows_right" (defScope sRight) s.heap.objs.size f cdv)).units + 64 < cLine := by
    have := hr.un
    omega
  refine of_XB (xbc (xset (i := 5) sc.nd rfl (Or.inl rfl) (xcTy call_list_of T.n_list rfl (xac (xv 0) xa0)))
    (xbc (xfor PassesOwn.never rfl (xie T.n_enumerate (xac (xv 4) xa0)) (xgt rfl (xgsc (xgn (i := 6) sc.nd rfl (Or.inl rfl)) (xgsc (xgn (i := 7) sc.nd rfl (Or.inl rfl)) xgs0)))
    (xbc (xset (i := 8) sc.nd rfl (Or.inl rfl) (xcD D_l_lead (hr.mono (by decide)) (xac (xv 2) (xac (xv 3) (xac (xv 6) xa0)))))
    (xbc (xset (i := 9) sc.nd rfl (Or.inl rfl) (xop op_sub (xv 1) (xcB call_len_str T.n_len PySem.boot_len (xac (xv 8) xa0))))
    (xbc (xif (xor (xnotT (xvalT (xcB call_isT T.n_isinstance rfl (xac (xv 7) (xac (xty (T := "str") T.n_str rfl) xa0))))) (xor (xcmpT op_ne (xsl sl_str (xv 7) xo0 (xo1 (xcB call_len_str T.n_len PySem.boot_len (xac (xv 8) xa0)))) (xv 8) (nomark _)) (xor1 (xcmpT (op_eqG hu) (xv 5) (xlst xa0) (nomark _))))).xt (xb1 (xret xbl)) xb0)
    (xbc (xif (xcmpT op_gt (xcB call_len_str T.n_len PySem.boot_len (xac (xix ix_list (xv 5) xint (fun _ _ => rfl)) xa0)) (xv 9) (nomark _)) (xbc (xset (i := 10) sc.nd rfl (Or.inl rfl) (xsl sl_str (xix ix_list (xv 5) xint (fun _ _ => rfl)) xo0 (xo1 (xv 9))))
    (xb1 (xasg (xsl sl_str (xix ix_list (xv 5) xint (fun _ _ => rfl)) (xo1 (xv 9)) xo0) (xgsub (xv 5) xint set_list)))) (xbc (xset (i := 10) sc.nd rfl (Or.inl rfl) (xm PySem.F.plainAttrs_list PySem.F.slot_list_pop PySem.F.type_list_pop mt_popAt (xv 5) (xac xint xa0)))
    (xb1 (xwhile PassesOwn.never (xand (xcmpT (op_neG hu) (xv 5) (xlst xa0) (nomark _)) (xand1 (xcmpT op_le (xop op_add (xop op_add (xcB call_len_str T.n_len PySem.boot_len (xac (xv 10) xa0)) xint) (xcB call_len_str T.n_len PySem.boot_len (xac (xix ix_list (xv 5) xint (fun _ _ => rfl)) xa0))) (xv 9) (nomark _)))).xt
    (xb1 (xset (i := 10) sc.nd rfl (Or.inl rfl) (xop op_add_str (xop op_add_str (xv 10) xstr) (xm PySem.F.plainAttrs_list PySem.F.slot_list_pop PySem.F.type_list_pop mt_popAt (xv 5) (xac xint xa0)))))))))
    (xb1 (xif (xcmpT op_ne (xv 7) (xop op_add_str (xv 8) (xv 10)) (nomark _)) (xb1 (xret xbl)) xb0)))))))
    (xb1 (xret (xcmp (op_eqG hu) (xv 5) (xlst xa0) (nomark _)))))) ?_
  have hs : sizeLine = 16777216 := sizeLine_eq
  have hL : ∀ n, (leadC kind wide n).length < width := fun n => Nat.lt_of_le_of_lt (lead_len kind wide n) w0
  have hcnt := hF.count hL
  have htot := tot_le (m := 1000) fun x hx => (hw x hx).2.2.1
  have hwide := hF.wide hL
  have hrl : rows.length ≤ 20020 := Nat.le_trans hcnt (Nat.le_trans htot (by omega))
  refine ⟨_, rfl, aw, _, rfl, .inl (SqL.of ew), fun lf hlf => ?_⟩
  have A1 : LeftAt lf H ws (upd H lf (.lst (ws.map vS))) := ⟨same_new hlf _, upd_same⟩
  dsimp only [gName]
  generalize upd H lf (.lst (ws.map vS)) = H1 at A1 ⊢
  refine ⟨_, rfl, ar, _, rfl, A1.sm _ _ er, ?_⟩
  refine for_any rows.length (fun i σ H' => ∃ lw x6 x7 x8 x9 x10, σ = [some (.ref aw), some (.int width), some (.int kind), some (.int wide), some (.ref ar), some (.ref lf), x6, x7, x8, x9, x10] ∧ LeftAt lf H lw H' ∧ Filled width (leadC kind wide) i lw (rows.drop i) ∧ ∀ w ∈ lw, w.length ≤ 1000 ∧ Asc w)
    ⟨ws, none, none, none, none, none, rfl, A1, hF, fun x hx => ⟨(hw x hx).2.2.1, (hw x hx).2.2.2⟩⟩ ?_ ?_ ?_ ?_
  · rintro i σ H2 hi ⟨lw, _, _, _, _, _, _, A2, _⟩
    exact ⟨_, _, SqL.of (A2.sm _ _ er), by rw [List.getElem?_map, List.getElem?_eq_getElem hi]; rfl⟩
  · rintro σ H2 ⟨lw, _, _, _, _, _, _, A2, _⟩
    exact ⟨_, SqL.of (A2.sm _ _ er), by rw [List.length_map]; exact Nat.le_refl _⟩
  · rintro i σ H2 x H3 hi ⟨lw, x6, x7, x8, x9, x10, rfl, A2, hF2, hlw⟩ ⟨T, y, hy, hT, rfl, rfl⟩
    have hy2 := hy _ (SqL.of (A2.sm _ _ er))
    rw [List.getElem?_map, List.getElem?_eq_getElem hi] at hy2
    have hy3 : y = vS rows[i] := (Option.some.inj hy2).symm
    subst hy3
    have hrow := hwide rows[i] (List.getElem_mem hi)
    rw [List.drop_eq_getElem_cons hi] at hF2
    generalize rows[i] = r at *
    refine ⟨T, _, rfl, SqT.of upd_same, rfl, _, _, rfl, _, _, rfl, rfl, ?_⟩
    have A3 := A2.same (same_new hT (.tup [.int i, vS r]))
    dsimp only [gName]
    generalize upd H2 T (.tup [.int i, vS r]) = H3 at A3 ⊢
    refine ⟨_, rfl, _, rfl, _, rfl, kind, wide, i, rfl, k3, by omega, by omega, fun H4 s4 => ?_⟩
    have A4 := A3.same s4
    have hLi := hL i
    have hAL : Asc (leadC kind wide i) := by
      unfold leadC
      intro c hc
      split at hc
      · cases hc
      · split at hc
        · rw [(List.mem_replicate.mp hc).2]; decide
        · split at hc
          · split at hc <;> (rw [(List.mem_replicate.mp hc).2]; decide)
          · rw [(List.mem_replicate.mp hc).2]; decide
    generalize hLe : leadC kind wide i = L at *
    dsimp only [gName]
    refine ⟨_, rfl, _, rfl, _, rfl, bigS (by omega), _, _, rfl, rfl, ?_⟩
    obtain ⟨room, hroom⟩ : ∃ room : Nat, room = width - L.length := ⟨_, rfl⟩
    dsimp only [gName]
    rw [S_len, show (width : Int) - (L.length : Nat) = (room : Nat) by omega]
    have hr1 : 1 ≤ room := by omega
    -- the row
    obtain ⟨wd, lr, rfl⟩ : ∃ wd lr, lw = wd :: lr := by
      cases hF2 with
      | cut _ w r rows _ _ => exact ⟨_, _, rfl⟩
      | row _ w r rows _ _ => exact ⟨_, _, rfl⟩
    obtain ⟨due, left, hdue, hF3, hcase⟩ : ∃ due left, r = L ++ due ∧ Filled width (leadC kind wide) (i + 1) left (rows.drop (i + 1)) ∧
        ((room < wd.length ∧ due = wd.take room ∧ left = wd.drop room :: lr) ∨ (wd.length ≤ room ∧ fitC room wd lr = (due, left))) := by
      cases hF2 with
      | cut _ w r rows hc hf =>
        rw [hLe, ← hroom] at hf
        rw [hLe, ← hroom] at hc
        exact ⟨wd.take room, wd.drop room :: lr, by rw [hLe, hroom], hf, .inl ⟨hc, rfl, rfl⟩⟩
      | row _ w r rows hc hf =>
        rw [hLe, ← hroom] at hf
        rw [hLe, ← hroom] at hc
        exact ⟨(fitC room wd lr).1, (fitC room wd lr).2, by rw [hLe, hroom], hf, .inr ⟨hc, rfl⟩⟩
    have hwd := hlw wd List.mem_cons_self
    have hduel : due.length ≤ 40 := by rw [hdue, List.length_append] at hrow; omega
    refine s_no (t_or false false (t_not true fun R k => ⟨_, rfl, _, _, _, true, rfl, .str _, kit_same _ _, _, rfl, k _ (Same.refl _)⟩) (fun _ H5 s5 => t_or false false (fun R k => ?_) (fun _ H6 s6 => t_nil (lw := wd :: lr) rfl (s6 _ _ (s5 _ _ A4.el)) fun x hx => (hlw x hx).2))) (fun H5 s5 => ?_)
    · refine ⟨_, rfl, _, rfl, _, rfl, bigS (by omega), _, rfl, _, rfl, bigS (by omega), _, rfl, rfl, _, rfl, ?_⟩
      rw [slice_S, S_len, cut_to, hdue, List.take_left, show (!decide (vS L = vS L)) = false by simp]
      exact k _ (Same.refl _)
    have A5 := A4.same s5
    clear A4 A3 s5 s4
    refine s_join (fun σ' H' => σ' = [some (.ref aw), some (.int width), some (.int kind), some (.int wide), some (.ref ar), some (.ref lf), some (.int i), some (vS r), some (vS L), some (.int room), some (vS due)] ∧ LeftAt lf H left H' ∧ ∀ w ∈ left, w.length ≤ 1000 ∧ Asc w) (fun N hN => ?_) ?_
    · refine s_if (decide ((room : Int) < (wd.length : Nat))) (t_rel (p := fun i j => decide (j < i)) (x := (wd.length : Nat)) (y := (room : Nat)) (ev_len (by omega) (ev_hd (w := wd) (r := lr) rfl A5.el)) (ev_v rfl)) (fun H6 s6 c => ?_) (fun H6 s6 c => ?_)
      · have c := of_decide_eq_true c
        have A6 := A5.same s6
        rcases hcase with ⟨_, hd1, hd2⟩ | ⟨h1, _⟩
        · refine ev_hd rfl A6.el _ ⟨_, rfl, _, rfl, _, rfl, bigS (by omega), ?_⟩
          rw [slice_S, cut_to, ← hd1]
          dsimp only [gName]
          refine ev_hd rfl A6.el _ ⟨_, rfl, _, rfl, _, rfl, bigS (by omega), ?_⟩
          rw [slice_S, cut_from]
          refine ⟨_, rfl, lf, _, 0, 0, rfl, rfl, A6.el, by rw [List.length_map, List.length_cons]; exact ixN_0 _, ?_⟩
          refine hN _ _ ⟨rfl, A6.put hlf (by rw [hd2]; rfl), fun x hx => ?_⟩
          rw [hd2] at hx
          rcases List.mem_cons.mp hx with rfl | hx
          · exact ⟨by rw [List.length_drop]; omega, hwd.2.drop _⟩
          · exact hlw x (List.mem_cons_of_mem _ hx)
        · omega
      · have c := of_decide_eq_false c
        have A6 := A5.same s6
        rcases hcase with ⟨h1, _, _⟩ | ⟨h1, hfit⟩
        · omega
        refine ⟨_, rfl, .inl ⟨rfl, _, SqL.of A6.el⟩, pop_hd A6.el ?_⟩
        have A7 : LeftAt lf H lr (upd H6 lf (.lst (lr.map vS))) := A6.put hlf rfl
        dsimp only [gName]
        generalize upd H6 lf (.lst (lr.map vS)) = H7 at A7 ⊢
        refine while_t (fun m σ H' => ∃ d l, m = l.length ∧ σ = [some (.ref aw), some (.int width), some (.int kind), some (.int wide), some (.ref ar), some (.ref lf), some (.int i), some (vS r), some (vS L), some (.int room), some (vS d)] ∧ LeftAt lf H l H' ∧ fitC room d l = (due, left) ∧ d.length ≤ 40 ∧ ∀ w ∈ l, w.length ≤ 1000 ∧ Asc w) lr.length
          ⟨wd, lr, rfl, rfl, A7, hfit, by omega, fun x hx => hlw x (List.mem_cons_of_mem _ hx)⟩ ?_
        rintro m σ H8 ⟨d, l, rfl, rfl, A8, hf, hdl, hl⟩
        cases l with
        | nil =>
          refine ⟨false, ?_, fun z => Bool.noConfusion z, fun _ H9 s9 => ?_⟩
          · exact t_and false false (t_notnil (lw := []) rfl A8.el fun _ z => nomatch z) fun z => Bool.noConfusion z
          · cases hf
            exact hN _ _ ⟨rfl, A8.same s9, fun _ z => nomatch z⟩
        | cons v l =>
          have hv := hl v List.mem_cons_self
          refine ⟨true && decide ((d.length : Int) + 1 + (v.length : Nat) ≤ (room : Nat)), ?_, fun c H9 s9 => ?_, fun c H9 s9 => ?_⟩
          · exact t_and true _ (t_notnil (lw := v :: l) rfl A8.el fun x hx => (hl x hx).2) fun _ H9 s9 => t_rel (p := fun i j => decide (i ≤ j)) (x := (d.length : Int) + 1 + (v.length : Nat)) (y := (room : Nat)) (ev_op (ev_op (ev_len (l := d) (by omega) (ev_v rfl)) ev_c rfl) (ev_len (by omega) (ev_hd (w := v) (r := l) rfl (s9 _ _ A8.el))) rfl) (ev_v rfl)
          · rw [Bool.true_and] at c
            have c : d.length + 1 + v.length ≤ room := by have := of_decide_eq_true c; omega
            have A9 := A8.same s9
            refine ⟨_, rfl, _, _, rfl, rfl, ?_, _, rfl, .inl ⟨rfl, _, SqL.of A9.el⟩, ?_⟩
            · show (S d).length + 1 ≤ _
              rw [S_len, hs]; omega
            dsimp only [tCons, tC, tNil]
            refine pop_hd A9.el ?_
            refine ⟨_, _, rfl, rfl, ?_, ?_⟩
            · show (S d ++ S [32]).length + (S v).length ≤ _
              rw [S_app, S_len, S_len, hs, List.length_append]
              show d.length + 1 + _ ≤ _
              omega
            refine ⟨l.length, by rw [List.length_cons]; omega, d ++ [32] ++ v, l, rfl, ?_, A9.put hlf rfl, ?_, ?_, fun x hx => hl x (List.mem_cons_of_mem _ hx)⟩
            · rw [show (V.str (S d ++ Str.ofString " " ++ S v)) = vS (d ++ [32] ++ v) by show V.str (S d ++ S [32] ++ S v) = _; rw [S_app, S_app]]
              rfl
            · rw [← hf]
              show _ = (if d.length + 1 + v.length ≤ room then _ else _)
              rw [if_pos c]
            · simp only [List.length_append, List.length_cons, List.length_nil]; omega
          · rw [Bool.true_and] at c
            have c : ¬ d.length + 1 + v.length ≤ room := by have := of_decide_eq_false c; omega
            have hf2 : fitC room d (v :: l) = (d, v :: l) := by
              show (if d.length + 1 + v.length ≤ room then _ else _) = _
              rw [if_neg c]
            rw [hf2] at hf
            cases hf
            exact hN _ _ ⟨rfl, A8.same s9, hl⟩
    rintro σ6 H6 ⟨rfl, A6, hl6⟩
    refine s_if false (fun R k => ?_) (fun _ _ z => Bool.noConfusion z) (fun H7 s7 _ => ⟨left, _, _, _, _, _, rfl, A6.same s7, hF3, hl6⟩)
    refine ⟨_, rfl, _, rfl, _, rfl, _, _, rfl, rfl, ?_, rfl, _, rfl, ?_⟩
    · show (S L).length + (S due).length ≤ _
      rw [S_len, S_len, hs]; omega
    · rw [show (!decide (vS r = .str (S L ++ S due))) = false by rw [S_app, ← hdue]; simp]
      exact k _ (Same.refl _)
  · rintro σ H2 ⟨lw, x6, x7, x8, x9, x10, rfl, A2, hF2, hlw⟩
    rw [List.drop_length] at hF2
    cases hF2
    have hnil := t_nil (K := K) (σ := [some (.ref aw), some (.int width), some (.int kind), some (.int wide), some (.ref ar), some (.ref lf), x6, x7, x8, x9, x10]) (lw := []) (i := 5) rfl A2.el fun _ z => nomatch z
    refine ⟨_, rfl, big (show (0 : Nat) ≤ 1000000 by decide), fun p hp => ?_⟩
    have s1 := same_new hp (.lst [])
    exact ⟨.list [], .list [], .lst (SqL.of (s1 _ _ A2.el)) .nil, .lst (SqL.of upd_same) .nil, by decide, by decide, q _ (A2.sm.trans s1)⟩
end
end K10

set_option Elab.async false
set_option linter.all false
/-! Texts with blanks about them: strip, ljust, rjust; a row of cells. -/
namespace Lm
open PySem PySem.Builtin PySem.Builtin.Str PySem.StrLaws
theorem strip_S (l y : List Nat) : Txt.stripChars (S l) (S y) = S (rstripL y.contains (l.dropWhile y.contains)) := by
  have e : (S y).cps.contains = y.contains := by funext c; simp
  have tl := congrArg List.length (List.takeWhile_append_dropWhile (p := y.contains) (l := l))
  rw [List.length_append] at tl
  have hd : l.drop (l.takeWhile y.contains).length = l.dropWhile y.contains := by
    conv => lhs; arg 2; rw [← List.takeWhile_append_dropWhile (p := y.contains) (l := l)]
    rw [List.drop_left]
  unfold Txt.stripChars Txt.stripBy
  rw [e]
  have h0 : stripLo y.contains true (S l) = (l.takeWhile y.contains).length := by simp [stripLo]
  have h1 : stripHi y.contains true (S l) (l.takeWhile y.contains).length = l.length - ((l.dropWhile y.contains).reverse.takeWhile y.contains).length := by
    unfold stripHi
    rw [if_pos rfl, S_len, S_list, hd]
  have hz : ((l.dropWhile y.contains).reverse.takeWhile y.contains).length ≤ (l.dropWhile y.contains).length := by
    have := (List.takeWhile_sublist (p := y.contains) (l := (l.dropWhile y.contains).reverse)).length_le
    rw [List.length_reverse] at this
    exact this
  rw [← take_len_sub]
  split
  · rename_i h
    rw [stripSame, h0, h1] at h
    simp only [Bool.and_eq_true, beq_iff_eq, S_len] at h
    have e1 : l.dropWhile y.contains = l := by rw [← hd, h.1, List.drop_zero]
    rw [e1] at h ⊢
    rw [show l.length - (l.reverse.takeWhile y.contains).length = l.length from h.2, List.take_length]
  · rw [stripped, h0, h1]
    have key : ∀ lo hi, strSub (S l) lo hi = S ((l.drop lo).take (hi - lo)) := fun lo hi => by
      unfold strSub
      simp [List.extract_eq_drop_take]
    rw [key, hd, show l.length - ((l.dropWhile y.contains).reverse.takeWhile y.contains).length - (l.takeWhile y.contains).length = (l.dropWhile y.contains).length - ((l.dropWhile y.contains).reverse.takeWhile y.contains).length by omega]
theorem ljust_S (l : List Nat) (n : Nat) : Txt.ljust (S l) (n : Int) = S (l ++ List.replicate (n - l.length) 32) := by
  unfold Txt.ljust
  rw [S_len]
  split
  · rw [show n - l.length = 0 by omega]; simp
  · unfold padded
    rw [Int.toNat_natCast]
    simp
theorem rjust_S (l : List Nat) (n : Nat) : Txt.rjust (S l) (n : Int) = S (List.replicate (n - l.length) 32 ++ l) := by
  unfold Txt.rjust
  rw [S_len]
  split
  · rw [show n - l.length = 0 by omega]; simp
  · unfold padded
    rw [Int.toNat_natCast]
    simp
/-- a text at its side of a width -/
def padC (right : Bool) (w : Nat) (t : List Nat) : List Nat := if right then List.replicate (w - t.length) 32 ++ t else t ++ List.replicate (w - t.length) 32
/-- no blank at either end -/
def Bare (t : List Nat) : Prop := t.head? ≠ some 32 ∧ t.getLast? ≠ some 32
theorem pad_len {right : Bool} {w : Nat} {t : List Nat} (h : t.length ≤ w) : (padC right w t).length = w := by
  unfold padC
  split <;> (rw [List.length_append, List.length_replicate]; omega)
theorem dw_blanks (n : Nat) (l : List Nat) : (List.replicate n 32 ++ l).dropWhile ([32] : List Nat).contains = l.dropWhile ([32] : List Nat).contains := by
  induction n with
  | zero => rfl
  | succ n ih => rw [List.replicate_succ, List.cons_append, List.dropWhile_cons_of_pos (by decide), ih]
theorem dw_bare {l : List Nat} (h : l.head? ≠ some 32) : l.dropWhile ([32] : List Nat).contains = l := by
  cases l with
  | nil => rfl
  | cons x l =>
    rw [List.dropWhile_cons_of_neg]
    intro z
    have : x = 32 := by simpa using z
    exact h (by rw [this]; rfl)
theorem rs_blanks (n : Nat) (l : List Nat) : rstripL ([32] : List Nat).contains (l ++ List.replicate n 32) = rstripL ([32] : List Nat).contains l := by
  unfold rstripL
  rw [List.reverse_append, List.reverse_replicate, dw_blanks]
theorem rs_bare {l : List Nat} (h : l.getLast? ≠ some 32) : rstripL ([32] : List Nat).contains l = l := by
  unfold rstripL
  rw [dw_bare (by rw [List.head?_reverse]; exact h), List.reverse_reverse]
theorem strip_pad {right : Bool} {w : Nat} {t : List Nat} (h : Bare t) : rstripL ([32] : List Nat).contains ((padC right w t).dropWhile ([32] : List Nat).contains) = t := by
  unfold padC
  split
  · rw [dw_blanks, dw_bare h.1, rs_bare h.2]
  · cases t with
    | nil =>
      rw [List.nil_append, show List.replicate (w - ([] : List Nat).length) 32 = List.replicate (w - ([] : List Nat).length) 32 ++ [] by simp, dw_blanks]
      rfl
    | cons x t =>
      rw [dw_bare (l := x :: t ++ _) h.1, rs_blanks, rs_bare h.2]
theorem tw_all (p : Nat → Bool) : ∀ (l : List Nat), ∀ c ∈ l.takeWhile p, p c = true
  | [], c, h => by cases h
  | x :: l, c, h => by
    rw [List.takeWhile_cons] at h
    split at h
    · rename_i hx
      rcases List.mem_cons.mp h with rfl | h
      · exact hx
      · exact tw_all p l c h
    · cases h
theorem rs_ljust (l : List Nat) : rstripL ([32] : List Nat).contains l ++ List.replicate (l.length - (rstripL ([32] : List Nat).contains l).length) 32 = l := by
  have hp : l = rstripL ([32] : List Nat).contains l ++ (l.reverse.takeWhile ([32] : List Nat).contains).reverse := by
    unfold rstripL
    rw [← List.reverse_append, List.takeWhile_append_dropWhile, List.reverse_reverse]
  have hall : ∀ c ∈ l.reverse.takeWhile ([32] : List Nat).contains, c = 32 := fun c hc => by
    have := tw_all ([32] : List Nat).contains l.reverse c hc
    simpa using this
  have hlen : l.length - (rstripL ([32] : List Nat).contains l).length = (l.reverse.takeWhile ([32] : List Nat).contains).length := by
    have := congrArg List.length hp
    rw [List.length_append, List.length_reverse] at this
    omega
  rw [hlen]
  have : List.replicate (l.reverse.takeWhile ([32] : List Nat).contains).length 32 = (l.reverse.takeWhile ([32] : List Nat).contains).reverse := by
    symm
    rw [List.eq_replicate_iff]
    exact ⟨by rw [List.length_reverse], fun c hc => hall c (List.mem_reverse.mp hc)⟩
  rw [this]
  exact hp.symm
end Lm

set_option Elab.async false
set_option linter.all false
set_option maxRecDepth 100000
set_option maxHeartbeats 2000000
namespace K10
open PySem L2 Lm Lw
abbrev Col := Nat × Bool × List Nat
def wLeft : List Nat := [108, 101, 102, 116]
def wRight : List Nat := [114, 105, 103, 104, 116]
def sideC (r : Bool) : List Nat := if r then wRight else wLeft
def lineC (cols : List Col) : List Nat := glueC [32, 124, 32] (cols.map fun c => padC c.2.1 c.1 c.2.2)
def ColOk (c : Col) : Prop := 1 ≤ c.1 ∧ c.1 ≤ 100 ∧ c.2.2.length ≤ c.1 ∧ Bare c.2.2
theorem line_cons {c : Col} {rest : List Col} (h : rest ≠ []) : lineC (c :: rest) = padC c.2.1 c.1 c.2.2 ++ ([32, 124, 32] ++ lineC rest) := by
  unfold lineC
  rw [List.map_cons, glueC_cons _ _ _ (by simpa using h), List.append_assoc]
theorem line_len : ∀ {cols : List Col}, cols ≠ [] → (∀ c ∈ cols, ColOk c) → (lineC cols).length = (cols.map (·.1)).sum + 3 * (cols.length - 1)
  | [c], _, h => by
    show (padC c.2.1 c.1 c.2.2).length = _
    rw [pad_len (h c List.mem_cons_self).2.2.1]
    simp
  | c :: d :: r, _, h => by
    have ih := line_len (cols := d :: r) (by simp) fun x hx => h x (List.mem_cons_of_mem _ hx)
    rw [line_cons (by simp), List.length_append, List.length_append, ih, pad_len (h c List.mem_cons_self).2.2.1]
    simp only [List.map_cons, List.sum_cons, List.length_cons, List.length_nil]
    omega
section
variable {P : Program} {w : World} {K : PySem.W.Frag} {mg : Str → Option Value} {base : Heap}
abbrev sCut : Stmt := top 15
theorem scCut : FnScope ["_law_row", "_law_widths", "_law_sides", "_law_line", "_law_found", "_law_at", "_law_k", "_law_width", "_law_part", "_law_bare"] ["_law_row", "_law_widths", "_law_sides"] (defScope sCut) := ⟨rfl, rfl, rfl, by decide +kernel, rfl, by decide +kernel, by decide +kernel⟩
def spCut : Sp := fun vs H Q _ => ∃ (aw asd : Addr) (cols : List Col), vs = [vS (rstripL ([32] : List Nat).contains (lineC cols)), .ref aw, .ref asd] ∧ H aw = some (.lst (cols.map fun c => V.int (c.1 : Nat))) ∧ H asd = some (.lst (cols.map fun c => vS (sideC c.2.1))) ∧
  cols ≠ [] ∧ cols.length ≤ 20 ∧ (∀ c ∈ cols, ColOk c) ∧ ∀ p H', H p = none → Same H H' → H' p = some (.lst (cols.map fun c => vS c.2.2)) → Q (.ref p) H'
theorem sum_cols (cols : List Col) : ((cols.map fun c => ((c.1 : Nat) : Int))).sum = (((cols.map (·.1)).sum : Nat) : Int) := by
  induction cols with
  | nil => rfl
  | cons c cols ih => rw [List.map_cons, List.sum_cons, ih, List.map_cons, List.sum_cons]; omega
theorem sum_le {cols : List Col} (h : ∀ c ∈ cols, ColOk c) : (cols.map (·.1)).sum ≤ 100 * cols.length := by
  induction cols with
  | nil => simp
  | cons c cols ih =>
    have h1 := (h c List.mem_cons_self).2.1
    have h2 := ih fun x hx => h x (List.mem_cons_of_mem _ hx)
    rw [List.map_cons, List.sum_cons, List.length_cons]
    omega
theorem pad_ok {n : Nat} (h : n ≤ 1000000) : PadOk (n : Int) = true := by
  have hs : sizeLine = 16777216 := sizeLine_eq
  unfold PadOk fitsSsize Builtin.Str.tooLong
  rw [Int.toNat_natCast, hs]
  simp only [Bool.and_eq_true, Bool.not_eq_true', decide_eq_false_iff_not]
  refine ⟨?_, by omega⟩
  simp only [Bool.or_eq_false_iff, decide_eq_false_iff_not]
  omega
theorem ok_cut {f : Addr} {fd : FuncData} (F : Fun K "_law_cut" "_law_cut" sCut f fd) (T : Tx10 mg) : FnOk P w K mg base CX0 1 f fd ["_law_row", "_law_widths", "_law_sides"] spCut := by
  have sc := scCut
  refine F.ok sc (fun vs H Q E h => ?_) (fun cdv A outer s H vs Q E hr h => ?_)
  · obtain ⟨aw, asd, cols, rfl, _⟩ := h
    rfl
  obtain ⟨aw, asd, cols, rfl, ew, es, hne, hcl, hco, q⟩ := h
  refine of_XB (xbc (xset (i := 3) sc.nd rfl (Or.inl rfl) (xm PySem.F.plainAttrs_str PySem.F.slot_str_ljust PySem.F.type_str_ljust mt_ljust (xv 0) (xac (xop op_add (xcB (call_sum rfl) T.n_sum rfl (xac (xv 1) xa0)) (xop op_mul xint (xop op_sub (xcB call_len_seq T.n_len PySem.boot_len (xac (xv 1) xa0)) xint))) xa0)))
    (xbc (xset (i := 4) sc.nd rfl (Or.inl rfl) (xlst xa0))
    (xbc (xset (i := 5) sc.nd rfl (Or.inl rfl) xint)
    (xbc (xfor PassesOwn.never rfl (xie T.n_enumerate (xac (xv 1) xa0)) (xgt rfl (xgsc (xgn (i := 6) sc.nd rfl (Or.inl rfl)) (xgsc (xgn (i := 7) sc.nd rfl (Or.inl rfl)) xgs0)))
    (xbc (xset (i := 8) sc.nd rfl (Or.inl rfl) (xsl sl_str (xv 3) (xo1 (xv 5)) (xo1 (xop op_add (xv 5) (xv 7)))))
    (xbc (xset (i := 9) sc.nd rfl (Or.inl rfl) (xm PySem.F.plainAttrs_str PySem.F.slot_str_strip PySem.F.type_str_strip mt_strip (xv 8) (xac xstr xa0)))
    (xbc (xif (xcmpT op_ne (xv 8) (xix ix_list (xlst (xac (xm PySem.F.plainAttrs_str PySem.F.slot_str_ljust PySem.F.type_str_ljust mt_ljust (xv 9) (xac (xv 7) xa0)) (xac (xm PySem.F.plainAttrs_str PySem.F.slot_str_rjust PySem.F.type_str_rjust mt_rjust (xv 9) (xac (xv 7) xa0)) xa0))) (xcTy call_int1 T.n_int rfl (xac (xcmp op_eq (xix ix_list (xv 2) (xv 6) (fun _ _ => rfl)) xstr (nomark _)) xa0)) (fun _ _ => rfl)) (nomark _)) (xb1 (xret xnon)) xb0)
    (xbc (xexpr (xm PySem.F.plainAttrs_list PySem.F.slot_list_append PySem.F.type_list_append mt_append (xv 4) (xac (xv 9) xa0)))
    (xbc (xset (i := 5) sc.nd rfl (Or.inl rfl) (xop op_add (xop op_add (xv 5) (xv 7)) xint))
    (xb1 (xif (xand (xcmpT op_lt (xv 6) (xop op_sub (xcB call_len_seq T.n_len PySem.boot_len (xac (xv 1) xa0)) xint) (nomark _)) (xand1 (xcmpT op_ne (xsl sl_str (xv 3) (xo1 (xop op_sub (xv 5) xint)) (xo1 (xv 5))) xstr (nomark _)))).xt (xb1 (xret xnon)) xb0))))))))
    (xb1 (xret (xv 4))))))) ?_
  have hs : sizeLine = 16777216 := sizeLine_eq
  rw [show start ["_law_row", "_law_widths", "_law_sides", "_law_line", "_law_found", "_law_at", "_law_k", "_law_width", "_law_part", "_law_bare"] [vS (rstripL ([32] : List Nat).contains (lineC cols)), V.ref aw, V.ref asd] = [some (vS (rstripL ([32] : List Nat).contains (lineC cols))), some (V.ref aw), some (V.ref asd), none, none, none, none, none, none, none] from rfl]
  have hll := line_len hne hco
  have hsl := sum_le hco
  have hn1 : 1 ≤ cols.length := by cases cols with | nil => exact absurd rfl hne | cons _ _ => simp
  have hlines : (lineC cols).length ≤ 2060 := by rw [hll]; omega
  generalize hrow : rstripL ([32] : List Nat).contains (lineC cols) = row at *
  refine ⟨_, rfl, rfl, _, rfl, aw, (cols.map fun c => ((c.1 : Nat) : Int)), rfl, SqL.of (by rw [ew, List.map_map]; rfl), _, rfl, aw, _, rfl, .inl (SqL.of ew), _, _, rfl, rfl, _, _, rfl, rfl, .inl ⟨by decide, by decide⟩, _, _, rfl, rfl, _, ((lineC cols).length : Nat), rfl, ?_, pad_ok (by omega), ?_⟩
  · rw [sum_cols, List.length_map, hll]
    show [V.int _] = [V.int _]
    congr 2
    omega
  rw [ljust_S, ← hrow, rs_ljust]
  dsimp only [gName, List.set_cons_succ, List.set_cons_zero]
  refine ⟨big (show (0 : Nat) ≤ 1000000 by decide), fun p hp => ?_⟩
  have A1 : LeftAt p H (([] : List Col).map (·.2.2)) (upd H p (.lst [])) := ⟨same_new hp _, upd_same⟩
  dsimp only [gName, List.set_cons_succ, List.set_cons_zero]
  generalize upd H p (.lst []) = H1 at A1 ⊢
  refine ⟨_, rfl, aw, _, rfl, A1.sm _ _ ew, ?_⟩
  refine for_any cols.length (fun k σ H' => ∃ (at_ : Nat) (x0 x6 x7 x8 x9 : Option V), σ = [x0, some (.ref aw), some (.ref asd), some (vS (lineC cols)), some (.ref p), some (.int (at_ : Nat)), x6, x7, x8, x9] ∧ LeftAt p H ((cols.take k).map (·.2.2)) H' ∧ (k < cols.length → (lineC cols).drop at_ = lineC (cols.drop k)) ∧ at_ ≤ 103 * k)
    ⟨0, _, _, _, _, _, rfl, A1, fun _ => rfl, by omega⟩ ?_ ?_ ?_ ?_
  · rintro k σ H2 hk ⟨at_, _, _, _, _, _, _, A2, _⟩
    exact ⟨_, _, SqL.of (A2.sm _ _ ew), by rw [List.getElem?_map, List.getElem?_eq_getElem hk]; rfl⟩
  · rintro σ H2 ⟨at_, _, _, _, _, _, _, A2, _⟩
    exact ⟨_, SqL.of (A2.sm _ _ ew), by rw [List.length_map]; exact Nat.le_refl _⟩
  · rintro k σ H2 x H3 hk ⟨at_, x0, x6, x7, x8, x9, rfl, A2, hdrop, hat⟩ ⟨T, y, hy, hT, rfl, rfl⟩
    have hy2 := hy _ (SqL.of (A2.sm _ _ ew))
    rw [List.getElem?_map, List.getElem?_eq_getElem hk] at hy2
    have hy3 : y = .int (cols[k].1 : Nat) := (Option.some.inj hy2).symm
    subst hy3
    have hd := hdrop hk
    rw [List.drop_eq_getElem_cons hk] at hd
    have hc := hco cols[k] (List.getElem_mem hk)
    have htk : (cols.take (k + 1)).map (·.2.2) = (cols.take k).map (·.2.2) ++ [cols[k].2.2] := by
      rw [List.take_succ, List.getElem?_eq_getElem hk, List.map_append]; rfl
    have hsd : (cols.map fun c => vS (sideC c.2.1))[k]? = some (vS (sideC cols[k].2.1)) := by rw [List.getElem?_map, List.getElem?_eq_getElem hk]; rfl
    generalize cols[k] = c at *
    obtain ⟨cw, cr, ct⟩ := c
    obtain ⟨c1, c2, c3, c4⟩ := hc
    dsimp only at c1 c2 c3 c4 htk hsd ⊢
    have hpad : ((lineC cols).drop at_).take cw = padC cr cw ct := by
      rw [hd]
      by_cases hr' : cols.drop (k + 1) = []
      · rw [hr']
        show (padC cr cw ct).take cw = _
        rw [List.take_of_length_le (by rw [pad_len c3]; exact Nat.le_refl _)]
      · rw [line_cons hr', List.take_append_of_le_length (by rw [pad_len c3]; exact Nat.le_refl _), List.take_of_length_le (by rw [pad_len c3]; exact Nat.le_refl _)]
    have hnext : k + 1 < cols.length → ((lineC cols).drop (at_ + cw)).take 3 = [32, 124, 32] ∧ (lineC cols).drop (at_ + cw + 3) = lineC (cols.drop (k + 1)) := fun hk1 => by
      have hr' : cols.drop (k + 1) ≠ [] := fun z => by have := congrArg List.length z; rw [List.length_drop] at this; simp at this; omega
      have e : (lineC cols).drop (at_ + cw) = [32, 124, 32] ++ lineC (cols.drop (k + 1)) := by
        rw [← List.drop_drop, hd, line_cons hr', List.drop_append_of_le_length (by rw [pad_len c3]; exact Nat.le_refl _), List.drop_of_length_le (by rw [pad_len c3]; exact Nat.le_refl _)]
        rfl
      refine ⟨by rw [e]; rfl, ?_⟩
      rw [← List.drop_drop, e]
      rfl
    refine ⟨T, _, rfl, SqT.of upd_same, rfl, _, _, rfl, _, _, rfl, rfl, ?_⟩
    have A3 := A2.same (same_new hT (.tup [.int k, .int (cw : Nat)]))
    dsimp only [gName, List.set_cons_succ, List.set_cons_zero]
    generalize upd H2 T (.tup [.int k, .int (cw : Nat)]) = H3 at A3 ⊢
    refine ⟨_, rfl, _, rfl, _, rfl, _, rfl, _, rfl, _, _, rfl, rfl, _, rfl, _, rfl, bigS (by omega), ?_⟩
    rw [slice_S, show ((at_ : Nat) : Int) + ((cw : Nat) : Int) = ((at_ + cw : Nat) : Int) by omega, cut_any, show at_ + cw - at_ = cw by omega, hpad]
    dsimp only [gName, List.set_cons_succ, List.set_cons_zero]
    have hpl : (padC cr cw ct).length = cw := pad_len c3
    refine ⟨_, rfl, rfl, _, _, rfl, rfl, bigS (by omega), ?_⟩
    dsimp only [gName, List.set_cons_succ, List.set_cons_zero]
    rw [show Txt.stripChars (S (padC cr cw ct)) (Str.ofString " ") = S (rstripL ([32] : List Nat).contains ((padC cr cw ct).dropWhile ([32] : List Nat).contains)) from strip_S _ [32], strip_pad c4]
    refine s_no (fun R kk => ?_) (fun H4 s4 => ?_)
    · refine ⟨_, rfl, _, rfl, rfl, _, rfl, _, _, rfl, rfl, pad_ok (by omega), _, rfl, rfl, _, rfl, _, _, rfl, rfl, pad_ok (by omega), by rw [hs]; show 2 ≤ 16777216; decide, fun p2 hp2 => ?_⟩
      rw [ljust_S, rjust_S]
      have s5 := same_new hp2 (.lst [vS (ct ++ List.replicate (cw - ct.length) 32), vS (List.replicate (cw - ct.length) 32 ++ ct)])
      refine ⟨_, rfl, _, rfl, asd, _, _, _, rfl, rfl, SqL.of (s5 _ _ (A3.sm _ _ es)), atI_nat hsd, rfl, ?_⟩
      cases cr with
      | false =>
        refine .inr ⟨false, by with_unfolding_all rfl, ?_⟩
        refine ⟨p2, _, _, vS (ct ++ List.replicate (cw - ct.length) 32), rfl, rfl, SqL.of upd_same, atI_nat (j := 0) rfl, rfl, _, rfl, ?_⟩
        rw [show (!decide (vS (padC false cw ct) = vS (ct ++ List.replicate (cw - ct.length) 32))) = false by simp [padC]]
        exact kk _ s5
      | true =>
        refine .inr ⟨true, by with_unfolding_all rfl, ?_⟩
        refine ⟨p2, _, _, vS (List.replicate (cw - ct.length) 32 ++ ct), rfl, rfl, SqL.of upd_same, atI_nat (j := 1) rfl, rfl, _, rfl, ?_⟩
        rw [show (!decide (vS (padC true cw ct) = vS (List.replicate (cw - ct.length) 32 ++ ct))) = false by simp [padC]]
        exact kk _ s5
    have A4 := A3.same s4
    refine ⟨_, rfl, .inl ⟨rfl, _, SqL.of A4.el⟩, _, rfl, p, _, _, rfl, rfl, A4.el, by rw [List.length_map, List.length_map, List.length_take]; omega, ?_⟩
    have A5 : LeftAt p H ((cols.take (k + 1)).map (·.2.2)) (upd H4 p (.lst (((cols.take k).map (·.2.2)).map vS ++ [vS ct]))) := A4.put hp (by rw [htk, List.map_append]; rfl)
    generalize upd H4 p (.lst (((cols.take k).map (·.2.2)).map vS ++ [vS ct])) = H5 at A5 ⊢
    refine ⟨_, rfl, _, rfl, _, _, rfl, rfl, _, _, rfl, rfl, ?_⟩
    dsimp only [gName, List.set_cons_succ, List.set_cons_zero]
    rw [show ((at_ : Nat) : Int) + ((cw : Nat) : Int) + 3 = ((at_ + cw + 3 : Nat) : Int) by omega]
    refine s_if false (fun R kk => ⟨_, rfl, _, rfl, aw, _, rfl, .inl (SqL.of (A5.sm _ _ ew)), _, _, rfl, rfl, _, _, rfl, rfl, _, rfl, ?_⟩) (fun _ _ z => Bool.noConfusion z) (fun H6 s6 _ => ?_)
    · rw [List.length_map]
      refine ite2 (fun cc => ?_) (fun _ => kk _ (Same.refl _))
      have cc := of_decide_eq_true cc
      have hk1 : k + 1 < cols.length := by omega
      refine ⟨_, rfl, _, rfl, _, _, rfl, rfl, _, rfl, _, rfl, _, rfl, _, rfl, bigS (by omega), ?_⟩
      rw [slice_S, show ((at_ + cw + 3 : Nat) : Int) - 3 = ((at_ + cw : Nat) : Int) by omega, cut_any, show at_ + cw + 3 - (at_ + cw) = 3 by omega, (hnext hk1).1]
      refine ⟨rfl, _, rfl, ?_⟩
      rw [show (!decide (vS [32, 124, 32] = V.str (Str.ofString " | "))) = false by decide +kernel]
      exact kk _ (Same.refl _)
    · exact ⟨at_ + cw + 3, _, _, _, _, _, rfl, A5.same s6, fun hk1 => (hnext hk1).2, by omega⟩
  · rintro σ H2 ⟨at_, x0, x6, x7, x8, x9, rfl, A2, _, _⟩
    rw [List.take_length] at A2
    exact ⟨_, rfl, q p H2 hp A2.sm (by rw [A2.el, List.map_map]; rfl)⟩
end
end K10

set_option Elab.async false
set_option linter.all false
set_option maxRecDepth 100000
namespace L2
open PySem PySem.Spec PyProof.Rows
section
variable {X : Cx}
/-- None in a list of lists: no -/
def rInN (K : PySem.W.Frag) : R2 := fun x y H Q => ∃ p xs, x = .non ∧ y = .ref p ∧ SqL K H p xs ∧ (∀ v ∈ xs, ∃ a ys, v = .ref a ∧ H a = some (.lst ys)) ∧ Q (.bl false) H
theorem op_in_non (hu : X.A.units + 64 < cLine) : OpR X (compareOp .In) (rInN X.K) := by
  intro pins s σ H x y v u Q I rx ry h
  obtain ⟨p, xs, rfl, rfl, hq, hall, q⟩ := h
  cases ry
  cases rx
  obtain ⟨its, r, pl, hz⟩ := I.list hq
  refine SeqAt.in_listAt (fun _ => false) pl.isList (fun w hw => ?_) ⟨.bl _, H, I, rfl, ?_⟩
  · obtain ⟨i, hi, rfl⟩ := List.mem_iff_getElem.mp (show w ∈ its by simpa using hw)
    have hx : i < xs.length := by rw [r.length]; exact hi
    obtain ⟨u', hu', ru⟩ := r.get (List.getElem?_eq_getElem hx)
    obtain ⟨a, ys, e, ea⟩ := hall xs[i] (List.getElem_mem hx)
    rw [e] at ru
    obtain rfl : u' = Value.ref a := ru
    rw [List.getElem?_eq_getElem hi] at hu'
    have e2 := Option.some.inj hu'
    rw [e2]
    obtain ⟨z, its2, n, r2, hl2, e3⟩ := I.lstM ea
    exact SeqAt.EqAt.list_none (items := its2.toArray) ⟨_, e3, rfl, n, rfl⟩ (by show X.A.units + 1 < cLine; omega)
  · rw [show its.toArray.any (fun _ => false) = false by simp]
    exact q
end
/-- a list of new lists, one for each -/
theorem lc_lists {K : PySem.W.Frag} {a : Addr} {xs : List V} {k : Nat} {fr : List Nat} {g : TG} {tt : TT} {te : TE} {σ : St} {H0 : Hp} {Q : Addr → Hp → Prop} (G : Nat → List V → Prop) (hx : SqL K H0 a xs) (hl : xs.length ≤ sizeLine)
    (ht : ∀ (i : Nat) x, xs[i]? = some x → ∀ H', Same H0 H' → ∀ (C : V → Hp → Prop) (N : Hp → Prop), (∀ b ys H4, H' b = none → Same H' H4 → H4 b = some (.lst ys) → G i ys → C (.ref b) H4) →
      g x (nfS k fr σ) H' fun σ2 H2 => nfLe k fr σ σ2 ∧ tt σ2 H2 fun b H3 => if b = true then te σ2 H3 C else N H3)
    (hq : ∀ D H' (bs : List Addr), H0 D = none → Same H0 H' → H' D = some (.lst (bs.map V.ref)) → bs.length = xs.length → (∀ (i : Nat) b, bs[i]? = some b → ∃ ys, H' b = some (.lst ys) ∧ G i ys) → Q D H') : rLC k fr g tt te σ (Itl K a) H0 Q := by
  intro D hD
  refine ⟨fun i m acc H => m = xs.length - i ∧ i ≤ xs.length ∧ Same H0 H ∧ H D = some (.lst acc) ∧ ∃ bs : List Addr, acc = bs.map V.ref ∧ bs.length = i ∧ ∀ (j : Nat) b, bs[j]? = some b → b ≠ D ∧ ∃ ys, H b = some (.lst ys) ∧ G j ys,
    ⟨xs.length, by simp, Nat.zero_le _, same_new hD _, upd_same, [], rfl, rfl, fun j b h => by simp at h⟩, ?_⟩
  rintro i m acc H ⟨rfl, hi, sm, hDa, bs, rfl, hbl, pr⟩
  refine ⟨hDa, ?_⟩
  by_cases hlt : i < xs.length
  · refine .inr ⟨⟨xs, xs[i], sm.seq hx, by simp [hlt]⟩, fun x H' y => ?_⟩
    obtain ⟨e, y⟩ := y
    rw [e]
    refine ht i x (y xs (sm.seq hx)) _ sm _ _ fun b ys H4 hb s4 eb gb => ?_
    have hbD : b ≠ D := fun z => by rw [z, hDa] at hb; cases hb
    refine ⟨s4 _ _ hDa, by rw [List.length_map, hbl]; omega, xs.length - (i + 1), by omega, rfl, hlt, same_grow hD (sm.trans s4), upd_same, bs ++ [b], by rw [List.map_append]; rfl, by rw [List.length_append, hbl]; rfl, fun j c hc => ?_⟩
    by_cases hj : j < bs.length
    · rw [List.getElem?_append_left hj] at hc
      obtain ⟨h1, zs, h2, h3⟩ := pr j c hc
      exact ⟨h1, zs, by rw [upd_ne h1]; exact s4 _ _ h2, h3⟩
    · rw [List.getElem?_append_right (by omega)] at hc
      obtain ⟨hj0, hj1⟩ := List.getElem?_eq_some_iff.mp hc
      have hji : j = i := by simp at hj0; omega
      subst hji
      have hcb : c = b := by
        rw [hbl, Nat.sub_self] at hc
        exact (Option.some.inj hc).symm
      subst hcb
      exact ⟨hbD, ys, by rw [upd_ne hbD]; exact eb, gb⟩
  · have e : i = xs.length := by omega
    exact .inl ⟨⟨xs, sm.seq hx, by omega⟩, hq D H bs hD sm hDa (by omega) fun j b h => (pr j b h).2⟩
end L2

set_option Elab.async false
set_option linter.all false
/-! Rows of words have no blank at their ends. -/
namespace Lm
theorem bare_of {t : List Nat} (h : 32 ∉ t) : Bare t := ⟨fun z => h (List.mem_of_mem_head? z), fun z => h (List.mem_of_getLast? z)⟩
theorem fit_bare (room : Nat) : ∀ (r : List (List Nat)) (due : List Nat), (∀ w ∈ r, w ≠ [] ∧ 32 ∉ w) → due ≠ [] → Bare due → (fitC room due r).1 ≠ [] ∧ Bare (fitC room due r).1
  | [], due, _, h1, h2 => ⟨h1, h2⟩
  | w :: r, due, hr, h1, h2 => by
    unfold fitC
    split
    · have hw := hr w List.mem_cons_self
      refine fit_bare room r _ (fun x hx => hr x (List.mem_cons_of_mem _ hx)) (by simp [h1]) ⟨?_, ?_⟩
      · rw [List.append_assoc]
        cases due with
        | nil => exact absurd rfl h1
        | cons x d => exact h2.1
      · rw [List.getLast?_append]
        cases e : w.getLast? with
        | none => exact absurd (List.getLast?_eq_none_iff.mp e) hw.1
        | some c =>
          intro z
          have z' : some c = some 32 := z
          cases z'
          exact hw.2 (List.mem_of_getLast? e)
    · exact ⟨h1, h2⟩
theorem filled_bare {width : Nat} {L : Nat → List Nat} {n : Nat} {ws rows : List (List Nat)} (h : Filled width L n ws rows) (hL : ∀ n, L n = []) (h1 : 1 ≤ width) : (∀ w ∈ ws, w ≠ [] ∧ 32 ∉ w) → ∀ r ∈ rows, r ≠ [] ∧ Bare r := by
  induction h with
  | nil n => intro _ r h; cases h
  | cut n w r rows hc _ ih =>
    intro hw x hx
    have hw0 := hw w List.mem_cons_self
    rw [hL n, List.length_nil, Nat.sub_zero] at *
    rcases List.mem_cons.mp hx with rfl | hx
    · refine ⟨fun z => ?_, bare_of fun z => hw0.2 (List.mem_of_mem_take (by simpa using z))⟩
      have := congrArg List.length z
      rw [List.nil_append, List.length_take, List.length_nil] at this
      omega
    · refine ih (fun y hy => ?_) x hx
      rcases List.mem_cons.mp hy with rfl | hy
      · refine ⟨fun z => ?_, fun z => hw0.2 (List.mem_of_mem_drop z)⟩
        have := congrArg List.length z
        rw [List.length_drop] at this
        simp at this
        omega
      · exact hw y (List.mem_cons_of_mem _ hy)
  | row n w r rows hc _ ih =>
    intro hw x hx
    have hw0 := hw w List.mem_cons_self
    have hr := fun y hy => hw y (List.mem_cons_of_mem w hy)
    rcases List.mem_cons.mp hx with rfl | hx
    · have := fit_bare (width - (L n).length) r w hr hw0.1 (bare_of hw0.2)
      rw [hL n, List.nil_append] at *
      exact this
    · exact ih (fun y hy => hr y ((fit_left _ r w).2 y hy)) x hx
end Lm

set_option Elab.async false
set_option linter.all false
set_option maxRecDepth 100000
set_option maxHeartbeats 2000000
namespace K10
open PySem L2 Lm Lw
theorem fit_asc (room : Nat) : ∀ (r : List (List Nat)) (due : List Nat), (∀ w ∈ r, Asc w) → Asc due → Asc (fitC room due r).1
  | [], due, _, h => h
  | w :: r, due, hr, h => by
    unfold fitC
    split
    · exact fit_asc room r _ (fun x hx => hr x (List.mem_cons_of_mem _ hx)) (asc_app (asc_app h (by intro c hc; rw [show c = 32 by simpa using hc]; decide)) (hr w List.mem_cons_self))
    · exact h
theorem filled_asc {width : Nat} {L : Nat → List Nat} {n : Nat} {ws rows : List (List Nat)} (h : Filled width L n ws rows) (hL : ∀ n, Asc (L n)) : (∀ w ∈ ws, Asc w) → ∀ r ∈ rows, Asc r := by
  induction h with
  | nil n => intro _ r h; cases h
  | cut n w r rows hc _ ih =>
    intro hw x hx
    have h1 := hw w List.mem_cons_self
    rcases List.mem_cons.mp hx with rfl | hx
    · exact asc_app (hL n) (h1.take _)
    · refine ih (fun y hy => ?_) x hx
      rcases List.mem_cons.mp hy with rfl | hy
      · exact h1.drop _
      · exact hw y (List.mem_cons_of_mem _ hy)
  | row n w r rows hc _ ih =>
    intro hw x hx
    have hr := fun y hy => hw y (List.mem_cons_of_mem w hy)
    rcases List.mem_cons.mp hx with rfl | hx
    · exact asc_app (hL n) (fit_asc _ r w hr (hw w List.mem_cons_self))
    · exact ih (fun y hy => hr y ((fit_left _ r w).2 y hy)) x hx
abbrev C4 := Nat × Bool × List (List Nat) × List (List Nat)
def colAt (i : Nat) (c : C4) : Col := (c.1, c.2.1, c.2.2.2.getD i [])
def rowC (cols : List C4) (i : Nat) : List Nat := rstripL ([32] : List Nat).contains (lineC (cols.map (colAt i)))
structure C4Ok (n : Nat) (c : C4) : Prop where
  w1 : 1 ≤ c.1
  w40 : c.1 ≤ 40
  ws : ∀ w ∈ c.2.2.1, Wd 1000 w
  wl : c.2.2.1.length ≤ 20
  fil : Filled c.1 (leadC 0 0) 0 c.2.2.1 c.2.2.2
  le : c.2.2.2.length ≤ n
theorem lead0 (n : Nat) : leadC 0 0 n = [] := rfl
theorem C4Ok.rows {n : Nat} {c : C4} (h : C4Ok n c) : ∀ r ∈ c.2.2.2, r ≠ [] ∧ Bare r ∧ r.length ≤ c.1 ∧ Asc r := fun r hr => by
  have h1 := filled_bare h.fil lead0 h.w1 (fun w hw => ⟨(h.ws w hw).1, (h.ws w hw).2.1⟩) r hr
  exact ⟨h1.1, h1.2, h.fil.wide (fun n => by rw [lead0]; exact h.w1) r hr, filled_asc h.fil (fun n => by rw [lead0]; intro c hc; cases hc) (fun w hw => (h.ws w hw).2.2.2) r hr⟩
theorem C4Ok.at {n : Nat} {c : C4} (h : C4Ok n c) (i : Nat) : ColOk (colAt i c) ∧ Asc (c.2.2.2.getD i []) := by
  by_cases hi : i < c.2.2.2.length
  · have e : c.2.2.2.getD i [] = c.2.2.2[i] := by rw [List.getD_eq_getElem?_getD, List.getElem?_eq_getElem hi]; rfl
    obtain ⟨h1, h2, h3, h4⟩ := h.rows _ (List.getElem_mem hi)
    unfold colAt ColOk
    dsimp only
    rw [e]
    exact ⟨⟨h.w1, Nat.le_trans h.w40 (by decide), h3, h2⟩, h4⟩
  · have e : c.2.2.2.getD i [] = [] := by rw [List.getD_eq_getElem?_getD, List.getElem?_eq_none (by omega)]; rfl
    unfold colAt ColOk
    dsimp only
    rw [e]
    exact ⟨⟨h.w1, Nat.le_trans h.w40 (by decide), Nat.zero_le _, bare_of (by simp)⟩, fun c hc => nomatch hc⟩
theorem mem_glue {g : List Nat} {c : Nat} : ∀ {ps : List (List Nat)}, c ∈ glueC g ps → c ∈ g ∨ ∃ p ∈ ps, c ∈ p
  | [], h => by cases h
  | [p], h => .inr ⟨p, List.mem_cons_self, h⟩
  | p :: q :: r, h => by
    rw [glueC_cons _ _ _ (by simp)] at h
    rcases List.mem_append.mp h with h | h
    · rcases List.mem_append.mp h with h | h
      · exact .inr ⟨p, List.mem_cons_self, h⟩
      · exact .inl h
    · rcases mem_glue (ps := q :: r) h with h | ⟨x, hx, hc⟩
      · exact .inl h
      · exact .inr ⟨x, List.mem_cons_of_mem _ hx, hc⟩
theorem row_asc {n : Nat} {cols : List C4} (h : ∀ c ∈ cols, C4Ok n c) (i : Nat) : Asc (rowC cols i) := fun c hc => by
  have hc2 : c ∈ lineC (cols.map (colAt i)) := by
    have e := rs_ljust (lineC (cols.map (colAt i)))
    rw [← e]
    exact List.mem_append_left _ hc
  rcases mem_glue hc2 with hc | ⟨p, hp, hc⟩
  · have : c = 32 ∨ c = 124 ∨ c = 32 := by simpa using hc
    omega
  · rw [List.map_map] at hp
    obtain ⟨d, hd, rfl⟩ := List.mem_map.mp hp
    have ha := ((h d hd).at i).2
    have hc' : c ∈ padC d.2.1 d.1 (d.2.2.2.getD i []) := hc
    unfold padC at hc'
    split at hc' <;> (rcases List.mem_append.mp hc' with z | z)
    · rw [(List.mem_replicate.mp z).2]; decide
    · exact ha c z
    · exact ha c z
    · rw [(List.mem_replicate.mp z).2]; decide
theorem row_len {n : Nat} {cols : List C4} (hne : cols ≠ []) (h : ∀ c ∈ cols, C4Ok n c) (i : Nat) : (rowC cols i).length ≤ (cols.map (·.1)).sum + 3 * (cols.length - 1) := by
  have e := congrArg List.length (rs_ljust (lineC (cols.map (colAt i))))
  rw [List.length_append, line_len (by simpa using hne) (fun c hc => by obtain ⟨d, hd, rfl⟩ := List.mem_map.mp hc; exact ((h d hd).at i).1), List.map_map, List.length_map] at e
  have e2 : ((·.1) ∘ colAt i : C4 → Nat) = (·.1) := rfl
  rw [e2] at e
  unfold rowC
  omega
theorem row_rs (cols : List C4) (i : Nat) : rstripL ([32] : List Nat).contains (rowC cols i) = rowC cols i := by
  unfold rowC rstripL
  rw [List.reverse_reverse]
  congr 1
  generalize (lineC (cols.map (colAt i))).reverse = l
  induction l with
  | nil => rfl
  | cons x l ih =>
    by_cases hx : ([32] : List Nat).contains x = true
    · rw [List.dropWhile_cons_of_pos hx]; exact ih
    · rw [List.dropWhile_cons_of_neg hx, List.dropWhile_cons_of_neg hx]
end K10

set_option Elab.async false
set_option linter.all false
set_option maxRecDepth 100000
namespace L2
open PySem PySem.Spec PyProof.Rows
/-- a list of values, by their places -/
theorem lc_ix {K : PySem.W.Frag} {a : Addr} {xs : List V} {k : Nat} {fr : List Nat} {g : TG} {tt : TT} {te : TE} {σ : St} {H0 : Hp} {Q : Addr → Hp → Prop} (f : Nat → V) (hx : SqL K H0 a xs) (hl : xs.length ≤ sizeLine)
    (ht : ∀ (i : Nat) x, xs[i]? = some x → ∀ H', Same H0 H' → ∀ (C : V → Hp → Prop) (N : Hp → Prop), (∀ H4, Same H' H4 → C (f i) H4) →
      g x (nfS k fr σ) H' fun σ2 H2 => nfLe k fr σ σ2 ∧ tt σ2 H2 fun b H3 => if b = true then te σ2 H3 C else N H3)
    (hq : ∀ D H', H0 D = none → Same H0 H' → H' D = some (.lst ((List.range xs.length).map f)) → Q D H') : rLC k fr g tt te σ (Itl K a) H0 Q := by
  intro D hD
  refine ⟨fun i m acc H => m = xs.length - i ∧ i ≤ xs.length ∧ Same H0 H ∧ H D = some (.lst acc) ∧ acc = (List.range i).map f, ⟨xs.length, by simp, Nat.zero_le _, same_new hD _, upd_same, rfl⟩, ?_⟩
  rintro i m acc H ⟨rfl, hi, sm, hDa, rfl⟩
  refine ⟨hDa, ?_⟩
  by_cases hlt : i < xs.length
  · refine .inr ⟨⟨xs, xs[i], sm.seq hx, by simp [hlt]⟩, fun x H' y => ?_⟩
    obtain ⟨e, y⟩ := y
    rw [e]
    refine ht i x (y xs (sm.seq hx)) _ sm _ _ fun H4 s4 => ?_
    exact ⟨s4 _ _ hDa, by rw [List.length_map, List.length_range]; omega, xs.length - (i + 1), by omega, rfl, hlt, same_grow hD (sm.trans s4), upd_same, by rw [List.range_succ, List.map_append]; rfl⟩
  · have e : i = xs.length := by omega
    subst e
    exact .inl ⟨⟨xs, sm.seq hx, Nat.le_refl _⟩, hq D H hD sm hDa⟩
end L2

set_option Elab.async false
set_option linter.all false
set_option maxRecDepth 100000
set_option maxHeartbeats 2000000
namespace K10
open PySem L2 Lm Lw
section
variable {P : Program} {w : World} {K : PySem.W.Frag} {mg : Str → Option Value} {base : Heap}
abbrev sRight10 : Stmt := top 16
theorem scRight10 : FnScope ["_law_cells", "_law_widths", "_law_sides", "_law_found", "_law_whole", "_law_cut_here", "_law_longest", "_law_at", "_law_words_here", "_law_column"] ["_law_cells", "_law_widths", "_law_sides", "_law_found"] (defScope sRight10) := ⟨rfl, rfl, rfl, by decide +kernel, rfl, by decide +kernel, by decide +kernel⟩
def rowsC (cols : List C4) (n : Nat) : List (List Nat) := (List.range n).map (rowC cols)
def spRight10 : Sp := fun vs H Q _ => ∃ (ac aw asd af : Addr) (bs : List Addr) (cols : List C4) (n : Nat), vs = [.ref ac, .ref aw, .ref asd, .ref af] ∧ H ac = some (.lst (bs.map V.ref)) ∧ bs.length = cols.length ∧
  (∀ (i : Nat) b c, bs[i]? = some b → cols[i]? = some c → H b = some (.lst (c.2.2.1.map vS))) ∧ H aw = some (.lst (cols.map fun c => V.int (c.1 : Nat))) ∧ H asd = some (.lst (cols.map fun c => vS (sideC c.2.1))) ∧ H af = some (.lst ((rowsC cols n).map vS)) ∧
  cols ≠ [] ∧ cols.length ≤ 20 ∧ 1 ≤ n ∧ n ≤ 30000 ∧ (n = 1 ∨ ∃ c ∈ cols, c.2.2.2.length = n) ∧ (∀ c ∈ cols, C4Ok n c) ∧ ∀ H', Same H H' → Q (.bl true) H'
theorem sum4 (cols : List C4) : (cols.map (·.1)).sum = ((cols.map (colAt 0)).map (·.1)).sum := by rw [List.map_map]; rfl
theorem ok_right10 {f : Addr} {fd : FuncData} (F : Fun K "_law_right" "_law_right" sRight10 f fd) (T : Tx10 mg) (D_l_cut : Def P w K mg base 1 "_law_cut" ["_law_row", "_law_widths", "_law_sides"] spCut)
    (D_l_rows_right : Def P w K mg base 2 "_law_rows_right" ["_law_words_here", "_law_width", "_law_kind", "_law_wide", "_law_rows"] spRight) : FnOk P w K mg base CX0 3 f fd ["_law_cells", "_law_widths", "_law_sides", "_law_found"] spRight10 := by
  have sc := scRight10
  refine F.ok sc (fun vs H Q E h => ?_) (fun cdv A outer s H vs Q E hr h => ?_)
  · obtain ⟨ac, aw, asd, af, bs, cols, n, rfl, _⟩ := h
    rfl
  obtain ⟨ac, aw, asd, af, bs, cols, n, rfl, ec, hbl, ecs, ew, es, ef, hne, hcl, hn1, hn2, hmax, hok, q⟩ := h
  have hu : (A.deeper (PyProof.Rows.envOfC "_law_right" (defScope sRight10) s.heap.objs.size f cdv)).units + 64 < cLine := by
    have := hr.un
    omega
  refine of_XB (xbc (xif (xor (xnotT (xvalT (xcB call_isT T.n_isinstance rfl (xac (xv 3) (xac (xty (T := "list") T.n_list rfl) xa0))))) (xor (xcmpT (op_eqG hu) (xv 3) (xlst xa0) (nomark _)) (xor1 (xnotT (xvalT (xcB (call_all rfl) T.n_all rfl (xac (xlc (cl := []) (own := ["_law_row"]) (fr := []) (N' := ["_law_row"]) rfl (compN (xs := []) trivial trivial (by decide +kernel)) (by decide +kernel) (by decide +kernel) (by with_unfolding_all rfl)
    (xil (xv 3))
    (fun _ _ _ _ => xgn (i := 0) (show (["_law_row"] : List Str).Nodup by decide +kernel) rfl (Or.inl rfl)) (fun _ _ _ _ => xq0) (fun _ _ _ _ => (xcB call_isTC T.n_isinstance rfl (xac (xv 0) (xac (xty (T := "str") T.n_str rfl) xa0))))) xa0))))))).xt (xb1 (xret xbl)) xb0)
    (xbc (xset (i := 4) sc.nd rfl (Or.inl rfl) (xop op_add (xcB (call_sum rfl) T.n_sum rfl (xac (xv 1) xa0)) (xop op_mul xint (xop op_sub (xcB call_len_seq T.n_len PySem.boot_len (xac (xv 1) xa0)) xint))))
    (xbc (xslc (i := 5) sc.nd rfl rfl (cl := [("_law_widths", s.heap.objs.size + 1), ("_law_sides", s.heap.objs.size + 2)]) (own := ["_law_row"]) (fr := [1, 2]) (N' := ["_law_row", "_law_widths", "_law_sides"]) rfl (compN (xs := ["_law_widths", "_law_sides"]) ⟨rfl, ⟨rfl, trivial⟩⟩ ⟨rfl, rfl, .inl rfl, .inl rfl, ⟨rfl, rfl, .inl rfl, .inl rfl, trivial⟩⟩ (by decide +kernel)) (by decide +kernel) (by decide +kernel) (by with_unfolding_all rfl)
    (xil (xv 3))
    (fun _ _ _ _ => xgn (i := 0) (show (["_law_row", "_law_widths", "_law_sides"] : List Str).Nodup by decide +kernel) rfl (Or.inl rfl)) (fun _ _ _ _ => xq0) (fun _ _ _ _ => (xcD D_l_cut (hr.mono (by decide)) (xac (xv 0) (xac (xv 1) (xac (xv 2) xa0))))))
    (xbc (xif (xor (xcmpT (op_in_non hu) xnon (xv 5) (by with_unfolding_all rfl)) (xor1 (xcmpT op_gt (xcB (call_maxL rfl) T.n_max rfl (xac (xlc (cl := []) (own := ["_law_row"]) (fr := []) (N' := ["_law_row"]) rfl (compN (xs := []) trivial trivial (by decide +kernel)) (by decide +kernel) (by decide +kernel) (by with_unfolding_all rfl)
    (xil (xv 3))
    (fun _ _ _ _ => xgn (i := 0) (show (["_law_row"] : List Str).Nodup by decide +kernel) rfl (Or.inl rfl)) (fun _ _ _ _ => xq0) (fun _ _ _ _ => (xcB call_len_str T.n_len PySem.boot_len (xac (xv 0) xa0)))) xa0)) (xv 4) (nomark _)))).xt (xb1 (xret xbl)) xb0)
    (xbc (xif (xcmpT (op_neG hu) (xlc (cl := []) (own := ["_law_row"]) (fr := []) (N' := ["_law_row"]) rfl (compN (xs := []) trivial trivial (by decide +kernel)) (by decide +kernel) (by decide +kernel) (by with_unfolding_all rfl)
    (xil (xv 3))
    (fun _ _ _ _ => xgn (i := 0) (show (["_law_row"] : List Str).Nodup by decide +kernel) rfl (Or.inl rfl)) (fun _ _ _ _ => xq1 (xcmpT op_ne (xv 0) (xmC PySem.F.plainAttrs_str PySem.F.slot_str_rstrip PySem.F.type_str_rstrip mt_rstrip (xv 0) (xac xstr xa0)) (nomark _))) (fun _ _ _ _ => (xv 0))) (xlst xa0) (nomark _)) (xb1 (xret xbl)) xb0)
    (xbc (xset (i := 6) sc.nd rfl (Or.inl rfl) xint)
    (xbc (xfor PassesOwn.never rfl (xie T.n_enumerate (xac (xv 0) xa0)) (xgt rfl (xgsc (xgn (i := 7) sc.nd rfl (Or.inr rfl)) (xgsc (xgn (i := 8) sc.nd rfl (Or.inl rfl)) xgs0)))
    (xbc (xslc (i := 9) sc.nd rfl rfl (cl := [("_law_at", s.heap.objs.size + 3)]) (own := ["_law_row"]) (fr := [7]) (N' := ["_law_row", "_law_at"]) rfl (compN (xs := ["_law_at"]) ⟨rfl, trivial⟩ ⟨rfl, rfl, .inl rfl, .inl rfl, trivial⟩ (by decide +kernel)) (by decide +kernel) (by decide +kernel) (by with_unfolding_all rfl)
    (xil (xv 5))
    (fun _ _ _ _ => xgn (i := 0) (show (["_law_row", "_law_at"] : List Str).Nodup by decide +kernel) rfl (Or.inl rfl)) (fun _ _ _ _ => xq0) (fun _ _ _ _ => (xix ix_listC (xv 0) (xv 1) (fun _ _ => rfl))))
    (xbc (xwhile PassesOwn.never (xand (xcmpT (op_neG hu) (xv 9) (xlst xa0) (nomark _)) (xand1 (xcmpT op_eq (xix ix_list (xv 9) (xun un_neg xint) (fun _ _ => rfl)) xstr (nomark _)))).xt
    (xb1 (xexpr (xm0 PySem.F.plainAttrs_list PySem.F.slot_list_pop PySem.F.type_list_pop mt_pop (xv 9)))))
    (xbc (xset (i := 6) sc.nd rfl (Or.inl rfl) (xcB (call_max2 rfl) T.n_max rfl (xac (xv 6) (xac (xcB call_len_seq T.n_len PySem.boot_len (xac (xv 9) xa0)) xa0))))
    (xb1 (xif (xnotT (xvalT (xcD D_l_rows_right (hr.mono (by decide)) (xac (xv 8) (xac (xix ix_list (xv 1) (xv 7) (fun _ _ => rfl)) (xac xint (xac xint (xac (xv 9) xa0)))))))) (xb1 (xret xbl)) xb0))))))
    (xb1 (xret (xcmp op_eq (xcB call_len_seq T.n_len PySem.boot_len (xac (xv 3) xa0)) (xv 6) (nomark _))))))))))) ?_
  have hs : sizeLine = 16777216 := sizeLine_eq
  rw [show start ["_law_cells", "_law_widths", "_law_sides", "_law_found", "_law_whole", "_law_cut_here", "_law_longest", "_law_at", "_law_words_here", "_law_column"] [V.ref ac, V.ref aw, V.ref asd, V.ref af] = [some (V.ref ac), some (V.ref aw), some (V.ref asd), some (V.ref af), none, none, none, none, none, none] from rfl]
  have hrl : (rowsC cols n).length = n := by unfold rowsC; rw [List.length_map, List.length_range]
  have hrat : ∀ (i : Nat) x, ((rowsC cols n).map vS)[i]? = some x → i < n ∧ x = vS (rowC cols i) := fun i x h => by
    unfold rowsC at h
    rw [List.map_map, List.getElem?_map] at h
    by_cases hi : i < n
    · rw [List.getElem?_range hi] at h
      exact ⟨hi, (Option.some.inj h).symm⟩
    · rw [List.getElem?_eq_none (by rw [List.length_range]; omega)] at h
      cases h
  have hmem : ∀ x ∈ (rowsC cols n).map vS, ∃ i, x = vS (rowC cols i) := fun x hx => by
    obtain ⟨i, hi⟩ := List.mem_iff_getElem?.mp hx
    exact ⟨i, (hrat i x hi).2⟩
  have hasc : ∀ r ∈ rowsC cols n, Asc r := fun r hr' => by
    obtain ⟨i, _, rfl⟩ := List.mem_map.mp hr'
    exact row_asc hok i
  have hemp : (rowsC cols n).isEmpty = false := by
    cases e : rowsC cols n with
    | nil => rw [e] at hrl; simp at hrl; omega
    | cons _ _ => rfl
  have hsumle : (cols.map (·.1)).sum ≤ 2000 := by
    have := sum_le (cols := cols.map (colAt 0)) fun c hc => by obtain ⟨d, hd, rfl⟩ := List.mem_map.mp hc; exact ((hok d hd).at 0).1
    rw [← sum4, List.length_map] at this
    omega
  have hcn : 1 ≤ cols.length := by cases cols with | nil => exact absurd rfl hne | cons _ _ => simp
  have hrlen : ∀ i, (rowC cols i).length ≤ 2060 := fun i => by have := row_len hne hok i; omega
  refine s_no (t_or false false (t_not true fun R k => ⟨_, rfl, _, _, _, true, rfl, .lst ef, kit_same _ _, _, rfl, k _ (Same.refl _)⟩)
    (fun _ Ha sa => t_or false false (fun R k => t_nil (lw := rowsC cols n) rfl (sa _ _ ef) hasc R fun H' s' => by rw [hemp]; exact k H' s') (fun _ Hb sb => t_not true fun R k => ?_))) (fun H1 s1 => ?_)
  · have efb := sb _ _ (sa _ _ ef)
    refine ⟨_, rfl, af, rfl, ⟨_, SqL.of efb⟩, ?_⟩
    refine lc_list (fun _ => true) (fun _ => .bl true) (SqL.of efb) (by rw [List.length_map, hrl]; omega) ?_ ?_
    · intro x hx H2 s2 C N hC hN
      obtain ⟨i, rfl⟩ := hmem x hx
      exact ⟨(nfLe.refl _ _ _).set (by decide) _, _, rfl, _, _, _, true, rfl, .str _, kit_same _ _, hC _ (Same.refl _) rfl⟩
    · intro D H2 hD s2 eD
      refine ⟨D, (rowsC cols n).map fun _ => true, rfl, SqL.of ?_, _, rfl, ?_⟩
      · rw [eD, List.filter_eq_self.mpr (fun _ _ => rfl), List.map_map, List.map_map]
        rfl
      · rw [show ((rowsC cols n).map fun _ => true).all id = true by rw [List.all_eq_true]; intro x hx; obtain ⟨_, _, rfl⟩ := List.mem_map.mp hx; rfl]
        exact k _ s2
  have ew1 := s1 _ _ ew
  have es1 := s1 _ _ es
  have ef1 := s1 _ _ ef
  refine ⟨_, rfl, aw, (cols.map fun c => ((c.1 : Nat) : Int)), rfl, SqL.of (by rw [ew1, List.map_map]; rfl), _, rfl, aw, _, rfl, .inl (SqL.of ew1), _, _, rfl, rfl, _, _, rfl, rfl, .inl ⟨by decide, by decide⟩, _, _, rfl, rfl, ?_⟩
  dsimp only [gName, List.set_cons_succ, List.set_cons_zero]
  have hwhole : (cols.map fun c => ((c.1 : Nat) : Int)).sum + 3 * (((cols.map fun c => V.int (c.1 : Nat)).length : Nat) - 1 : Int) = (((cols.map (·.1)).sum + 3 * (cols.length - 1) : Nat) : Int) := by
    have := sum_cols (cols.map (colAt 0))
    rw [List.map_map, ← sum4] at this
    have e : ((fun c : Col => ((c.1 : Nat) : Int)) ∘ colAt 0) = (fun c : C4 => ((c.1 : Nat) : Int)) := rfl
    rw [e] at this
    rw [this, List.length_map]
    omega
  rw [hwhole]
  obtain ⟨whole, hwh⟩ : ∃ n : Nat, n = (cols.map (·.1)).sum + 3 * (cols.length - 1) := ⟨_, rfl⟩
  rw [← hwh]
  -- cut
  refine ⟨_, rfl, af, rfl, ⟨_, SqL.of ef1⟩, ?_⟩
  refine lc_lists (fun i ys => ys = cols.map fun c => vS (c.2.2.2.getD i [])) (SqL.of ef1) (by rw [List.length_map, hrl]; omega) ?_ ?_
  · intro i x hx H2 s2 C N hC
    obtain ⟨hi, rfl⟩ := hrat i x hx
    refine ⟨(nfLe.refl _ _ _).set (by decide) _, ?_⟩
    refine ⟨_, rfl, _, rfl, _, rfl, aw, asd, cols.map (colAt i), rfl, ?_, ?_, by simpa using hne, by rw [List.length_map]; exact hcl, fun c hc => ?_, fun p H4 hp s4 e4 => hC p _ H4 hp s4 e4 ?_⟩
    · rw [s2 _ _ ew1, List.map_map]; rfl
    · rw [s2 _ _ es1, List.map_map]; rfl
    · obtain ⟨d, hd, rfl⟩ := List.mem_map.mp hc
      exact ((hok d hd).at i).1
    · rw [List.map_map]; rfl
  intro cu H2 ts hcu s2 ecu htl hts
  rw [List.length_map, hrl] at htl
  dsimp only [gName, List.set_cons_succ, List.set_cons_zero]
  have ew2 := s2 _ _ ew1
  have ef2 := s2 _ _ ef1
  have s12 := s1.trans s2
  refine s_no (t_or false false (fun R k => ⟨_, rfl, cu, _, rfl, rfl, SqL.of ecu, ?_, _, rfl, k _ (Same.refl _)⟩) (fun _ Ha sa R k => ?_)) (fun H3 s3 => ?_)
  · intro v hv
    obtain ⟨b, hb, rfl⟩ := List.mem_map.mp hv
    obtain ⟨i, hi⟩ := List.mem_iff_getElem?.mp hb
    obtain ⟨ys, e, _⟩ := hts i b hi
    exact ⟨b, ys, rfl, e⟩
  · have efa := sa _ _ ef2
    refine ⟨_, rfl, af, rfl, ⟨_, SqL.of efa⟩, ?_⟩
    refine lc_ix (fun i => .int ((rowC cols i).length : Nat)) (SqL.of efa) (by rw [List.length_map, hrl]; omega) ?_ ?_
    · intro i x hx H4 s4 C N hC
      obtain ⟨hi, rfl⟩ := hrat i x hx
      refine ⟨(nfLe.refl _ _ _).set (by decide) _, _, rfl, _, rfl, bigS (by have := hrlen i; omega), ?_⟩
      rw [S_len]
      exact hC _ (Same.refl _)
    · intro D H4 hD s4 eD
      rw [List.length_map, hrl] at eD
      refine ⟨D, (List.range n).map fun i => (((rowC cols i).length : Nat) : Int), rfl, SqL.of (by rw [eD, List.map_map]; rfl), by rw [List.length_map, List.length_range]; omega, fun m hm hm2 => ⟨_, rfl, _, _, rfl, rfl, _, rfl, ?_⟩⟩
      obtain ⟨i, _, rfl⟩ := List.mem_map.mp hm
      rw [decide_eq_false (by have := row_len hne hok i; omega)]
      exact k _ s4
  have ef3 := s3 _ _ ef2
  refine s_no (fun R k => ⟨_, rfl, af, rfl, ⟨_, SqL.of ef3⟩, ?_⟩) (fun H4 s4 => ?_)
  · refine lc_list (fun _ => false) id (SqL.of ef3) (by rw [List.length_map, hrl]; omega) ?_ ?_
    · intro x hx H4 s4 C N hC hN
      obtain ⟨i, rfl⟩ := hmem x hx
      refine ⟨(nfLe.refl _ _ _).set (by decide) _, _, rfl, _, rfl, rfl, _, _, rfl, rfl, bigS (by have := hrlen i; omega), rfl, _, rfl, ?_⟩
      refine ite2 (fun z => absurd z ?_) (fun _ => hN _ (Same.refl _) rfl)
      show ¬ (!decide (vS (rowC cols i) = V.str (Txt.rstripChars (S (rowC cols i)) (Str.ofString " ")))) = true
      rw [show Txt.rstripChars (S (rowC cols i)) (Str.ofString " ") = S (rstripL ([32] : List Nat).contains (rowC cols i)) from rstrip_S _ [32], row_rs]
      simp
    · intro D H4 hD s4 eD
      have eD2 : H4 D = some (.lst []) := by
        rw [eD]
        congr 2
        rw [List.filter_eq_nil_iff.mpr (fun _ _ => Bool.false_ne_true)]
        rfl
      refine ⟨big (show (0 : Nat) ≤ 1000000 by decide), fun p5 hp5 => ?_⟩
      exact ⟨.list [], .list [], .lst (SqL.of (same_new hp5 (.lst []) _ _ eD2)) .nil, .lst (SqL.of upd_same) .nil, by decide, by decide, _, rfl, k _ (s4.trans (same_new hp5 _))⟩
  have sAll := s12.trans (s3.trans s4)
  have ecu4 := s4 _ _ (s3 _ _ ecu)
  have hts4 : ∀ (i : Nat) b, ts[i]? = some b → H4 b = some (.lst (cols.map fun c => vS (c.2.2.2.getD i []))) := fun i b h => by
    obtain ⟨ys, e, rfl⟩ := hts i b h
    exact s4 _ _ (s3 _ _ e)
  clear s2 s3 s4 ecu hts ef3 ef2 ew2 s12
  refine ⟨_, rfl, ac, _, rfl, sAll _ _ ec, ?_⟩
  refine for_any cols.length (fun k σ H' => ∃ (lg : Nat) (x7 x8 x9 : Option V), σ = [some (.ref ac), some (.ref aw), some (.ref asd), some (.ref af), some (.int (whole : Nat)), some (.ref cu), some (.int (lg : Nat)), x7, x8, x9] ∧ Same H4 H' ∧ 1 ≤ lg ∧ lg ≤ n ∧ (∀ c ∈ cols.take k, c.2.2.2.length ≤ lg) ∧ (lg = 1 ∨ ∃ c ∈ cols.take k, c.2.2.2.length = lg))
    ⟨1, _, _, _, rfl, Same.refl _, by omega, hn1, (fun c hc => by simp at hc), .inl rfl⟩ ?_ ?_ ?_ ?_
  · rintro k σ H5 hk ⟨lg, _, _, _, _, s5, _⟩
    exact ⟨_, _, SqL.of (s5 _ _ (sAll _ _ ec)), by rw [List.getElem?_map, List.getElem?_eq_getElem (by omega)]; rfl⟩
  · rintro σ H5 ⟨lg, _, _, _, _, s5, _⟩
    exact ⟨_, SqL.of (s5 _ _ (sAll _ _ ec)), by rw [List.length_map]; omega⟩
  · rintro k σ H5 x H6 hk ⟨lg, x7, x8, x9, rfl, s5, l1, l2, l3, l4⟩ ⟨T, y, hy, hT, rfl, rfl⟩
    have hy2 := hy _ (SqL.of (s5 _ _ (sAll _ _ ec)))
    have hkb : k < bs.length := by omega
    rw [List.getElem?_map, List.getElem?_eq_getElem hkb] at hy2
    have hy3 : y = .ref bs[k] := (Option.some.inj hy2).symm
    subst hy3
    have ewd := ecs k bs[k] cols[k] (List.getElem?_eq_getElem hkb) (List.getElem?_eq_getElem hk)
    have hc := hok cols[k] (List.getElem_mem hk)
    have htk : cols.take (k + 1) = cols.take k ++ [cols[k]] := by rw [List.take_succ, List.getElem?_eq_getElem hk]; rfl
    have hcw : (cols.map fun c => V.int (c.1 : Nat))[k]? = some (.int (cols[k].1 : Nat)) := by rw [List.getElem?_map, List.getElem?_eq_getElem hk]; rfl
    have hct : ∀ i, (cols.map fun c => vS (c.2.2.2.getD i []))[k]? = some (vS (cols[k].2.2.2.getD i [])) := fun i => by rw [List.getElem?_map, List.getElem?_eq_getElem hk]; rfl
    generalize bs[k] = b at *
    generalize cols[k] = c at *
    obtain ⟨cw, cr, cws, crs⟩ := c
    dsimp only at ewd hcw hct
    have s6 := s5.trans (same_new hT (.tup [.int k, .ref b]))
    refine ⟨T, _, rfl, SqT.of upd_same, rfl, _, _, rfl, _, _, rfl, rfl, ?_⟩
    dsimp only [gName, List.set_cons_succ, List.set_cons_zero]
    generalize upd H5 T (.tup [.int k, .ref b]) = H6 at s6 ⊢
    refine ⟨_, rfl, cu, rfl, ⟨_, SqL.of (s6 _ _ ecu4)⟩, ?_⟩
    refine lc_ix (fun i => vS (crs.getD i [])) (SqL.of (s6 _ _ ecu4)) (by rw [List.length_map]; omega) ?_ ?_
    · intro i x hx H7 s7 C N hC
      rw [List.getElem?_map] at hx
      cases hti : ts[i]? with
      | none => rw [hti] at hx; cases hx
      | some tb =>
      rw [hti] at hx
      cases hx
      exact ⟨(nfLe.refl _ _ _).set (by decide) _, _, rfl, _, rfl, tb, _, _, _, rfl, rfl, SqL.of (s7 _ _ (s6 _ _ (hts4 i tb hti))), atI_nat (hct i), hC _ (Same.refl _)⟩
    intro D H7 hD s7 eD
    rw [List.length_map, htl] at eD
    have A7 : LeftAt D H6 ((List.range n).map fun i => crs.getD i []) H7 := ⟨s7, by rw [eD, List.map_map]; rfl⟩
    have hcr := hc.rows
    have hle := hc.le
    dsimp only at hcr hle
    dsimp only [gName, List.set_cons_succ, List.set_cons_zero]
    have hlw : ∀ m, ∀ w ∈ (List.range m).map (fun i => crs.getD i []), Asc w := fun m w hw => by
      obtain ⟨i, _, rfl⟩ := List.mem_map.mp hw
      exact (hc.at i).2
    refine s_join (fun σ' H' => σ' = [some (.ref ac), some (.ref aw), some (.ref asd), some (.ref af), some (.int (whole : Nat)), some (.ref cu), some (.int (lg : Nat)), some (.int k), some (.ref b), some (.ref D)] ∧ LeftAt D H6 crs H') (fun N hN => ?_) ?_
    · refine while_t (fun m σ H' => σ = [some (.ref ac), some (.ref aw), some (.ref asd), some (.ref af), some (.int (whole : Nat)), some (.ref cu), some (.int (lg : Nat)), some (.int k), some (.ref b), some (.ref D)] ∧ LeftAt D H6 ((List.range m).map fun i => crs.getD i []) H' ∧ crs.length ≤ m ∧ m ≤ n) n ⟨rfl, A7, hle, Nat.le_refl _⟩ ?_
      rintro m σ H8 ⟨rfl, A8, m1, m2⟩
      have done : m = crs.length → (List.range m).map (fun i => crs.getD i []) = crs := fun e => by
        subst e
        apply List.ext_getElem?
        intro i
        rw [List.getElem?_map]
        by_cases hi : i < crs.length
        · rw [List.getElem?_range hi, List.getElem?_eq_getElem hi]
          show some (crs.getD i []) = _
          rw [List.getD_eq_getElem?_getD, List.getElem?_eq_getElem hi]
          rfl
        · rw [List.getElem?_eq_none (by rw [List.length_range]; omega), List.getElem?_eq_none (by omega)]
          rfl
      cases m with
      | zero =>
        refine ⟨false, t_and false false (t_notnil (lw := []) rfl A8.el fun _ z => nomatch z) (fun z => Bool.noConfusion z), fun z => Bool.noConfusion z, fun _ H9 s9 => ?_⟩
        have hz : crs = [] := List.eq_nil_of_length_eq_zero (by omega)
        have A9 := A8.same s9
        exact hN _ _ ⟨rfl, by rw [hz]; exact A9⟩
      | succ m =>
        have hlen : ((List.range (m + 1)).map fun i => crs.getD i []) = ((List.range m).map fun i => crs.getD i []) ++ [crs.getD m []] := by rw [List.range_succ, List.map_append]; rfl
        have hnn : ((List.range (m + 1)).map fun i => crs.getD i []).isEmpty = false := by rw [hlen]; simp
        have hlast : atI (((List.range (m + 1)).map fun i => crs.getD i []).map vS) (-1) = some (vS (crs.getD m [])) := by
          rw [hlen, List.map_append]
          exact atI_last _ _
        refine ⟨true && decide (crs.getD m [] = []), t_and true _ (fun R k => t_notnil (lw := (List.range (m + 1)).map fun i => crs.getD i []) rfl A8.el (hlw _) R fun H' s' => by rw [hnn]; exact k H' s') (fun _ H9 s9 => t_eqs (b := []) (fun R r => ⟨_, rfl, _, rfl, D, _, _, _, rfl, rfl, SqL.of (s9 _ _ A8.el), hlast, r⟩) (ev_lit rfl)), fun cc H9 s9 => ?_, fun cc H9 s9 => ?_⟩
        · rw [Bool.true_and] at cc
          have cc := of_decide_eq_true cc
          have A9 := A8.same s9
          have hm : crs.length ≤ m := by
            apply Classical.byContradiction
            intro z
            have hi : m < crs.length := by omega
            rw [List.getD_eq_getElem?_getD, List.getElem?_eq_getElem hi] at cc
            exact (hcr _ (List.getElem_mem hi)).1 cc
          refine ⟨_, rfl, .inl ⟨rfl, _, SqL.of A9.el⟩, D, _, vS (crs.getD m []), rfl, rfl, A9.el, ?_, ?_⟩
          · rw [hlen, List.map_append, List.length_append, List.getElem?_append_right (by simp)]
            simp
          · refine ⟨m, by omega, rfl, A9.put hD ?_, hm, by omega⟩
            rw [hlen, List.map_append, List.map_cons, List.map_nil, List.dropLast_concat]
        · rw [Bool.true_and] at cc
          have cc := of_decide_eq_false cc
          have hm : m + 1 = crs.length := by
            apply Classical.byContradiction
            intro z
            refine cc ?_
            rw [List.getD_eq_getElem?_getD, List.getElem?_eq_none (by omega)]
            rfl
          have A9 := A8.same s9
          rw [done hm] at A9
          exact hN _ _ ⟨rfl, A9⟩
    rintro σ8 H8 ⟨rfl, A8⟩
    have s8 := s6.trans A8.sm
    refine ⟨_, rfl, _, rfl, D, _, rfl, .inl (SqL.of A8.el), _, _, rfl, ?_⟩
    dsimp only [gName, List.set_cons_succ, List.set_cons_zero]
    rw [List.length_map]
    obtain ⟨lg2, hlg2⟩ : ∃ l : Nat, l = max lg crs.length := ⟨_, rfl⟩
    rw [show (if ((crs.length : Nat) : Int) > ((lg : Nat) : Int) then ((crs.length : Nat) : Int) else ((lg : Nat) : Int)) = ((lg2 : Nat) : Int) by split <;> omega]
    refine s_if false (t_not true fun R kk => ⟨_, rfl, _, rfl, _, rfl, aw, _, _, _, rfl, rfl, SqL.of (s8 _ _ (sAll _ _ ew)), atI_nat hcw, _, rfl, b, D, cws, crs, cw, 0, 0, by rfl, s8 _ _ (sAll _ _ ewd), A8.el, hc.fil, hc.ws, hc.wl, hc.w1, hc.w40, by decide, fun H' s' => ⟨_, rfl, kk _ s'⟩⟩) (fun _ _ z => Bool.noConfusion z) (fun H9 s9 _ => ?_)
    refine ⟨lg2, _, _, _, rfl, s8.trans s9, by omega, by omega, fun d hd => ?_, ?_⟩
    · rw [htk] at hd
      rcases List.mem_append.mp hd with hd | hd
      · have := l3 d hd; omega
      · rw [List.mem_singleton.mp hd]; show crs.length ≤ lg2; omega
    · rw [htk]
      by_cases hh : crs.length ≤ lg
      · rcases l4 with z | ⟨d, hd, z⟩
        · exact .inl (by omega)
        · exact .inr ⟨d, List.mem_append_left _ hd, by omega⟩
      · exact .inr ⟨_, List.mem_append_right _ (List.mem_singleton.mpr rfl), by show crs.length = lg2; omega⟩
  · rintro σ H5 ⟨lg, x7, x8, x9, rfl, s5, l1, l2, l3, l4⟩
    rw [List.take_length] at l3 l4
    have hlg : n = lg := by
      rcases hmax with z | ⟨c, hc, z⟩
      · omega
      · have := l3 c hc; omega
    refine ⟨_, rfl, af, _, rfl, .inl (SqL.of (s5 _ _ (sAll _ _ ef))), _, rfl, rfl, ?_⟩
    rw [List.length_map, hrl, show decide (V.int (n : Nat) = V.int (lg : Nat)) = true by rw [hlg]; simp]
    exact q _ (sAll.trans s5)
end
end K10

set_option Elab.async false
set_option linter.all false
set_option maxRecDepth 100000
/-! x op= e, continue, a list beside the empty one -/
namespace L2
open PySem PySem.Spec PyProof.Rows
section
variable {X : Cx} {e : Expr} {te : TE} {x : Str} {pos : Pos}
theorem xaug {i : Nat} {op : Operator} {ti : TIp} {pos' : Pos} (hN : X.N.Nodup) (hi : X.N[i]? = some x) (hx : Loc X.env.scope x) (he : XE X e te) (ho : PIp X op ti) (hf : X.fn x = true ∨ X.env.scope.names.lookup x = some .local := by first | exact .inl rfl | exact .inr rfl) :
    XS X (.AugAssign (.Name x pos') op e pos) (tAug i te ti) := ⟨ps_aug hN hi hx he.h ho hf⟩
theorem xcont : XS X (.Continue pos) tCont := ⟨ps_continue⟩
/-- xs == [], xs != [] -/
def rEq0 (K : PySem.W.Frag) (neg : Bool) : R2 := fun x y H Q => ∃ p q xs, x = .ref p ∧ y = .ref q ∧ SqL K H p xs ∧ SqL K H q [] ∧ Q (.bl (if neg then !xs.isEmpty else xs.isEmpty)) H
theorem op_ne0 (hu : X.A.units + 64 < cLine) : OpR X (compareOp .NotEq) (rEq0 X.K true) := by
  intro pins s σ H x y v u Q I rx ry h
  obtain ⟨p, q, xs, rfl, rfl, hp, hq, k⟩ := h
  cases rx
  cases ry
  obtain ⟨its, r, pl, _⟩ := I.list hp
  obtain ⟨its2, r2, pl2, _⟩ := I.list hq
  have e2 := r2.length
  have e1 := r.length
  cases its2 with
  | cons _ _ => simp at e2
  | nil =>
  cases its with
  | nil =>
    cases xs with
    | cons _ _ => simp at e1
    | nil => exact SeqAt.RcNeAt.lists (e := fun _ => true) pl.isList pl2.isList rfl (by omega) (fun j h1 _ => absurd h1 (Nat.not_lt_zero _)) _ _ _ _ ⟨.bl _, H, I, rfl, k⟩
  | cons _ _ =>
    cases xs with
    | nil => simp at e1
    | cons _ _ => exact SeqAt.RcNeAt.lists_lengths pl.isList pl2.isList (by simp) (by omega) _ _ _ _ ⟨.bl _, H, I, rfl, k⟩
end
end L2

set_option Elab.async false
set_option linter.all false
set_option maxRecDepth 100000
/-! words filled: the begun row, pieces cut off, contracts -/
namespace Lw
open PySem L2 Lm
theorem t_ne0 {K : PySem.W.Frag} {σ : St} {H : Hp} {ta : TE} {p : Addr} {xs : List V} (h1 : Ev ta σ H (.ref p)) (hx : SqL K H p xs) : Tells (tTest (tOp (rEq0 K true) ta (tLst tNil))) σ H (!xs.isEmpty) :=
  fun R k => h1 _ ⟨big (show (0 : Nat) ≤ 1000000 by decide), fun l hl => ⟨p, l, xs, rfl, rfl, (same_new hl _).seq hx, SqL.of upd_same, _, rfl, k _ (same_new hl _)⟩⟩
theorem t_relG {σ : St} {H : Hp} {p : Int → Int → Bool} {ta tb : TE} {x y : Int} (h1 : Ev ta σ H (.int x)) (h2 : Ev tb σ H (.int y)) : Tells (tTest (tOp (rI0 fun i j => .bl (p i j)) ta tb)) σ H (p x y) := fun R k => h1 _ (h2 _ ⟨x, y, rfl, rfl, _, rfl, k _ (Same.refl _)⟩)
theorem catS (a b : List Nat) : V.str (S a ++ S b) = vS (a ++ b) := by rw [S_app]
/-- every list of words is filled -/
theorem filled_ex {width : Nat} {L : Nat → List Nat} (hL : ∀ n, (L n).length < width) : ∀ (m n : Nat) (ws : List (List Nat)), tot ws ≤ m → ∃ rows, Filled width L n ws rows
  | _, n, [], _ => ⟨[], .nil n⟩
  | 0, n, w :: r, h => by simp [tot] at h
  | m + 1, n, w :: r, h => by
    have hr := hL n
    simp only [tot] at h
    by_cases hc : width - (L n).length < w.length
    · obtain ⟨rows, hF⟩ := filled_ex hL m (n + 1) (w.drop (width - (L n).length) :: r) (by simp only [tot, List.length_drop]; omega)
      exact ⟨_, .cut n w r rows hc hF⟩
    · have := (fit_left (width - (L n).length) r w).1
      obtain ⟨rows, hF⟩ := filled_ex hL m (n + 1) (fitC (width - (L n).length) w r).2 (by omega)
      exact ⟨_, .row n w r rows (by omega) hF⟩
theorem lead_less {W : Addr → Prop} {Pre : Nat → Hp → Prop} (hP : LeadW W Pre) {k : Nat} {H : Hp} : ∀ {j : Nat}, Pre (k + j) H → Pre k H
  | 0, h => h
  | j + 1, h => lead_less hP (j := j) (hP.less _ _ h)
/-- the begun row n with its words, the words behind, what comes of them -/
def Cont (width : Nat) (L : Nat → List Nat) (n : Nat) (row : List Nat) (rest : List (List Nat)) (T : List (List Nat)) : Prop :=
  ∃ T', T = (L n ++ (fitC (width - (L n).length) row rest).1) :: T' ∧ Filled width L (n + 1) (fitC (width - (L n).length) row rest).2 T'
/-- pieces cut off a word, and what is left -/
inductive Cuts (width : Nat) (L : Nat → List Nat) : Nat → List Nat → List (List Nat) → List Nat → Prop where
  | done (n w) : w.length ≤ width - (L n).length → Cuts width L n w [] w
  | more (n w as w') : width - (L n).length < w.length → Cuts width L (n + 1) (w.drop (width - (L n).length)) as w' → Cuts width L n w ((L n ++ w.take (width - (L n).length)) :: as) w'
theorem Cuts.filled {width : Nat} {L : Nat → List Nat} {n : Nat} {w w' : List Nat} {as : List (List Nat)} (h : Cuts width L n w as w') : ∀ {rest T : List (List Nat)}, w ≠ [] → Filled width L n (w :: rest) T →
    ∃ T', T = as ++ T' ∧ w' ≠ [] ∧ w'.length ≤ width - (L (n + as.length)).length ∧ Filled width L (n + as.length) (w' :: rest) T' := by
  induction h with
  | done n w hc => intro rest T hw hF; exact ⟨T, rfl, hw, hc, hF⟩
  | more n w as w' hc _ ih =>
    intro rest T hw hF
    cases hF with
    | row _ _ _ T' h1 _ => omega
    | cut _ _ _ T' _ h2 =>
      obtain ⟨T2, e, h3, h4, h5⟩ := ih (rest := rest) (T := T') (fun z => by have := congrArg List.length z; rw [List.length_drop] at this; simp at this; omega) h2
      refine ⟨T2, by rw [e]; rfl, h3, ?_, ?_⟩
      · rw [List.length_cons, show n + (as.length + 1) = n + 1 + as.length by omega]; exact h4
      · rw [List.length_cons, show n + (as.length + 1) = n + 1 + as.length by omega]; exact h5
/-- filled: lead at g changes W alone, and may be asked as often as Pre says -/
def spFilled (g : Addr) (W : Addr → Prop) (Pre : Nat → Hp → Prop) (L : Nat → List Nat) : Sp := fun vs H Q _ => ∃ (aw : Addr) (ws : List (List Nat)) (width k : Nat), vs = [.ref aw, .int width, .ref g] ∧ H aw = some (.lst (ws.map vS)) ∧ ¬ W aw ∧ (∀ w ∈ ws, w ≠ [] ∧ w.length ≤ 1000) ∧ ws.length ≤ 1000 ∧ width ≤ 1000 ∧
  (∀ n, (L n).length < width) ∧ Pre (k + 2000000) H ∧ ∀ p rows H', H p = none → SameW W H H' → Pre k H' → H' p = some (.lst (rows.map vS)) → Filled width L 0 ws rows → Q (.ref p) H'
structure FilAt (W : Addr → Prop) (Pre : Nat → Hp → Prop) (k p : Addr) (H0 : Hp) (rs : List (List Nat)) (i : Nat) (H : Hp) : Prop where
  sw : SameW W H0 H
  ep : H p = some (.lst (rs.map vS))
  pre : ∃ j, Pre (k + j) H ∧ 2000000 ≤ j + rs.length + i
theorem FilAt.same {W : Addr → Prop} {Pre : Nat → Hp → Prop} {k p : Addr} {H0 H H' : Hp} {rs : List (List Nat)} {i : Nat} (hP : LeadW W Pre) (h : FilAt W Pre k p H0 rs i H) (s : Same H H') : FilAt W Pre k p H0 rs i H' := by
  obtain ⟨j, a, b⟩ := h.pre
  refine ⟨fun b o n e => s _ _ (h.sw b o n e), s _ _ h.ep, j, hP.stay _ _ _ a fun b hb => ?_, b⟩
  cases e : H b with
  | none => exact absurd e (hP.there _ _ b a hb)
  | some o => exact s _ _ e
theorem FilAt.put {W : Addr → Prop} {Pre : Nat → Hp → Prop} {k p : Addr} {H0 H : Hp} {rs rs' : List (List Nat)} {i : Nat} {xs : List V} (hP : LeadW W Pre) (h : FilAt W Pre k p H0 rs i H) (hp : H0 p = none) (nW : ¬ W p) (e : xs = rs'.map vS) (hl : rs.length ≤ rs'.length) : FilAt W Pre k p H0 rs' i (upd H p (.lst xs)) := by
  obtain ⟨j, a, b⟩ := h.pre
  refine ⟨fun b o n e => ?_, by rw [upd_same, e], j, hP.stay _ _ _ a fun b hb => upd_ne (fun z => nW (z ▸ hb)), by omega⟩
  rw [upd_ne (fun z => by rw [z, hp] at e; cases e)]
  exact h.sw b o n e
theorem FilAt.next {W : Addr → Prop} {Pre : Nat → Hp → Prop} {k p : Addr} {H0 H : Hp} {rs : List (List Nat)} {i : Nat} (h : FilAt W Pre k p H0 rs i H) : FilAt W Pre k p H0 rs (i + 1) H := by
  obtain ⟨j, a, b⟩ := h.pre
  exact ⟨h.sw, h.ep, j, a, by omega⟩
/-- another object of the def's own is changed -/
theorem FilAt.other {W : Addr → Prop} {Pre : Nat → Hp → Prop} {k p q : Addr} {H0 H : Hp} {rs : List (List Nat)} {i : Nat} {o : HO} (hP : LeadW W Pre) (h : FilAt W Pre k p H0 rs i H) (hq : H0 q = none) (nW : ¬ W q) (nq : q ≠ p) : FilAt W Pre k p H0 rs i (upd H q o) := by
  obtain ⟨j, a, b⟩ := h.pre
  refine ⟨fun b o n e => ?_, by rw [upd_ne (Ne.symm nq)]; exact h.ep, j, hP.stay _ _ _ a fun b hb => upd_ne (fun z => nW (z ▸ hb)), b⟩
  rw [upd_ne (fun z => by rw [z, hq] at e; cases e)]
  exact h.sw b o n e
def spRoom : Sp := fun vs H Q _ => ∃ (a : List Nat) (width : Nat), vs = [vS a, .int width] ∧ a.length < width ∧ width ≤ 1000 ∧ Q (.int ((width - a.length : Nat) : Int)) H
def spLast (g : Addr) (W : Addr → Prop) (Pre : Nat → Hp → Prop) (L : Nat → List Nat) : Sp := fun vs H Q _ => ∃ (wd : List Nat) (width k i : Nat) (p : Addr) (H0 : Hp) (rs : List (List Nat)), vs = [vS wd, .int width, .ref g, .ref p] ∧ FilAt W Pre k p H0 rs i H ∧ H0 p = none ∧ ¬ W p ∧ wd ≠ [] ∧ wd.length ≤ 1000 ∧ width ≤ 1000 ∧
  (∀ n, (L n).length < width) ∧ rs.length ≤ 1001000 ∧ i < 1000 ∧ ∀ as w' H', Cuts width L rs.length wd as w' → FilAt W Pre k p H0 (rs ++ as) (i + 1) H' → Q (vS (L (rs.length + as.length) ++ w')) H'
/-- where filled stands: rs are the rows, hs what is held for the begun one -/
def Stand (width : Nat) (L : Nat → List Nat) (R rs hs rest : List (List Nat)) : Prop :=
  (hs = [] ∧ rs = [] ∧ Filled width L 0 rest R) ∨ (hs ≠ [] ∧ ∃ row, glueC [32] hs = L rs.length ++ row ∧ row ≠ [] ∧ row.length ≤ width - (L rs.length).length ∧ ∃ T, R = rs ++ T ∧ Cont width L rs.length row rest T)
theorem glue_snoc (g : List Nat) : ∀ {hs : List (List Nat)} (w : List Nat), hs ≠ [] → glueC g (hs ++ [w]) = glueC g hs ++ g ++ w
  | [p], w, _ => rfl
  | p :: q :: r, w, _ => by
    have ih := glue_snoc g (hs := q :: r) w (by simp)
    show p ++ g ++ glueC g ((q :: r) ++ [w]) = p ++ g ++ glueC g (q :: r) ++ g ++ w
    rw [ih]
    simp
theorem glue_sum : ∀ hs : List (List Nat), (hs.map (·.length)).sum + hs.length ≤ (glueC [32] hs).length + 1
  | [] => by simp
  | [p] => by simp [glueC]
  | p :: q :: r => by
    have ih := glue_sum (q :: r)
    rw [glueC_cons _ _ _ (by simp)]
    simp only [List.map_cons, List.sum_cons, List.length_cons, List.length_append, List.length_nil] at ih ⊢
    omega
theorem glue_fit {hs : List (List Nat)} (h : (glueC [32] hs).length ≤ 100000) : (((hs.map S).map (·.length)).sum + (hs.map S).length * (S [32]).length) ≤ sizeLine := by
  have := glue_sum hs
  rw [List.map_map, show ((fun (x : Str) => x.length) ∘ S) = (fun (l : List Nat) => l.length) from funext fun l => S_len l, List.length_map, sizeLine_eq, S_len]
  simp only [List.length_cons, List.length_nil]
  omega
end Lw

set_option Elab.async false
set_option linter.all false
set_option maxRecDepth 100000
set_option maxHeartbeats 2000000
namespace K10
open PySem L2 Lm Lw
section
variable {P : Program} {w : World} {K : PySem.W.Frag} {mg : Str → Option Value} {base : Heap}
abbrev sRoom : Stmt := top 3
theorem scRoom : FnScope ["ahead", "width"] ["ahead", "width"] (defScope sRoom) := ⟨rfl, rfl, rfl, by decide +kernel, rfl, by decide +kernel, by decide +kernel⟩
theorem ok_room {f : Addr} {fd : FuncData} (F : Fun K "room_behind" "room_behind" sRoom f fd) (T : Tx10 mg) : FnOk P w K mg base CX0 1 f fd ["ahead", "width"] spRoom := by
  have sc := scRoom
  refine F.ok sc (fun vs H Q E h => ?_) (fun cdv A outer s H vs Q E hr h => ?_)
  · obtain ⟨a, width, rfl, _⟩ := h
    rfl
  obtain ⟨a, width, rfl, ha, hw, q⟩ := h
  refine of_XB (xb1 (xret (xcB (call_max2 rfl) T.n_max rfl (xac xint (xac (xop op_sub (xv 1) (xcB call_len_str T.n_len PySem.boot_len (xac (xv 0) xa0))) xa0))))) ?_
  refine ⟨_, rfl, _, rfl, _, rfl, bigS (by omega), _, _, rfl, rfl, 1, (width : Int) - (a.length : Nat), ?_, ?_⟩
  · rw [S_len]
  rw [show (if (width : Int) - (a.length : Nat) > 1 then (width : Int) - (a.length : Nat) else 1) = ((width - a.length : Nat) : Int) by split <;> omega]
  exact q
abbrev sLast : Stmt := top 2
theorem scLast : FnScope ["word", "width", "lead", "rows", "place", "ahead", "piece"] ["word", "width", "lead", "rows"] (defScope sLast) := ⟨rfl, rfl, rfl, by decide +kernel, rfl, by decide +kernel, by decide +kernel⟩
theorem ok_last {f g : Addr} {fd : FuncData} {W : Addr → Prop} {Pre : Nat → Hp → Prop} {L : Nat → List Nat} {x : Str} (F : Fun K "last_piece" "last_piece" sLast f fd) (T : Tx10 mg) (hP : LeadW W Pre) (hV : FnV P w K mg base 2 g [x] (spLeadF W Pre L)) (D_room_behind : Def P w K mg base 1 "room_behind" ["ahead", "width"] spRoom) :
    FnOk P w K mg base CX0 3 f fd ["word", "width", "lead", "rows"] (spLast g W Pre L) := by
  have sc := scLast
  refine F.ok sc (fun vs H Q E h => ?_) (fun cdv A outer s H vs Q E hr h => ?_)
  · obtain ⟨wd, width, k, i, p, H0, rs, rfl, _⟩ := h
    rfl
  obtain ⟨wd, width, k, i, p, H0, rs, rfl, A0, hp, nWp, hne, hwl, w1, hL, hrl, hi, q⟩ := h
  refine of_XB (xbc (xset (i := 4) sc.nd rfl (Or.inl rfl) xint)
    (xbc (xset (i := 5) sc.nd rfl (Or.inl rfl) (xcV (i := 2) (k := 2) rfl (Or.inl rfl) (hr.mono (by decide)) (xac (xcB call_len_seq T.n_len PySem.boot_len (xac (xv 3) xa0)) xa0)))
    (xbc (xwhile PassesOwn.never (xcmpT op_gt (xop op_sub (xcB call_len_str T.n_len PySem.boot_len (xac (xv 0) xa0)) (xv 4)) (xcD D_room_behind (hr.mono (by decide)) (xac (xv 5) (xac (xv 1) xa0))) (nomark _))
    (xbc (xset (i := 6) sc.nd rfl (Or.inl rfl) (xsl sl_str (xv 0) (xo1 (xv 4)) (xo1 (xop op_add (xv 4) (xcD D_room_behind (hr.mono (by decide)) (xac (xv 5) (xac (xv 1) xa0)))))))
    (xbc (xexpr (xm PySem.F.plainAttrs_list PySem.F.slot_list_append PySem.F.type_list_append mt_append (xv 3) (xac (xop op_add_str (xv 5) (xv 6)) xa0)))
    (xbc (xaug (i := 4) sc.nd rfl (Or.inl rfl) (xcB call_len_str T.n_len PySem.boot_len (xac (xv 6) xa0)) ip_add)
    (xb1 (xset (i := 5) sc.nd rfl (Or.inl rfl) (xcV (i := 2) (k := 2) rfl (Or.inl rfl) (hr.mono (by decide)) (xac (xcB call_len_seq T.n_len PySem.boot_len (xac (xv 3) xa0)) xa0))))))))
    (xb1 (xret (xop op_add_str (xv 5) (xsl sl_str (xv 0) (xo1 (xv 4)) xo0))))))) ?_
  have hs : sizeLine = 16777216 := sizeLine_eq
  rw [show start ["word", "width", "lead", "rows", "place", "ahead", "piece"] [vS wd, V.int width, V.ref g, V.ref p] = [some (vS wd), some (V.int width), some (V.ref g), some (V.ref p), none, none, none] from rfl]
  obtain ⟨j, pj, hj⟩ := A0.pre
  obtain ⟨j', rfl⟩ : ∃ j', j = j' + 1 := ⟨j - 1, by omega⟩
  refine ⟨g, [x], spLeadF W Pre L, rfl, hV, _, rfl, p, _, rfl, .inl (SqL.of A0.ep), rs.length, k + j', by rw [List.length_map], by omega, pj, fun H1 pre1 sw1 => ?_⟩
  have A1 : FilAt W Pre k p H0 rs (i + 1) H1 := ⟨A0.sw.trans sw1, sw1 _ _ nWp A0.ep, j', pre1, by omega⟩
  clear pj hj pre1 A0
  dsimp only [gName, List.set_cons_succ, List.set_cons_zero]
  refine s_join (fun σ' H' => ∃ as w' pl x6, σ' = [some (vS wd), some (.int width), some (.ref g), some (.ref p), some (.int ((pl : Nat) : Int)), some (vS (L (rs ++ as).length)), x6] ∧ FilAt W Pre k p H0 (rs ++ as) (i + 1) H' ∧ w' = wd.drop pl ∧ Cuts width L rs.length wd as w') (fun N hN => ?_) ?_
  · refine while_t (fun m σ H' => ∃ as pl x6, m = wd.length - pl ∧ σ = [some (vS wd), some (.int width), some (.ref g), some (.ref p), some (.int ((pl : Nat) : Int)), some (vS (L (rs ++ as).length)), x6] ∧ FilAt W Pre k p H0 (rs ++ as) (i + 1) H' ∧ pl < wd.length ∧ as.length ≤ pl ∧ ∀ bs w', Cuts width L (rs ++ as).length (wd.drop pl) bs w' → Cuts width L rs.length wd (as ++ bs) w') wd.length
      ⟨[], 0, none, rfl, by rw [List.append_nil]; rfl, by rw [List.append_nil]; exact A1, List.length_pos_iff.mpr hne, Nat.le_refl _, fun bs w' h => by rw [List.append_nil, List.drop_zero] at h; exact h⟩ ?_
    clear A1 sw1
    rintro m σ H2 ⟨as, pl, x6, rfl, rfl, A2, hpl, hal, hc⟩
    have hLn := hL (rs ++ as).length
    have hrs : (rs ++ as).length ≤ 1002000 := by rw [List.length_append]; omega
    generalize hn : (rs ++ as).length = n at hc hLn hrs ⊢
    refine ⟨decide (((width - (L n).length : Nat) : Int) < (wd.length : Int) - (pl : Nat)), fun R k => ⟨_, rfl, _, rfl, bigS (by omega), _, rfl, _, _, rfl, rfl, _, rfl, _, rfl, L n, width, rfl, hLn, w1, _, _, rfl, rfl, _, rfl, ?_⟩, fun c H3 s3 => ?_, fun c H3 s3 => ?_⟩
    · rw [S_len]
      exact k _ (Same.refl _)
    · have c := of_decide_eq_true c
      have A3 := A2.same hP s3
      obtain ⟨room, hroom⟩ : ∃ room : Nat, room = width - (L n).length := ⟨_, rfl⟩
      rw [← hroom] at c
      have evR : Ev (tCall spRoom [] E0 (tCons (tVar 5) (tCons (tVar 1) tNil))) [some (vS wd), some (.int width), some (.ref g), some (.ref p), some (.int ((pl : Nat) : Int)), some (vS (L n)), x6] H3 (.int (room : Nat)) := fun R r => ⟨_, rfl, _, rfl, L n, width, rfl, hLn, w1, by rw [← hroom]; exact r⟩
      refine ev_sl (a := (wd.drop pl).take room) (l := wd) (by omega) (ev_v rfl) (evo_s (ev_v rfl)) (evo_s (ev_op (ev_v rfl) evR rfl)) ?_ _ ?_
      · rw [show ((pl : Nat) : Int) + ((room : Nat) : Int) = ((pl + room : Nat) : Int) by omega, cut_any, Nat.add_sub_cancel_left]
      dsimp only [gName, List.set_cons_succ, List.set_cons_zero]
      refine ⟨_, rfl, .inl ⟨rfl, _, SqL.of A3.ep⟩, _, rfl, _, rfl, _, _, rfl, rfl, ?_, p, _, _, rfl, rfl, A3.ep, by rw [List.length_map, hn]; omega, ?_⟩
      · show (S (L n)).length + (S ((wd.drop pl).take room)).length ≤ _
        rw [S_len, S_len, hs, List.length_take, List.length_drop]; omega
      have A4 : FilAt W Pre k p H0 (rs ++ (as ++ [L n ++ (wd.drop pl).take room])) (i + 1) (upd H3 p (.lst ((rs ++ as).map vS ++ [V.str (S (L n) ++ S ((wd.drop pl).take room))]))) := A3.put hP hp nWp (by rw [catS, ← List.append_assoc, List.map_append (l₁ := rs ++ as)]; rfl) (by rw [← List.append_assoc, List.length_append (as := rs ++ as)]; omega)
      obtain ⟨j, pj, hj⟩ := A3.pre
      rw [hn] at hj
      obtain ⟨j', rfl⟩ : ∃ j', j = j' + 1 := ⟨j - 1, by omega⟩
      have pj4 : Pre (k + (j' + 1)) (upd H3 p (.lst ((rs ++ as).map vS ++ [V.str (S (L n) ++ S ((wd.drop pl).take room))]))) := hP.stay _ _ _ pj fun b hb => upd_ne (fun z => nWp (z ▸ hb))
      generalize upd H3 p (.lst ((rs ++ as).map vS ++ [V.str (S (L n) ++ S ((wd.drop pl).take room))])) = H4 at A4 pj4 ⊢
      have hn4 : (rs ++ (as ++ [L n ++ (wd.drop pl).take room])).length = n + 1 := by rw [← List.append_assoc, List.length_append, hn]; rfl
      have htl : ((wd.drop pl).take room).length = room := by rw [List.length_take, List.length_drop]; omega
      refine ⟨_, rfl, _, rfl, _, rfl, bigS (by omega), _, _, rfl, rfl, ?_⟩
      dsimp only [gName, List.set_cons_succ, List.set_cons_zero]
      rw [S_len, htl, show ((pl : Nat) : Int) + ((room : Nat) : Int) = ((pl + room : Nat) : Int) by omega]
      refine ⟨g, [x], spLeadF W Pre L, rfl, hV, _, rfl, p, _, rfl, .inl (SqL.of A4.ep), n + 1, k + j', by rw [List.length_map, hn4], by omega, pj4, fun H5 pre5 sw5 => ?_⟩
      refine ⟨wd.length - (pl + room), by omega, as ++ [L n ++ (wd.drop pl).take room], pl + room, _, rfl, by rw [hn4]; rfl, ⟨A4.sw.trans sw5, sw5 _ _ nWp A4.ep, j', pre5, by rw [hn4]; omega⟩, by omega, by rw [List.length_append]; show as.length + 1 ≤ _; omega, fun bs w' h => ?_⟩
      rw [hn4] at h
      rw [List.append_assoc]
      refine hc _ _ ?_
      rw [hroom]
      refine .more n (wd.drop pl) bs w' (by rw [List.length_drop]; omega) ?_
      rw [List.drop_drop, ← hroom]
      exact h
    · have c := of_decide_eq_false c
      refine hN _ _ ⟨as, wd.drop pl, pl, x6, by rw [hn], A2.same hP s3, rfl, ?_⟩
      have := hc [] (wd.drop pl) (.done n _ (by rw [List.length_drop]; omega))
      rw [List.append_nil] at this
      exact this
  rintro σ2 H2 ⟨as, w', pl, x6, rfl, A2, rfl, hc⟩
  have hLn := hL (rs ++ as).length
  refine ⟨_, rfl, _, rfl, _, rfl, _, rfl, _, rfl, bigS (by omega), ?_⟩
  rw [slice_S, cut_from]
  refine ⟨_, _, rfl, rfl, ?_, ?_⟩
  · show (S (L (rs ++ as).length)).length + (S (wd.drop pl)).length ≤ _
    rw [S_len, S_len, hs, List.length_drop]; omega
  have := q as _ H2 hc A2
  rw [← List.length_append] at this
  rw [catS]
  exact this
abbrev sFilled : Stmt := top 1
theorem scFilled : FnScope ["words", "width", "lead", "rows", "held", "used", "word"] ["words", "width", "lead"] (defScope sFilled) := ⟨rfl, rfl, rfl, by decide +kernel, rfl, by decide +kernel, by decide +kernel⟩
theorem ok_filled {f g : Addr} {fd : FuncData} {W : Addr → Prop} {Pre : Nat → Hp → Prop} {L : Nat → List Nat} (F : Fun K "filled" "filled" sFilled f fd) (T : Tx10 mg) (hP : LeadW W Pre) (D_last_piece : Def P w K mg base 3 "last_piece" ["word", "width", "lead", "rows"] (spLast g W Pre L)) :
    FnOk P w K mg base CX0 4 f fd ["words", "width", "lead"] (spFilled g W Pre L) := by
  have sc := scFilled
  refine F.ok sc (fun vs H Q E h => ?_) (fun cdv A outer s H vs Q E hr h => ?_)
  · obtain ⟨aw, ws, width, k, rfl, _⟩ := h
    rfl
  obtain ⟨aw, ws, width, k, rfl, ew, nw, hw, hwl, w1, hL, pre, q⟩ := h
  have hu : (A.deeper (PyProof.Rows.envOfC "filled" (defScope sFilled) s.heap.objs.size f cdv)).units + 64 < cLine := by
    have := hr.un
    omega
  refine of_XB (xbc (xset (i := 3) sc.nd rfl (Or.inl rfl) (xlst xa0))
    (xbc (xset (i := 4) sc.nd rfl (Or.inl rfl) (xlst xa0))
    (xbc (xset (i := 5) sc.nd rfl (Or.inl rfl) xint)
    (xbc (xfor PassesOwn.never rfl (xil (xv 0)) (xgn (i := 6) sc.nd rfl (Or.inl rfl))
    (xbc (xif (xand (xcmpT (op_ne0 hu) (xv 4) (xlst xa0) (nomark _)) (xand1 (xcmpT op_le (xop op_add (xop op_add (xv 5) xint) (xcB call_len_str T.n_len PySem.boot_len (xac (xv 6) xa0))) (xv 1) (nomark _)))).xt (xbc (xexpr (xm PySem.F.plainAttrs_list PySem.F.slot_list_append PySem.F.type_list_append mt_append (xv 4) (xac (xv 6) xa0)))
    (xbc (xaug (i := 5) sc.nd rfl (Or.inl rfl) (xop op_add xint (xcB call_len_str T.n_len PySem.boot_len (xac (xv 6) xa0))) ip_add)
    (xb1 xcont))) xb0)
    (xbc (xif (xcmpT (op_ne0 hu) (xv 4) (xlst xa0) (nomark _)) (xb1 (xexpr (xm PySem.F.plainAttrs_list PySem.F.slot_list_append PySem.F.type_list_append mt_append (xv 3) (xac (xm PySem.F.plainAttrs_str PySem.F.slot_str_join PySem.F.type_str_join mt_join xstr (xac (xv 4) xa0)) xa0)))) xb0)
    (xbc (xset (i := 4) sc.nd rfl (Or.inl rfl) (xlst (xac (xcD D_last_piece (hr.mono (by decide)) (xac (xv 6) (xac (xv 1) (xac (xv 2) (xac (xv 3) xa0))))) xa0)))
    (xb1 (xset (i := 5) sc.nd rfl (Or.inl rfl) (xcB call_len_str T.n_len PySem.boot_len (xac (xix ix_list (xv 4) xint (fun _ _ => rfl)) xa0))))))))
    (xbc (xif (xcmpT (op_ne0 hu) (xv 4) (xlst xa0) (nomark _)) (xb1 (xexpr (xm PySem.F.plainAttrs_list PySem.F.slot_list_append PySem.F.type_list_append mt_append (xv 3) (xac (xm PySem.F.plainAttrs_str PySem.F.slot_str_join PySem.F.type_str_join mt_join xstr (xac (xv 4) xa0)) xa0)))) xb0)
    (xb1 (xret (xv 3)))))))) ?_
  have hs : sizeLine = 16777216 := sizeLine_eq
  obtain ⟨R, hR⟩ := filled_ex hL (tot ws) 0 ws (Nat.le_refl _)
  have hcnt := hR.count hL
  have htot := tot_le (m := 1000) fun x hx => (hw x hx).2
  have hRl : R.length ≤ 1001000 := Nat.le_trans hcnt (Nat.le_trans htot (by omega))
  rw [show start ["words", "width", "lead", "rows", "held", "used", "word"] [V.ref aw, V.int width, V.ref g] = [some (V.ref aw), some (V.int width), some (V.ref g), none, none, none, none] from rfl]
  refine ⟨big (show (0 : Nat) ≤ 1000000 by decide), fun p hp => ?_⟩
  have nWp : ¬ W p := fun z => hP.there _ _ _ pre z hp
  have A1 : FilAt W Pre k p H [] 0 (upd H p (.lst [])) := ⟨fun b o n e => same_new hp _ _ _ e, upd_same, 2000000, hP.stay _ _ _ pre fun b hb => upd_ne (fun z => nWp (z ▸ hb)), by simp⟩
  dsimp only [gName, List.set_cons_succ, List.set_cons_zero]
  generalize upd H p (.lst []) = H1 at A1 ⊢
  refine ⟨big (show (0 : Nat) ≤ 1000000 by decide), fun hd0 hhd0 => ?_⟩
  have A2 := A1.same hP (same_new hhd0 (.lst []))
  have nW0 : ¬ W hd0 := fun z => by obtain ⟨j, a, _⟩ := A1.pre; exact hP.there _ _ _ a z hhd0
  have n0p : hd0 ≠ p := fun z => by rw [z, A1.ep] at hhd0; cases hhd0
  have h00 : H hd0 = none := A1.sw.free nW0 hhd0
  have eh0 : upd H1 hd0 (.lst []) hd0 = some (.lst []) := upd_same
  dsimp only [gName, List.set_cons_succ, List.set_cons_zero, tSeq, tAsg, tC]
  generalize upd H1 hd0 (.lst []) = H2 at A2 eh0 ⊢
  refine ⟨_, rfl, aw, rfl, ⟨_, SqL.of (A2.sw _ _ nw ew)⟩, ?_⟩
  refine for_list (xs := ws.map vS) (fun i σ H' => ∃ rs hs hd x6, σ = [some (.ref aw), some (.int width), some (.ref g), some (.ref p), some (.ref hd), some (.int (((glueC [32] hs).length : Nat) : Int)), x6] ∧ FilAt W Pre k p H rs i H' ∧ H' hd = some (.lst (hs.map vS)) ∧ hd ≠ p ∧ ¬ W hd ∧ H hd = none ∧ (glueC [32] hs).length ≤ width ∧ Stand width L R rs hs (ws.drop i))
    ⟨[], [], hd0, none, rfl, A2, eh0, n0p, nW0, h00, by simp [glueC], .inl ⟨rfl, rfl, hR⟩⟩ ?_ ?_ ?_
  · rintro i σ H3 _ ⟨rs, hs, hd, x6, _, A3, _⟩
    exact SqL.of (A3.sw _ _ nw ew)
  · clear A1 A2 eh0 n0p nW0 h00 hhd0
    rintro i v σ H3 hv ⟨rs, hs', hd, x6, rfl, A3, eh, nhp, nWh, hh0, hgl, st⟩
    rw [List.getElem?_map] at hv
    cases hwi : ws[i]? with
    | none => rw [hwi] at hv; cases hv
    | some wd =>
    rw [hwi] at hv
    cases hv
    obtain ⟨hwn, hwd⟩ := hw wd (List.mem_of_getElem? hwi)
    obtain ⟨hi, hgi⟩ := List.getElem?_eq_some_iff.mp hwi
    rw [List.drop_eq_getElem_cons hi, hgi] at st
    dsimp only [gName, List.set_cons_succ, List.set_cons_zero]
    generalize hrest : ws.drop (i + 1) = rest at st ⊢
    have hile : i < 1000 := by omega
    refine s_if ((!(hs'.map vS).isEmpty) && decide ((((glueC [32] hs').length : Nat) : Int) + 1 + (wd.length : Nat) ≤ (width : Int)))
      (t_and _ _ (t_ne0 (ev_v rfl) (SqL.of eh)) fun _ H4 s4 => t_relG (p := fun i j => decide (i ≤ j)) (ev_op (ev_op (ev_v rfl) ev_c rfl) (ev_len (l := wd) (by omega) (ev_v rfl)) rfl) (ev_v rfl)) (fun H4 s4 c => ?_) (fun H4 s4 c => ?_)
    · rw [Bool.and_eq_true] at c
      have c1 : hs' ≠ [] := fun z => by rw [z] at c; simp at c
      have c2 := of_decide_eq_true c.2
      have A4 := (A3.same hP s4).next
      have eh4 := s4 _ _ eh
      rcases st with ⟨z, _⟩ | ⟨_, row, hg, hrn, hfit, T', hRT, T2, hT, hF⟩
      · exact absurd z c1
      have hgl2 := congrArg List.length hg
      rw [List.length_append] at hgl2
      have hLn := hL rs.length
      have hb : row.length + 1 + wd.length ≤ width - (L rs.length).length := by omega
      have hfe : fitC (width - (L rs.length).length) row (wd :: rest) = fitC (width - (L rs.length).length) (row ++ [32] ++ wd) rest := by
        show (if row.length + 1 + wd.length ≤ _ then _ else _) = _
        rw [if_pos hb]
      rw [hfe] at hT hF
      have hsn := glue_snoc [32] wd c1
      have hsl : (glueC [32] (hs' ++ [wd])).length = (glueC [32] hs').length + 1 + wd.length := by rw [hsn]; simp only [List.length_append, List.length_cons, List.length_nil]
      have hgs := glue_sum hs'
      refine ⟨_, rfl, .inl ⟨rfl, _, SqL.of eh4⟩, _, rfl, hd, _, _, rfl, rfl, eh4, by rw [List.length_map]; omega, ?_⟩
      have A5 : FilAt W Pre k p H rs (i + 1) (upd H4 hd (.lst (hs'.map vS ++ [vS wd]))) := A4.other hP hh0 nWh nhp
      refine ⟨_, rfl, _, rfl, _, rfl, bigS (by omega), _, _, rfl, rfl, _, _, rfl, rfl, ?_⟩
      refine ⟨rs, hs' ++ [wd], hd, some (vS wd), ?_, A5, by rw [upd_same, List.map_append]; rfl, nhp, nWh, hh0, by omega, .inr ⟨by simp, row ++ [32] ++ wd, by rw [hsn, hg]; simp, by simp, by simp only [List.length_append, List.length_cons, List.length_nil]; omega, T', hRT, T2, hT, hF⟩⟩
      rw [S_len, hsl]
      dsimp only [List.set_cons_succ, List.set_cons_zero]
      rw [show (((glueC [32] hs').length : Nat) : Int) + (1 + ((wd.length : Nat) : Int)) = (((glueC [32] hs').length + 1 + wd.length : Nat) : Int) by omega]
    · have A4 := A3.same hP s4
      have eh4 := s4 _ _ eh
      have nfit : hs' ≠ [] → ¬ (glueC [32] hs').length + 1 + wd.length ≤ width := fun z hh => by
        rw [Bool.and_eq_false_iff] at c
        rcases c with c | c
        · cases hs' with
          | nil => exact z rfl
          | cons _ _ => simp at c
        · have := of_decide_eq_false c
          omega
      dsimp only [tNext]
      refine s_join (fun σ' H' => ∃ rs' T, σ' = [some (.ref aw), some (.int width), some (.ref g), some (.ref p), some (.ref hd), some (.int (((glueC [32] hs').length : Nat) : Int)), some (vS wd)] ∧ FilAt W Pre k p H rs' i H' ∧ R = rs' ++ T ∧ Filled width L rs'.length (wd :: rest) T) (fun N hN => ?_) ?_
      · refine s_if (!(hs'.map vS).isEmpty) (t_ne0 (ev_v rfl) (SqL.of eh4)) (fun H5 s5 c5 => ?_) (fun H5 s5 c5 => ?_)
        · have c1 : hs' ≠ [] := fun z => by rw [z] at c5; simp at c5
          have A5 := A4.same hP s5
          have eh5 := s5 _ _ eh4
          rcases st with ⟨z, _⟩ | ⟨_, row, hg, hrn, hfit, T', hRT, T2, hT, hF⟩
          · exact absurd z c1
          have hgl2 := congrArg List.length hg
          rw [List.length_append] at hgl2
          have hLn := hL rs.length
          have hfe : fitC (width - (L rs.length).length) row (wd :: rest) = (row, wd :: rest) := by
            show (if row.length + 1 + wd.length ≤ _ then _ else _) = _
            rw [if_neg (by have := nfit c1; omega)]
          rw [hfe] at hT hF
          have hrsl : rs.length ≤ 1001000 := by rw [hRT, List.length_append] at hRl; omega
          refine ⟨_, rfl, .inl ⟨rfl, _, SqL.of A5.ep⟩, rfl, _, rfl, S [32], hd, hs'.map S, rfl, rfl, ?_, glue_fit (by omega), p, _, _, rfl, rfl, A5.ep, by rw [List.length_map]; omega, ?_⟩
          · rw [← map_S_V]; exact SqL.of eh5
          refine hN _ _ ⟨rs ++ [glueC [32] hs'], T2, rfl, A5.put hP hp nWp ?_ (by rw [List.length_append]; omega), ?_, ?_⟩
          · rw [List.map_append, joinT_S]; rfl
          · rw [hRT, hT, hg, List.append_assoc]; rfl
          · rw [List.length_append]; exact hF
        · have c1 : hs' = [] := by
            cases hs' with
            | nil => rfl
            | cons _ _ => simp at c5
          rcases st with ⟨_, hrs, hF⟩ | ⟨z, _⟩
          · exact hN _ _ ⟨rs, R, rfl, A4.same hP s5, by rw [hrs]; rfl, by rw [hrs]; exact hF⟩
          · exact absurd c1 z
      clear st nfit c A4 A3 eh4 s4 eh
      rintro σ5 H5 ⟨rs', T', rfl, A5, hRT, hF⟩
      have hrsl : rs'.length ≤ 1001000 := by rw [hRT, List.length_append] at hRl; omega
      refine ⟨_, rfl, _, rfl, _, rfl, _, rfl, wd, width, k, i, p, H, rs', rfl, A5, hp, nWp, hwn, hwd, w1, hL, hrsl, hile, fun as w' H6 hcut A6 => ⟨big (show (1 : Nat) ≤ 1000000 by decide), fun h2 hh2 => ?_⟩⟩
      have A7 := A6.same hP (same_new hh2 (.lst [vS (L (rs'.length + as.length) ++ w')]))
      have nW2 : ¬ W h2 := fun z => by obtain ⟨j, a, _⟩ := A6.pre; exact hP.there _ _ _ a z hh2
      have n2p : h2 ≠ p := fun z => by rw [z, A6.ep] at hh2; cases hh2
      have h20 : H h2 = none := A6.sw.free nW2 hh2
      have eh2 : upd H6 h2 (.lst [vS (L (rs'.length + as.length) ++ w')]) h2 = some (.lst [vS (L (rs'.length + as.length) ++ w')]) := upd_same
      dsimp only [gName, List.set_cons_succ, List.set_cons_zero]
      generalize upd H6 h2 (.lst [vS (L (rs'.length + as.length) ++ w')]) = H7 at A7 eh2 ⊢
      have hLn := hL (rs'.length + as.length)
      obtain ⟨T2, hTe, hw'n, hw'l, hF2⟩ := hcut.filled hwn hF
      have hll : (L (rs'.length + as.length) ++ w').length ≤ width := by rw [List.length_append]; omega
      refine ⟨_, rfl, h2, _, 0, _, rfl, rfl, SqL.of eh2, atI_nat (j := 0) rfl, _, rfl, bigS (by omega), ?_⟩
      rw [S_len]
      refine ⟨rs' ++ as, [L (rs'.length + as.length) ++ w'], h2, _, rfl, A7, eh2, n2p, nW2, h20, hll, .inr ⟨by simp, w', by rw [List.length_append]; rfl, hw'n, by rw [List.length_append]; exact hw'l, T2, by rw [hRT, hTe, List.append_assoc], ?_⟩⟩
      rw [List.length_append]
      cases hF2 with
      | cut _ _ _ T3 h1 _ => omega
      | row _ _ _ T3 _ h2 => exact ⟨T3, rfl, h2⟩
  · clear A1 A2 eh0 n0p nW0 h00 hhd0
    rintro σ H3 ⟨rs, hs', hd, x6, rfl, A3, eh, nhp, nWh, hh0, hgl, st⟩
    rw [List.length_map, List.drop_length] at st
    dsimp only
    refine s_join (fun σ' H' => σ' = [some (.ref aw), some (.int width), some (.ref g), some (.ref p), some (.ref hd), some (.int (((glueC [32] hs').length : Nat) : Int)), x6] ∧ ∃ i, FilAt W Pre k p H R i H') (fun N hN => ?_) ?_
    · refine s_if (!(hs'.map vS).isEmpty) (t_ne0 (ev_v rfl) (SqL.of eh)) (fun H4 s4 c => ?_) (fun H4 s4 c => ?_)
      · have c1 : hs' ≠ [] := fun z => by rw [z] at c; simp at c
        have A4 := A3.same hP s4
        have eh4 := s4 _ _ eh
        rcases st with ⟨z, _⟩ | ⟨_, row, hg, hrn, hfit, T', hRT, T2, hT, hF⟩
        · exact absurd z c1
        cases hF
        have hrsl : rs.length ≤ 1001000 := by rw [hRT, List.length_append] at hRl; omega
        refine ⟨_, rfl, .inl ⟨rfl, _, SqL.of A4.ep⟩, rfl, _, rfl, S [32], hd, hs'.map S, rfl, rfl, ?_, glue_fit (by omega), p, _, _, rfl, rfl, A4.ep, by rw [List.length_map]; omega, ?_⟩
        · rw [← map_S_V]; exact SqL.of eh4
        refine hN _ _ ⟨rfl, _, A4.put hP hp nWp ?_ (by rw [hRT, List.length_append]; omega)⟩
        rw [hRT, hT, List.map_append, joinT_S, hg]
        rfl
      · have c1 : hs' = [] := by
          cases hs' with
          | nil => rfl
          | cons _ _ => simp at c
        rcases st with ⟨_, hrs, hF⟩ | ⟨z, _⟩
        · cases hF
          subst hrs
          exact hN _ _ ⟨rfl, _, A3.same hP s4⟩
        · exact absurd c1 z
    rintro σ3 H4 ⟨rfl, i, A4⟩
    obtain ⟨j, pj, _⟩ := A4.pre
    exact ⟨_, rfl, q p R H4 hp A4.sw (lead_less hP pj) A4.ep hR⟩
end
end K10

set_option Elab.async false
set_option linter.all false
set_option maxRecDepth 100000
/-! zip of three lists -/
namespace L2
open PySem
abbrev IsTri (h : Heap) (T : Addr) (a b c : Value) : Prop := h.get? T = some { cls := .type "tuple", data := .seq #[a, b, c] }
section
variable {prog : Program} {w : World} {A : Around} {E : Value → Shared → Prop} {s : Shared}
theorem tri_put {T : Addr} {a b c x : Value} {k : Nat} {Q : Unit → Shared → Prop} (gT : IsTri s.heap T a b c)
    (q : ∀ h', h'.get? T = some { cls := .type "tuple", data := .seq ((#[a, b, c] : Array Value).setIfInBounds k x) } → Heap.SameBut T s.heap h' → Q () { s with heap := h' }) :
    wpAny (model prog w) A (updateSeq T (·.setIfInBounds k x)) Q E s := by
  refine wpAny_updateSeq gT rfl (q _ ?_ (Heap.SameBut.update ..))
  rw [Heap.get?_update_self _ gT rfl]; simp [Obj.mapSeq]
/-- z, its two tuples and its three iterators are all apart; no list is one of them -/
structure Apart3 (z TI TO i1 i2 i3 l1 l2 l3 : Addr) : Prop where
  nd : [z, TI, TO, i1, i2, i3].Nodup
  li : ∀ l ∈ [l1, l2, l3], l ≠ z ∧ l ≠ TO ∧ l ≠ i1 ∧ l ≠ i2 ∧ l ≠ i3
theorem z3_item {z TI TO i1 i2 i3 l1 l2 l3 : Addr} {k : Nat} {xs ys us : Array Value} {x y u a b c : Value} {Q : Value → Shared → Prop} (D : Apart3 z TI TO i1 i2 i3 l1 l2 l3)
    (gz : IsZip s.heap z TI TO .none) (gI : IsTri s.heap TI (.ref i1) (.ref i2) (.ref i3)) (gO : IsTri s.heap TO a b c)
    (g1 : s.heap.IsListIter i1 l1 k) (g2 : s.heap.IsListIter i2 l2 k) (g3 : s.heap.IsListIter i3 l3 k) (e1 : s.heap.IsList l1 xs) (e2 : s.heap.IsList l2 ys) (e3 : s.heap.IsList l3 us) (hx : xs[k]? = some x) (hy : ys[k]? = some y) (hu : us[k]? = some u)
    (q : ∀ h', IsZip h' z TI TO (rawInt s.heap.objs.size) → IsTri h' TO x y u → h'.IsListIter i1 l1 (k + 1) → h'.IsListIter i2 l2 (k + 1) → h'.IsListIter i3 l3 (k + 1) → IsTri h' s.heap.objs.size x y u → h'.objs.size = s.heap.objs.size + 1 →
      (∀ c o, c ≠ z → c ≠ TO → c ≠ i1 → c ≠ i2 → c ≠ i3 → s.heap.get? c = some o → h'.get? c = some o) → Q (.ref s.heap.objs.size) { s with heap := h' }) :
    wpAny (model prog w) A (Builtin.«zip.__next__» ⟨[.ref z], []⟩) (fun fin s' => ∃ v, fin = .done (.ret v) ∧ Q v s') E s := by
  obtain ⟨nd, li⟩ := D
  simp only [List.nodup_cons, List.mem_cons, List.mem_nil_iff, or_false, not_or, List.nodup_nil, and_true, not_false_eq_true] at nd
  obtain ⟨⟨zTI, zTO, z1, z2, z3⟩, ⟨ITO, I1, I2, I3⟩, ⟨O1, O2, O3⟩, ⟨n12, n13⟩, n23⟩ := nd
  obtain ⟨l1z, l1O, l11, l12, l13⟩ := li l1 (by simp)
  obtain ⟨l2z, l2O, l21, l22, l23⟩ := li l2 (by simp)
  obtain ⟨l3z, l3O, l31, l32, l33⟩ := li l3 (by simp)
  show wpAny _ _ (PySem.field (.ref z) 2 >>= _) _ _ _
  refine wpAny_bind (wpAny_field gz rfl (x := .bool false) rfl ?_)
  show wpAny _ _ (PySem.field (.ref z) 3 >>= _) _ _ _
  refine wpAny_bind (wpAny_field gz rfl (x := .ref TI) rfl (wpAny_bind (wpAny_seqItems gI rfl ?_)))
  show wpAny _ _ (PySem.Builtin.SmallTypes.ownedTupleIsFree (.ref z) >>= _) _ _ _
  refine wpAny_bind ?_; unfold Builtin.SmallTypes.ownedTupleIsFree
  refine wpAny_bind (wpAny_field gz rfl (x := .none) rfl (wpAny_pure ?_)); simp only [if_true]
  refine wpAny_bind (wpAny_rule (wpAny_bind (wpAny_field gz rfl (x := .ref TO) rfl (wpAny_bind (wpAny_setField_rec gz (by simp) fun t1 gz1 ex1 => ?_)))))
  replace gz1 : IsZip t1 z TI TO .ellipsis := gz1
  refine wpAny_bind ?_; simp only [List.forIn_cons, List.forIn_nil, List.zipIdx_cons, List.zipIdx_nil]
  refine wpAny_bind (wpAny_bind (wpAny_onRaise ?_)); show wpAny _ _ (PySem.Builtin.SmallTypes.nextOf (.ref i1) >>= _) _ _ _
  refine wpAny_bind (wpAny_nextOf_list_item (g1.extBut ex1.extBut (Ne.symm z1)) (e1.extBut ex1.extBut l1z) hx fun t2 g1' ex2 => wpAny_pure ?_)
  have gO2 : IsTri t2 TO a b c := ex2.extBut _ _ O1 (ex1.extBut _ _ (Ne.symm zTO) gO)
  refine wpAny_bind (wpAny_seqItems gO2 rfl (wpAny_bind (tri_put gO2 fun t3 gO3 ex3 => ?_)))
  replace gO3 : IsTri t3 TO x b c := gO3
  refine wpAny_bind (wpAny_letGo (wpAny_pure (wpAny_bind (wpAny_bind (wpAny_onRaise ?_))))); show wpAny _ _ (PySem.Builtin.SmallTypes.nextOf (.ref i2) >>= _) _ _ _
  have up3 : ∀ d o, d ≠ z → d ≠ TO → d ≠ i1 → s.heap.get? d = some o → t3.get? d = some o := fun d o d1 d2 d3 r => ex3.extBut _ _ d2 (ex2.extBut _ _ d3 (ex1.extBut _ _ d1 r))
  refine wpAny_bind (wpAny_nextOf_list_item (g2.at fun o r => up3 _ o (Ne.symm z2) (Ne.symm O2) (Ne.symm n12) r) (e2.at fun o r => up3 _ o l2z l2O l21 r) hy fun t4 g2' ex4 => wpAny_pure ?_)
  have gO4 : IsTri t4 TO x b c := ex4.extBut _ _ O2 gO3
  refine wpAny_bind (wpAny_seqItems gO4 rfl (wpAny_bind (tri_put gO4 fun t5 gO5 ex5 => ?_)))
  replace gO5 : IsTri t5 TO x y c := gO5
  refine wpAny_bind (wpAny_letGo (wpAny_pure (wpAny_bind (wpAny_bind (wpAny_onRaise ?_))))); show wpAny _ _ (PySem.Builtin.SmallTypes.nextOf (.ref i3) >>= _) _ _ _
  have up5 : ∀ d o, d ≠ z → d ≠ TO → d ≠ i1 → d ≠ i2 → s.heap.get? d = some o → t5.get? d = some o := fun d o d1 d2 d3 d4 r => ex5.extBut _ _ d2 (ex4.extBut _ _ d4 (up3 d o d1 d2 d3 r))
  refine wpAny_bind (wpAny_nextOf_list_item (g3.at fun o r => up5 _ o (Ne.symm z3) (Ne.symm O3) (Ne.symm n13) (Ne.symm n23) r) (e3.at fun o r => up5 _ o l3z l3O l31 l32 r) hu fun t6 g3' ex6 => wpAny_pure ?_)
  have gO6 : IsTri t6 TO x y c := ex6.extBut _ _ O3 gO5
  refine wpAny_bind (wpAny_seqItems gO6 rfl (wpAny_bind (tri_put gO6 fun t7 gO7 ex7 => ?_)))
  replace gO7 : IsTri t7 TO x y u := gO7
  refine wpAny_bind (wpAny_letGo (wpAny_pure (wpAny_pure (wpAny_bind (wpAny_seqItems gO7 rfl (wpAny_bind (wpAny_newTuple ?_)))))))
  have sz7 : t7.objs.size = s.heap.objs.size := by rw [ex7.1, ex6.1, ex5.1, ex4.1, ex3.1, ex2.1, ex1.1]
  have gz7 : IsZip t7 z TI TO .ellipsis := ex7.extBut _ _ zTO (ex6.extBut _ _ z3 (ex5.extBut _ _ zTO (ex4.extBut _ _ z2 (ex3.extBut _ _ zTO (ex2.extBut _ _ z1 gz1)))))
  have up7 : ∀ d o, d ≠ z → d ≠ TO → d ≠ i1 → d ≠ i2 → d ≠ i3 → s.heap.get? d = some o → t7.get? d = some o := fun d o d1 d2 d3 d4 d5 r => ex7.extBut _ _ d2 (ex6.extBut _ _ d5 (up5 d o d1 d2 d3 d4 r))
  have g17 : t7.IsListIter i1 l1 (k + 1) := ((((g1'.extBut ex3.extBut (Ne.symm O1)).extBut ex4.extBut n12).extBut ex5.extBut (Ne.symm O1)).extBut ex6.extBut n13).extBut ex7.extBut (Ne.symm O1)
  have g27 : t7.IsListIter i2 l2 (k + 1) := ((g2'.extBut ex5.extBut (Ne.symm O2)).extBut ex6.extBut n23).extBut ex7.extBut (Ne.symm O2)
  have g37 : t7.IsListIter i3 l3 (k + 1) := g3'.extBut ex7.extBut (Ne.symm O3)
  have ltz : z < t7.objs.size := Heap.lt_size gz7
  show wpAny _ _ (PySem.Builtin.SmallTypes.ownedTupleHandOut (.ref z) (.ref t7.objs.size) >>= _) _ _ _
  refine wpAny_bind ?_; unfold Builtin.SmallTypes.ownedTupleHandOut
  have gz8 : IsZip (t7.push { cls := .type "tuple", data := .seq #[x, y, u] }) z TI TO .ellipsis := Heap.get?_push_of_some _ gz7
  refine wpAny_bind (wpAny_setField_rec gz8 (by simp) fun t9 gz9 ex9 => ?_)
  replace gz9 : IsZip t9 z TI TO (rawInt t7.objs.size) := gz9
  refine wpAny_setField_rec gz9 (by simp) fun t10 gz10 ex10 => ?_
  replace gz10 : IsZip t10 z TI TO (rawInt t7.objs.size) := gz10
  have up10 : ∀ d o, d ≠ z → t7.get? d = some o → t10.get? d = some o := fun d o d1 r => ex10.extBut _ _ d1 (ex9.extBut _ _ d1 (Heap.get?_push_of_some _ r))
  have gT10 : IsTri t10 t7.objs.size x y u := ex10.extBut _ _ (Nat.ne_of_gt ltz) (ex9.extBut _ _ (Nat.ne_of_gt ltz) (Heap.get?_push_size _ rfl))
  have sz10 : t10.objs.size = t7.objs.size + 1 := by rw [ex10.1, ex9.1, Heap.size_push]
  rw [sz7] at gz10 gT10 sz10
  refine wpAny_pure ⟨_, rfl, ?_⟩
  show Q (.ref t7.objs.size) _
  rw [sz7]
  exact q t10 gz10 (up10 _ _ (Ne.symm zTO) gO7) (g17.at fun o r => up10 _ o (Ne.symm z1) r) (g27.at fun o r => up10 _ o (Ne.symm z2) r) (g37.at fun o r => up10 _ o (Ne.symm z3) r) gT10 sz10 fun d o d1 d2 d3 d4 d5 r => up10 d o d1 (up7 d o d1 d2 d3 d4 d5 r)
/-- the first list is at its end -/
theorem z3_end {z TI TO i1 i2 i3 l1 l2 l3 : Addr} {k : Nat} {xs : Array Value} {Q : Fin → Shared → Prop} (hh : A.handled = none) (D : Apart3 z TI TO i1 i2 i3 l1 l2 l3)
    (gz : IsZip s.heap z TI TO .none) (gI : IsTri s.heap TI (.ref i1) (.ref i2) (.ref i3))
    (g1 : s.heap.IsListIter i1 l1 k) (e1 : s.heap.IsList l1 xs) (hx : xs[k]? = none)
    (q : ∀ h' e, (∀ c o, c ≠ z → c ≠ i1 → s.heap.get? c = some o → h'.get? c = some o) → (∃ o, h'.get? e = some o ∧ o.cls = .type "StopIteration") → E (.ref e) { s with heap := h' }) :
    wpAny (model prog w) A (Builtin.«zip.__next__» ⟨[.ref z], []⟩) Q E s := by
  obtain ⟨nd, li⟩ := D
  simp only [List.nodup_cons, List.mem_cons, List.mem_nil_iff, or_false, not_or, List.nodup_nil, and_true, not_false_eq_true] at nd
  obtain ⟨⟨zTI, zTO, z1, z2, z3⟩, _⟩ := nd
  obtain ⟨l1z, l1O, l11, l12, l13⟩ := li l1 (by simp)
  show wpAny _ _ (PySem.field (.ref z) 2 >>= _) _ _ _
  refine wpAny_bind (wpAny_field gz rfl (x := .bool false) rfl ?_)
  show wpAny _ _ (PySem.field (.ref z) 3 >>= _) _ _ _
  refine wpAny_bind (wpAny_field gz rfl (x := .ref TI) rfl (wpAny_bind (wpAny_seqItems gI rfl ?_)))
  show wpAny _ _ (PySem.Builtin.SmallTypes.ownedTupleIsFree (.ref z) >>= _) _ _ _
  refine wpAny_bind ?_; unfold Builtin.SmallTypes.ownedTupleIsFree
  refine wpAny_bind (wpAny_field gz rfl (x := .none) rfl (wpAny_pure ?_)); simp only [if_true]
  refine wpAny_bind (wpAny_rule (wpAny_bind (wpAny_field gz rfl (x := .ref TO) rfl (wpAny_bind (wpAny_setField_rec gz (by simp) fun t1 gz1 ex1 => ?_)))))
  replace gz1 : IsZip t1 z TI TO .ellipsis := gz1
  refine wpAny_bind ?_; simp only [List.forIn_cons, List.forIn_nil, List.zipIdx_cons, List.zipIdx_nil]
  refine wpAny_bind (wpAny_bind (wpAny_onRaise ?_)); show wpAny _ _ (PySem.Builtin.SmallTypes.nextOf (.ref i1) >>= _) _ _ _
  refine wpAny_bind (wpAny_nextOf_list_end hh (g1.extBut ex1.extBut (Ne.symm z1)) (e1.extBut ex1.extBut l1z) hx fun t2 e ex2 he => ?_)
  obtain ⟨oe, e2, ec⟩ := he
  have gz2 : IsZip t2 z TI TO .ellipsis := ex2 _ _ z1 gz1
  have nez : e ≠ z := fun r => by subst r; rw [gz2] at e2; cases e2; simp at ec
  refine wpAny_setField_rec gz2 (by simp) fun t3 _ ex3 => q t3 e (fun d o d1 d2 r => ex3.extBut _ _ d1 (ex2 _ _ d2 (ex1.extBut _ _ d1 r))) ⟨oe, ex3.extBut _ _ nez e2, ec⟩
theorem z3_nextItem {z TI TO i1 i2 i3 l1 l2 l3 : Addr} {k : Nat} {xs ys us : Array Value} {x y u a b c : Value} {Q : Option Value → Shared → Prop} (D : Apart3 z TI TO i1 i2 i3 l1 l2 l3)
    (gz : IsZip s.heap z TI TO .none) (gI : IsTri s.heap TI (.ref i1) (.ref i2) (.ref i3)) (gO : IsTri s.heap TO a b c)
    (g1 : s.heap.IsListIter i1 l1 k) (g2 : s.heap.IsListIter i2 l2 k) (g3 : s.heap.IsListIter i3 l3 k) (e1 : s.heap.IsList l1 xs) (e2 : s.heap.IsList l2 ys) (e3 : s.heap.IsList l3 us) (hx : xs[k]? = some x) (hy : ys[k]? = some y) (hu : us[k]? = some u)
    (q : ∀ h', IsZip h' z TI TO (rawInt s.heap.objs.size) → IsTri h' TO x y u → h'.IsListIter i1 l1 (k + 1) → h'.IsListIter i2 l2 (k + 1) → h'.IsListIter i3 l3 (k + 1) → IsTri h' s.heap.objs.size x y u → h'.objs.size = s.heap.objs.size + 1 →
      (∀ c o, c ≠ z → c ≠ TO → c ≠ i1 → c ≠ i2 → c ≠ i3 → s.heap.get? c = some o → h'.get? c = some o) → Q (some (.ref s.heap.objs.size)) { s with heap := h' }) :
    wpAny (model prog w) A (pyNext (.ref z)) Q E s := by
  have ty : s.TypeIs (.ref z) "zip" := ⟨_, gz, rfl⟩
  unfold pyNext
  exact wpAny_bind (wpAny_attempt (wpAny_callSpecial?_slot (name := Str.ofString "__next__") ty F.slot_zip_next
    (wpAny_call_entry F.slot_zip_next ty F.entry_zip_next (z3_item D gz gI gO g1 g2 g3 e1 e2 e3 hx hy hu fun h' a1 a2 a3 a4 a5 a6 a7 a8 => wpAny_pure (q h' a1 a2 a3 a4 a5 a6 a7 a8)) (F.args_zip_next_1 _))))
theorem z3_nextEnd {z TI TO i1 i2 i3 l1 l2 l3 : Addr} {k : Nat} {xs : Array Value} {Q : Option Value → Shared → Prop} (hh : A.handled = none) (D : Apart3 z TI TO i1 i2 i3 l1 l2 l3)
    (gz : IsZip s.heap z TI TO .none) (gI : IsTri s.heap TI (.ref i1) (.ref i2) (.ref i3)) (g1 : s.heap.IsListIter i1 l1 k) (e1 : s.heap.IsList l1 xs) (hx : xs[k]? = none)
    (q : ∀ h', (∀ c o, c ≠ z → c ≠ i1 → s.heap.get? c = some o → h'.get? c = some o) → Q none { s with heap := h' }) : wpAny (model prog w) A (pyNext (.ref z)) Q E s := by
  have ty : s.TypeIs (.ref z) "zip" := ⟨_, gz, rfl⟩
  unfold pyNext
  refine wpAny_bind (wpAny_attempt (wpAny_callSpecial?_slot (name := Str.ofString "__next__") ty F.slot_zip_next
    (wpAny_call_entry F.slot_zip_next ty F.entry_zip_next (z3_end hh D gz gI g1 e1 hx fun h' e kp he => ?_) (F.args_zip_next_1 _))))
  obtain ⟨o, ho, hc⟩ := he
  exact wpAny_bind (wpAny_isInstance (T := "StopIteration") (b := true) ⟨o, ho, hc⟩ isSubtype_stop (wpAny_pure (q _ kp)))
end
theorem tc_zip3 (a b c : Value) : checkTypeCall "zip" ⟨[a, b, c], []⟩ = pure () := by kernel_rfl
theorem nc_zip3 (a b c : Value) : checkBuiltinCall "zip.__new__" ⟨[.type "zip", a, b, c], []⟩ = pure () := by kernel_rfl
theorem ob_init4 (a b c d : Value) : argsOk "object.__init__" ⟨[a, b, c, d], []⟩ := by
  unfold argsOk; rw [signature?_of (id := "object.__init__") (o := ['t', 'c', 'e', 'j', 'b', 'o']) (n := ['_', '_', 't', 'i', 'n', 'i', '_', '_']) (by kernel_rfl) F.owner_object]; kernel_rfl
abbrev pIter (h : Heap) (l : Addr) : Heap := h.push { cls := .type "list_iterator", data := .fields #[.ref l, .int 0 0] }
abbrev zT3 (h : Heap) (l1 l2 l3 : Addr) : Heap := (pIter (pIter (pIter h l1) l2) l3).push { cls := .type "tuple", data := .seq #[.ref h.objs.size, .ref (pIter h l1).objs.size, .ref (pIter (pIter h l1) l2).objs.size] }
abbrev zO3 (h : Heap) (l1 l2 l3 : Addr) : Heap := (zT3 h l1 l2 l3).push { cls := .type "tuple", data := .seq #[.none, .none, .none] }
abbrev zZ3 (h : Heap) (l1 l2 l3 : Addr) : Heap := (zO3 h l1 l2 l3).push { cls := .type "zip", data := .fields #[.none, .bool false, .bool false, .ref (pIter (pIter (pIter h l1) l2) l3).objs.size, .ref (zT3 h l1 l2 l3).objs.size] }
theorem new_zip3 (l1 l2 l3 : Addr) (xs ys us : Array Value) :
    Meets (Builtin.«zip.__new__» ⟨[.type "zip", .ref l1, .ref l2, .ref l3], []⟩) (fun _ R s => s.heap.IsList l1 xs ∧ s.heap.IsList l2 ys ∧ s.heap.IsList l3 us ∧
      R (.ok (.ret (.ref (zO3 s.heap l1 l2 l3).objs.size))) { s with heap := zZ3 s.heap l1 l2 l3 }) :=
  .of_wp fun prog w A R s h => by
    obtain ⟨hp, g, d, tk, os⟩ := s
    obtain ⟨f1, f2, f3, h⟩ := h
    have su := sub_zip
    have L1 : Heap.IsList (Shared.heap ⟨hp, g, d, tk, os⟩) l1 xs := f1
    have L2 : Heap.IsList (Shared.heap ⟨pIter hp l1, g, d, tk, os⟩) l2 ys := Heap.IsList.push f2 _
    have L3 : Heap.IsList (Shared.heap ⟨pIter (pIter hp l1) l2, g, d, tk, os⟩) l3 us := Heap.IsList.push (Heap.IsList.push f3 _) _
    wp_walk using wpAny_pyIter_list L1, wpAny_pyIter_list L2, wpAny_pyIter_list L3
    exact ⟨_, rfl, h⟩
section
variable {prog : Program} {w : World} {A : Around} {E : Value → Shared → Prop} {s : Shared}
theorem call_zip3 {l1 l2 l3 : Addr} {xs ys us : Array Value} {Q : Value → Shared → Prop} (f1 : s.heap.IsList l1 xs) (f2 : s.heap.IsList l2 ys) (f3 : s.heap.IsList l3 us)
    (q : ∀ h', IsZip h' (s.heap.objs.size + 5) (s.heap.objs.size + 3) (s.heap.objs.size + 4) .none → IsTri h' (s.heap.objs.size + 3) (.ref s.heap.objs.size) (.ref (s.heap.objs.size + 1)) (.ref (s.heap.objs.size + 2)) →
      IsTri h' (s.heap.objs.size + 4) .none .none .none → h'.IsListIter s.heap.objs.size l1 0 → h'.IsListIter (s.heap.objs.size + 1) l2 0 → h'.IsListIter (s.heap.objs.size + 2) l3 0 →
      (∀ c o, s.heap.get? c = some o → h'.get? c = some o) → Q (.ref (s.heap.objs.size + 5)) { s with heap := h' }) :
    wpAny (model prog w) A (call (.type "zip") [.ref l1, .ref l2, .ref l3]) Q E s := by
  refine callType_new F.called_zip (by decide) (tc_zip3 _ _ _) (nc_zip3 _ _ _) (fun obj => ob_init4 obj _ _ _) F.entry_zip_new (new_zip3 l1 l2 l3 xs ys us) ⟨f1, f2, f3, ?_⟩
  have y1 : (pIter s.heap l1).objs.size = s.heap.objs.size + 1 := Heap.size_push ..
  have y2 : (pIter (pIter s.heap l1) l2).objs.size = s.heap.objs.size + 2 := by rw [Heap.size_push, y1]
  have y3 : (pIter (pIter (pIter s.heap l1) l2) l3).objs.size = s.heap.objs.size + 3 := by rw [Heap.size_push, y2]
  have y4 : (zT3 s.heap l1 l2 l3).objs.size = s.heap.objs.size + 4 := by rw [Heap.size_push, y3]
  have y5 : (zO3 s.heap l1 l2 l3).objs.size = s.heap.objs.size + 5 := by rw [Heap.size_push, y4]
  have p6 : (zZ3 s.heap l1 l2 l3).get? (zO3 s.heap l1 l2 l3).objs.size = some _ := Heap.get?_push_size _ rfl
  have p5 : (zZ3 s.heap l1 l2 l3).get? (zT3 s.heap l1 l2 l3).objs.size = some _ := Heap.get?_push_of_some _ (Heap.get?_push_size _ rfl)
  have p4 : (zZ3 s.heap l1 l2 l3).get? (pIter (pIter (pIter s.heap l1) l2) l3).objs.size = some _ := Heap.get?_push_of_some _ (Heap.get?_push_of_some _ (Heap.get?_push_size _ rfl))
  have p3 : (zZ3 s.heap l1 l2 l3).get? (pIter (pIter s.heap l1) l2).objs.size = some _ := Heap.get?_push_of_some _ (Heap.get?_push_of_some _ (Heap.get?_push_of_some _ (Heap.get?_push_size _ rfl)))
  have p2 : (zZ3 s.heap l1 l2 l3).get? (pIter s.heap l1).objs.size = some _ := Heap.get?_push_of_some _ (Heap.get?_push_of_some _ (Heap.get?_push_of_some _ (Heap.get?_push_of_some _ (Heap.get?_push_size _ rfl))))
  have p1 : (zZ3 s.heap l1 l2 l3).get? s.heap.objs.size = some _ := Heap.get?_push_of_some _ (Heap.get?_push_of_some _ (Heap.get?_push_of_some _ (Heap.get?_push_of_some _ (Heap.get?_push_of_some _ (Heap.get?_push_size _ rfl)))))
  show _ ∧ _
  rw [y3, y4, y5] at p6
  rw [y4] at p5
  rw [y1, y2, y3] at p4
  rw [y2] at p3
  rw [y1] at p2
  rw [y5]
  exact ⟨⟨_, p6, rfl⟩, q _ p6 p4 p5 ⟨_, p1, rfl, rfl⟩ ⟨_, p2, rfl, rfl⟩ ⟨_, p3, rfl, rfl⟩ fun c o x =>
    Heap.get?_push_of_some _ (Heap.get?_push_of_some _ (Heap.get?_push_of_some _ (Heap.get?_push_of_some _ (Heap.get?_push_of_some _ (Heap.get?_push_of_some _ x)))))⟩
end
open PySem.Spec PyProof.Rows
def Itz3 (K : PySem.W.Frag) (a b d : Addr) : It :=
  ⟨fun i H => ∃ xs ys us x y u, SqL K H a xs ∧ SqL K H b ys ∧ SqL K H d us ∧ xs[i]? = some x ∧ ys[i]? = some y ∧ us[i]? = some u,
    fun i H x H' => ∃ T x1 y1 u1, (∀ xs, SqL K H a xs → xs[i]? = some x1) ∧ (∀ ys, SqL K H b ys → ys[i]? = some y1) ∧ (∀ us, SqL K H d us → us[i]? = some u1) ∧ H T = none ∧ x = .ref T ∧ H' = upd H T (.tup [x1, y1, u1]),
    fun i H => ∃ xs, SqL K H a xs ∧ xs.length ≤ i⟩
theorem turn_zip3 {P : Program} {w : World} {K : PySem.W.Frag} {elts : List Expr} {k : Nat} {pos : Pos} (a b d z TI TO i1 i2 i3 : Addr) (nd : [z, TI, TO, i1, i2, i3].Nodup) :
    Turn P w K (.Tuple elts k pos) (Itz3 K a b d) [z, TI, TO, i1, i2, i3] z (fun i h => IsZip h z TI TO .none ∧ IsTri h TI (.ref i1) (.ref i2) (.ref i3) ∧ (∃ u v x, IsTri h TO u v x) ∧ h.IsListIter i1 a i ∧ h.IsListIter i2 b i ∧ h.IsListIter i3 d i) where
  mem := by simp
  obj := fun i h st c hc => by
    obtain ⟨h1, h2, ⟨u, v, x, h3⟩, ⟨o4, h4, h4c, h4d⟩, ⟨o5, h5, h5c, h5d⟩, ⟨o6, h6, h6c, h6d⟩⟩ := st
    rcases List.mem_cons.mp hc with rfl | hc
    · exact ⟨_, h1, fun v z => by cases z⟩
    rcases List.mem_cons.mp hc with rfl | hc
    · exact ⟨_, h2, fun v z => by cases z⟩
    rcases List.mem_cons.mp hc with rfl | hc
    · exact ⟨_, h3, fun v z => by cases z⟩
    rcases List.mem_cons.mp hc with rfl | hc
    · exact ⟨o4, h4, fun v z => by rw [h4d] at z; cases z⟩
    rcases List.mem_cons.mp hc with rfl | hc
    · exact ⟨o5, h5, fun v z => by rw [h5d] at z; cases z⟩
    · have e : c = i3 := by simpa using hc
      subst e
      exact ⟨o6, h6, fun v z => by rw [h6d] at z; cases z⟩
  keep := fun i h h' st kk => by
    obtain ⟨h1, h2, ⟨u, v, x, h3⟩, ⟨o4, h4, h4r⟩, ⟨o5, h5, h5r⟩, ⟨o6, h6, h6r⟩⟩ := st
    exact ⟨kk z (by simp) _ h1, kk TI (by simp) _ h2, ⟨u, v, x, kk TO (by simp) _ h3⟩, ⟨o4, kk i1 (by simp) _ h4, h4r⟩, ⟨o5, kk i2 (by simp) _ h5, h5r⟩, ⟨o6, kk i3 (by simp) _ h6, h6r⟩⟩
  item := by
    intro X hP hw hK hc i pins s σ H E I hf st hg
    subst hP hw hK
    obtain ⟨xs, ys, us, x, y, t, hqx, hqy, hqt, hx, hy, ht⟩ := hg
    obtain ⟨its, rv, p, hz⟩ := I.list hqx
    obtain ⟨its2, rv2, p2, hz2⟩ := I.list hqy
    obtain ⟨its3, rv3, p3, hz3⟩ := I.list hqt
    obtain ⟨u, hu, ru⟩ := rv.get hx
    obtain ⟨v, hv, rw'⟩ := rv2.get hy
    obtain ⟨q, hq, rq⟩ := rv3.get ht
    obtain ⟨h1, h2, ⟨u0, v0, x0, h3⟩, h4, h5, h6⟩ := st
    obtain ⟨o4, g4, c4, _⟩ := id h4
    obtain ⟨o5, g5, c5, _⟩ := id h5
    obtain ⟨o6, g6, c6, _⟩ := id h6
    have lne : ∀ {l : Addr} {its : Array Value}, s.heap.IsList l its → l ≠ z ∧ l ≠ TO ∧ l ≠ i1 ∧ l ≠ i2 ∧ l ≠ i3 := fun hL => ⟨cls_ne hL h1 rfl (by decide), cls_ne hL h3 rfl (by decide), cls_ne hL g4 c4 (by decide), cls_ne hL g5 c5 (by decide), cls_ne hL g6 c6 (by decide)⟩
    have ap : Apart3 z TI TO i1 i2 i3 a b d := ⟨nd, fun l hl => by
      rcases List.mem_cons.mp hl with rfl | hl
      · exact lne p.isList
      rcases List.mem_cons.mp hl with rfl | hl
      · exact lne p2.isList
      · rw [show l = d by simpa using hl]; exact lne p3.isList⟩
    have nd' := nd
    simp only [List.nodup_cons, List.mem_cons, List.mem_nil_iff, or_false, not_or, List.nodup_nil, and_true, not_false_eq_true] at nd'
    obtain ⟨⟨zTI, zTO, z1, z2, z3⟩, ⟨ITO, I1, I2, I3⟩, _⟩ := nd'
    refine z3_nextItem ap h1 h2 h3 h4 h5 h6 p.isList p2.isList p3.isList (x := u) (y := v) (u := q) (by simpa using hu) (by simpa using hv) (by simpa using hq) fun h' k1 k2 k3 k4 k5 k6 k7 k8 => ⟨_, rfl, ?_⟩
    have hlz : z < s.heap.objs.size := Heap.lt_size h1
    have hlTO : TO < s.heap.objs.size := Heap.lt_size h3
    have hlTI : TI < s.heap.objs.size := Heap.lt_size h2
    have hl1 : i1 < s.heap.objs.size := Heap.lt_size g4
    have hl2 : i2 < s.heap.objs.size := Heap.lt_size g5
    have hl3 : i3 < s.heap.objs.size := Heap.lt_size g6
    refine wpAny_letOwnedTupleGo_zip k1 fun h2' q1 sb => ?_
    have keep : ∀ c o, c ≠ z → h'.get? c = some o → h2'.get? c = some o := fun c o hc e => (sb.2 c hc).trans e
    refine ⟨.ref s.heap.objs.size, upd H s.heap.objs.size (.tup [x, y, t]), ?_, rfl, ⟨s.heap.objs.size, x, y, t, fun ys' hy' => by rw [I.list_inj hy' hqx]; exact hx, fun ys' hy' => by rw [I.list_inj hy' hqy]; exact hy, fun ys' hy' => by rw [I.list_inj hy' hqt]; exact ht, I.hok.fresh (Nat.le_refl _), rfl, rfl⟩, ⟨q1, ?_, ⟨u, v, q, keep _ _ (Ne.symm zTO) k2⟩, ?_, ?_, ?_⟩, ?_⟩
    · refine I.turnedL (t' := s.toks) (ch := [z, TI, TO, i1, i2, i3]) (fun c ob hc q => ?_) hf (Nat.le_refl _) ?_ I.tk
      · simp only [List.mem_cons, List.mem_nil_iff, or_false, not_or] at hc
        exact keep _ _ hc.1 (k8 c ob hc.1 hc.2.2.1 hc.2.2.2.1 hc.2.2.2.2.1 hc.2.2.2.2.2 q)
      · refine ⟨by show 3 ≤ sizeLine; rw [sizeLine_eq]; decide, [u, v, q], .cons ru (.cons rw' (.cons rq .nil)), ?_⟩
        exact ⟨_, keep _ _ (Nat.ne_of_gt hlz) k6, rfl, 0, rfl⟩
    · exact keep _ _ (Ne.symm zTI) (k8 TI _ (Ne.symm zTI) ITO I1 I2 I3 h2)
    · obtain ⟨o, e, r⟩ := k3
      exact ⟨o, keep _ _ (Ne.symm z1) e, r⟩
    · obtain ⟨o, e, r⟩ := k4
      exact ⟨o, keep _ _ (Ne.symm z2) e, r⟩
    · obtain ⟨o, e, r⟩ := k5
      exact ⟨o, keep _ _ (Ne.symm z3) e, r⟩
    · intro c hc
      have hlt : c < s.heap.objs.size := by
        simp only [List.mem_cons, List.mem_nil_iff, or_false] at hc
        rcases hc with rfl | rfl | rfl | rfl | rfl | rfl
        · exact hlz
        · exact hlTI
        · exact hlTO
        · exact hl1
        · exact hl2
        · exact hl3
      rw [upd_ne (Nat.ne_of_lt hlt)]
      exact (hf c hc).1
  done := by
    intro X hP hw hK hc i pins s σ H E I hf st hg
    subst hP hw hK
    obtain ⟨xs, hqx, hx⟩ := hg
    obtain ⟨its, rv, p, hz⟩ := I.list hqx
    obtain ⟨h1, h2, ⟨u0, v0, x0, h3⟩, h4, h5, h6⟩ := st
    obtain ⟨o4, g4, c4, _⟩ := id h4
    obtain ⟨o5, g5, c5, _⟩ := id h5
    obtain ⟨o6, g6, c6, _⟩ := id h6
    have ap : Apart3 z TI TO i1 i2 i3 a a a := ⟨nd, fun l hl => by
      have e : l = a := by simpa using hl
      subst e
      exact ⟨cls_ne p.isList h1 rfl (by decide), cls_ne p.isList h3 rfl (by decide), cls_ne p.isList g4 c4 (by decide), cls_ne p.isList g5 c5 (by decide), cls_ne p.isList g6 c6 (by decide)⟩⟩
    have e1 := rv.length
    refine z3_nextEnd (I.ok.hd hc) ap h1 h2 h4 p.isList (by simp; omega) fun h' kp => ⟨rfl, I.turnedL0 (t' := s.toks) (ch := [z, TI, TO, i1, i2, i3]) (fun c ob hc q => ?_) hf I.tk⟩
    simp only [List.mem_cons, List.mem_nil_iff, or_false, not_or] at hc
    exact kp c ob hc.1 hc.2.2.2.1 q
  self := fun _ _ _ _ _ st h => wpAny_pyIter_zip st.1 h
section
variable {X : Cx}
def iZip3 (K : PySem.W.Frag) (ta : TA) : TI := fun σ H R => ta σ H fun vs H1 => ∃ a b d, vs = [.ref a, .ref b, .ref d] ∧ (∃ xs, SqL K H1 a xs) ∧ (∃ ys, SqL K H1 b ys) ∧ (∃ us, SqL K H1 d us) ∧ R (Itz3 K a b d) H1
theorem pi_zip3 {l l2 l3 : Expr} {ta : TA} {p pos : Pos} {elts : List Expr} {k : Nat} {pos' : Pos} (hg : Gl X "zip") (hm : X.mg "zip" = none) (ha : PA X [l, l2, l3] ta) (hs : starEach [l, l2, l3] X.env = (false, eval l X.env) :: starEach [l2, l3] X.env) (hs2 : (backTo pos (starEach [l2, l3] X.env)).any (·.1) = false) :
    PI X (.Tuple elts k pos') (.Call (.Name "zip" p) [l, l2, l3] [] pos) (iZip3 X.K ta) := by
  intro pins s σ H R I h
  refine Call_ (ld_blt I hg hm boot_zip (PyProof.Rows.callWith_type1 (thn (ha pos pins s σ H _ I h) fun us s1 ⟨vs, H1, I1, r1, q1⟩ => ?_) hs hs2))
  obtain ⟨a, b, d, e, ⟨xs, hqa⟩, ⟨ys, hqb⟩, ⟨zs, hqd⟩, q⟩ := q1
  subst e
  obtain ⟨u, v, t, rfl, ru, rv, rt⟩ : ∃ u v t, us = [u, v, t] ∧ RelV (.ref a) u ∧ RelV (.ref b) v ∧ RelV (.ref d) t := by
    cases r1 with
    | cons p q =>
      cases q with
      | cons p' q' =>
        cases q' with
        | cons p'' q'' =>
          cases q''
          exact ⟨_, _, _, rfl, p, p', p''⟩
  cases ru
  cases rv
  cases rt
  obtain ⟨its, _, pl, _⟩ := I1.list hqa
  obtain ⟨its2, _, pl2, _⟩ := I1.list hqb
  obtain ⟨its3, _, pl3, _⟩ := I1.list hqd
  refine call_zip3 pl.isList pl2.isList pl3.isList fun h' g1 g2 g3 g4 g5 g6 g7 => ?_
  refine wpAny_pyIter_zip g1 ?_
  generalize hn : s1.heap.objs.size = n at *
  refine ⟨n + 5, [n + 5, n + 3, n + 4, n, n + 1, n + 2], _, _, H1, rfl, I1.kept (t' := s1.toks) g7, turn_zip3 a b d (n + 5) (n + 3) (n + 4) n (n + 1) (n + 2) ?_, ⟨g1, g2, ⟨_, _, _, g3⟩, g4, g5, g6⟩, fun c hc => ?_, q⟩
  · simp only [List.nodup_cons, List.mem_cons, List.mem_nil_iff, or_false, not_or, List.nodup_nil, and_true, not_false_eq_true]
    refine ⟨⟨?_, ?_, ?_, ?_, ?_⟩, ⟨?_, ?_, ?_, ?_⟩, ⟨?_, ?_, ?_⟩, ⟨?_, ?_⟩, ?_⟩ <;> (intro z; have z : (_ : Nat) = _ := z; omega)
  have hb' : s1.heap.objs.size ≤ c := by
    rw [hn]
    simp only [List.mem_cons, List.mem_nil_iff, or_false] at hc
    rcases hc with rfl | rfl | rfl | rfl | rfl | rfl <;> first | exact Nat.le_add_right _ _ | exact Nat.le_refl _
  exact I1.fpOk hb' (I1.hok.fresh hb')
theorem xiz3 {l l2 l3 : Expr} {t : TA} {p pos : Pos} {elts : List Expr} {k : Nat} {pos' : Pos} (hm : X.mg "zip" = none) (ha : XA X [l, l2, l3] t) (hg : Gl X "zip" := by exact rfl) (h : isStar l = false := by rfl) (h2 : isStar l2 = false := by rfl) (h3 : isStar l3 = false := by rfl) : XI X (.Tuple elts k pos') (.Call (.Name "zip" p) [l, l2, l3] [] pos) (iZip3 X.K t) :=
  ⟨pi_zip3 hg hm ha.h (star_cons h) (by rw [star_cons h2, star_cons h3]; rfl)⟩
end
end L2

set_option Elab.async false
set_option linter.all false
set_option maxRecDepth 100000
/-! Comprehensions over a list while the tape at t goes on, by c at most for each. -/
namespace L2
open PySem PySem.Spec PyProof.Rows
/-- all but t is kept -/
def KeepX (t : Addr) (H H' : Hp) : Prop := ∀ b o, b ≠ t → H b = some o → H' b = some o
theorem KeepX.trans {t : Addr} {H H1 H2 : Hp} (a : KeepX t H H1) (b : KeepX t H1 H2) : KeepX t H H2 := fun c o n h => b c o n (a c o n h)
/-- values of a sort -/
theorem lc_tapeP {K : PySem.W.Frag} {a : Addr} {xs : List V} {k : Nat} {fr : List Nat} {g : TG} {tt : TT} {te : TE} {σ : St} {H0 : Hp} {Q : Addr → Hp → Prop} (t : Addr) (m0 c : Int) (Pr : V → Prop) (hc : 0 ≤ c) (h0 : H0 t = some (.lst [.int m0])) (hx : ∀ H, KeepX t H0 H → SqL K H a xs) (hl : xs.length ≤ sizeLine)
    (ht : ∀ (i : Nat) x, xs[i]? = some x → ∀ (m : Int) H', KeepX t H0 H' → H' t = some (.lst [.int m]) → m0 ≤ m → m ≤ m0 + c * i → ∀ (C : V → Hp → Prop) (N : Hp → Prop), (∀ v (m' : Int) H4, KeepX t H' H4 → H4 t = some (.lst [.int m']) → m ≤ m' → m' ≤ m + c → Pr v → C v H4) →
      g x (nfS k fr σ) H' fun σ2 H2 => nfLe k fr σ σ2 ∧ tt σ2 H2 fun b H3 => if b = true then te σ2 H3 C else N H3)
    (hq : ∀ D H' ys (m' : Int), H0 D = none → KeepX t H0 H' → H' t = some (.lst [.int m']) → m0 ≤ m' → m' ≤ m0 + c * xs.length → H' D = some (.lst ys) → ys.length = xs.length → (∀ y ∈ ys, Pr y) → Q D H') : rLC k fr g tt te σ (Itl K a) H0 Q := by
  intro D hD
  have hDt : D ≠ t := fun e => by rw [e, h0] at hD; cases hD
  refine ⟨fun i m acc H => m = xs.length - i ∧ i ≤ xs.length ∧ acc.length = i ∧ (∀ y ∈ acc, Pr y) ∧ H D = some (.lst acc) ∧ KeepX t H0 H ∧ ∃ m' : Int, H t = some (.lst [.int m']) ∧ m0 ≤ m' ∧ m' ≤ m0 + c * (i : Nat),
    ⟨xs.length, by simp, Nat.zero_le _, rfl, (fun _ z => nomatch z), upd_same, fun b o _ hb => same_new hD _ _ _ hb, m0, (upd_ne (Ne.symm hDt)).trans h0, Int.le_refl _, by simp⟩, ?_⟩
  rintro i m acc H ⟨rfl, hi, ha, hP, hDa, sm, m', et, l1, l2⟩
  refine ⟨hDa, ?_⟩
  by_cases hlt : i < xs.length
  · refine .inr ⟨⟨xs, xs[i], hx H sm, by simp [hlt]⟩, fun x H' y => ?_⟩
    obtain ⟨e, y⟩ := y
    rw [e]
    refine ht i x (y xs (hx H sm)) m' _ sm et l1 l2 _ _ fun v m2 H4 s4 et4 l3 l4 pv => ?_
    refine ⟨s4 _ _ hDt hDa, by omega, xs.length - (i + 1), by omega, rfl, hlt, by rw [List.length_append, ha]; rfl, ?_, upd_same, ?_, m2, (upd_ne (Ne.symm hDt)).trans et4, by omega, ?_⟩
    · intro z hz
      rcases List.mem_append.mp hz with hz | hz
      · exact hP z hz
      · rw [show z = v by simpa using hz]; exact pv
    · intro b o nb hb
      rw [upd_ne (fun z => by rw [z, hD] at hb; cases hb)]
      exact (sm.trans s4) b o nb hb
    · have e2 : ((i + 1 : Nat) : Int) = (i : Nat) + 1 := by omega
      rw [e2, Int.mul_add, Int.mul_one]
      omega
  · have e : i = xs.length := by omega
    subst e
    exact .inl ⟨⟨xs, hx H sm, Nat.le_refl _⟩, hq D H acc m' hD sm et l1 l2 hDa ha hP⟩
/-- a new list for each -/
theorem lc_tapeL {K : PySem.W.Frag} {a : Addr} {xs : List V} {k : Nat} {fr : List Nat} {g : TG} {tt : TT} {te : TE} {σ : St} {H0 : Hp} {Q : Addr → Hp → Prop} (t : Addr) (m0 c : Int) (G : Nat → List V → Prop) (hc : 0 ≤ c) (h0 : H0 t = some (.lst [.int m0])) (hx : ∀ H, KeepX t H0 H → SqL K H a xs) (hl : xs.length ≤ sizeLine)
    (ht : ∀ (i : Nat) x, xs[i]? = some x → ∀ (m : Int) H', KeepX t H0 H' → H' t = some (.lst [.int m]) → m0 ≤ m → m ≤ m0 + c * i → ∀ (C : V → Hp → Prop) (N : Hp → Prop), (∀ b ys (m' : Int) H4, H' b = none → KeepX t H' H4 → H4 t = some (.lst [.int m']) → m ≤ m' → m' ≤ m + c → H4 b = some (.lst ys) → G i ys → C (.ref b) H4) →
      g x (nfS k fr σ) H' fun σ2 H2 => nfLe k fr σ σ2 ∧ tt σ2 H2 fun b H3 => if b = true then te σ2 H3 C else N H3)
    (hq : ∀ D H' (bs : List Addr) (m' : Int), H0 D = none → KeepX t H0 H' → H' t = some (.lst [.int m']) → m0 ≤ m' → m' ≤ m0 + c * xs.length → H' D = some (.lst (bs.map V.ref)) → bs.length = xs.length → (∀ (i : Nat) b, bs[i]? = some b → H0 b = none ∧ b ≠ D ∧ ∃ ys, H' b = some (.lst ys) ∧ G i ys) → Q D H') : rLC k fr g tt te σ (Itl K a) H0 Q := by
  intro D hD
  have hDt : D ≠ t := fun e => by rw [e, h0] at hD; cases hD
  refine ⟨fun i m acc H => m = xs.length - i ∧ i ≤ xs.length ∧ H D = some (.lst acc) ∧ KeepX t H0 H ∧ (∃ m' : Int, H t = some (.lst [.int m']) ∧ m0 ≤ m' ∧ m' ≤ m0 + c * (i : Nat)) ∧ ∃ bs : List Addr, acc = bs.map V.ref ∧ bs.length = i ∧ ∀ (j : Nat) b, bs[j]? = some b → H0 b = none ∧ b ≠ D ∧ b ≠ t ∧ ∃ ys, H b = some (.lst ys) ∧ G j ys,
    ⟨xs.length, by simp, Nat.zero_le _, upd_same, fun b o _ hb => same_new hD _ _ _ hb, ⟨m0, (upd_ne (Ne.symm hDt)).trans h0, Int.le_refl _, by simp⟩, [], rfl, rfl, fun j b h => by simp at h⟩, ?_⟩
  rintro i m acc H ⟨rfl, hi, hDa, sm, ⟨m', et, l1, l2⟩, bs, rfl, hbl, pr⟩
  refine ⟨hDa, ?_⟩
  by_cases hlt : i < xs.length
  · refine .inr ⟨⟨xs, xs[i], hx H sm, by simp [hlt]⟩, fun x H' y => ?_⟩
    obtain ⟨e, y⟩ := y
    rw [e]
    refine ht i x (y xs (hx H sm)) m' _ sm et l1 l2 _ _ fun b ys m2 H4 hb s4 et4 l3 l4 eb gb => ?_
    have hbD : b ≠ D := fun z => by rw [z, hDa] at hb; cases hb
    have hbt : b ≠ t := fun z => by rw [z, et] at hb; cases hb
    have hb0 : H0 b = none := by
      cases q : H0 b with
      | none => rfl
      | some o => rw [sm b o hbt q] at hb; cases hb
    refine ⟨s4 _ _ hDt hDa, by rw [List.length_map, hbl]; omega, xs.length - (i + 1), by omega, rfl, hlt, upd_same, ?_, ⟨m2, (upd_ne (Ne.symm hDt)).trans et4, by omega, ?_⟩, bs ++ [b], by rw [List.map_append]; rfl, by rw [List.length_append, hbl]; rfl, fun j d hd => ?_⟩
    · intro b' o nb hb'
      rw [upd_ne (fun z => by rw [z, hD] at hb'; cases hb')]
      exact (sm.trans s4) b' o nb hb'
    · have e2 : ((i + 1 : Nat) : Int) = (i : Nat) + 1 := by omega
      rw [e2, Int.mul_add, Int.mul_one]
      omega
    · by_cases hj : j < bs.length
      · rw [List.getElem?_append_left hj] at hd
        obtain ⟨h1, h2, h3, zs, h4, h5⟩ := pr j d hd
        exact ⟨h1, h2, h3, zs, by rw [upd_ne h2]; exact s4 _ _ h3 h4, h5⟩
      · rw [List.getElem?_append_right (by omega)] at hd
        obtain ⟨hj0, _⟩ := List.getElem?_eq_some_iff.mp hd
        have hji : j = i := by simp at hj0; omega
        subst hji
        have hdb : d = b := by
          rw [hbl, Nat.sub_self] at hd
          exact (Option.some.inj hd).symm
        subst hdb
        exact ⟨hb0, hbD, hbt, ys, by rw [upd_ne hbD]; exact eb, gb⟩
  · have e : i = xs.length := by omega
    refine .inl ⟨⟨xs, hx H sm, by omega⟩, hq D H bs m' hD sm et l1 (by rw [← e]; exact l2) hDa (by omega) fun j b h => ?_⟩
    obtain ⟨h1, h2, _, r⟩ := pr j b h
    exact ⟨h1, h2, r⟩
end L2

set_option Elab.async false
set_option linter.all false
set_option maxRecDepth 100000
/-! Comprehensions over any iterator: new lists, values by places; a def of the top as a value. -/
namespace L2
open PySem PySem.Spec PyProof.Rows
theorem lc_listsJ {J : It} {k : Nat} {fr : List Nat} {g : TG} {tt : TT} {te : TE} {σ : St} {H0 : Hp} {Q : Addr → Hp → Prop} (n : Nat) (G : Nat → List V → Prop) (hl : n ≤ sizeLine) (hgo : ∀ i H, i < n → Same H0 H → J.go i H) (hst : ∀ H, Same H0 H → J.stop n H)
    (ht : ∀ i H x H', i < n → Same H0 H → J.yld i H x H' → Same H H' ∧ ∀ (C : V → Hp → Prop) (N : Hp → Prop), (∀ b ys H4, H' b = none → Same H' H4 → H4 b = some (.lst ys) → G i ys → C (.ref b) H4) →
      g x (nfS k fr σ) H' fun σ2 H2 => nfLe k fr σ σ2 ∧ tt σ2 H2 fun b H3 => if b = true then te σ2 H3 C else N H3)
    (hq : ∀ D H' (bs : List Addr), H0 D = none → Same H0 H' → H' D = some (.lst (bs.map V.ref)) → bs.length = n → (∀ (i : Nat) b, bs[i]? = some b → ∃ ys, H' b = some (.lst ys) ∧ G i ys) → Q D H') : rLC k fr g tt te σ J H0 Q := by
  intro D hD
  refine ⟨fun i m acc H => m = n - i ∧ i ≤ n ∧ Same H0 H ∧ H D = some (.lst acc) ∧ ∃ bs : List Addr, acc = bs.map V.ref ∧ bs.length = i ∧ ∀ (j : Nat) b, bs[j]? = some b → b ≠ D ∧ ∃ ys, H b = some (.lst ys) ∧ G j ys,
    ⟨n, by simp, Nat.zero_le _, same_new hD _, upd_same, [], rfl, rfl, fun j b h => by simp at h⟩, ?_⟩
  rintro i m acc H ⟨rfl, hi, sm, hDa, bs, rfl, hbl, pr⟩
  refine ⟨hDa, ?_⟩
  by_cases hlt : i < n
  · refine .inr ⟨hgo i H hlt sm, fun x H' y => ?_⟩
    obtain ⟨s1, h1⟩ := ht i H x H' hlt sm y
    refine h1 _ _ fun b ys H4 hb s4 eb gb => ?_
    have s5 := s1.trans s4
    have hbD : b ≠ D := fun z => by rw [z, s1 _ _ hDa] at hb; cases hb
    refine ⟨s5 _ _ hDa, by rw [List.length_map, hbl]; omega, n - (i + 1), by omega, rfl, hlt, same_grow hD (sm.trans s5), upd_same, bs ++ [b], by rw [List.map_append]; rfl, by rw [List.length_append, hbl]; rfl, fun j c hc => ?_⟩
    by_cases hj : j < bs.length
    · rw [List.getElem?_append_left hj] at hc
      obtain ⟨h1, zs, h2, h3⟩ := pr j c hc
      exact ⟨h1, zs, by rw [upd_ne h1]; exact s5 _ _ h2, h3⟩
    · rw [List.getElem?_append_right (by omega)] at hc
      obtain ⟨hj0, hj1⟩ := List.getElem?_eq_some_iff.mp hc
      have hji : j = i := by simp at hj0; omega
      subst hji
      have hcb : c = b := by
        rw [hbl, Nat.sub_self] at hc
        exact (Option.some.inj hc).symm
      subst hcb
      exact ⟨hbD, ys, by rw [upd_ne hbD]; exact eb, gb⟩
  · have e : i = n := by omega
    subst e
    exact .inl ⟨hst H sm, hq D H bs hD sm hDa hbl fun j b h => (pr j b h).2⟩
theorem lc_ixJ {J : It} {k : Nat} {fr : List Nat} {g : TG} {tt : TT} {te : TE} {σ : St} {H0 : Hp} {Q : Addr → Hp → Prop} (n : Nat) (f : Nat → V) (hl : n ≤ sizeLine) (hgo : ∀ i H, i < n → Same H0 H → J.go i H) (hst : ∀ H, Same H0 H → J.stop n H)
    (ht : ∀ i H x H', i < n → Same H0 H → J.yld i H x H' → Same H H' ∧ ∀ (C : V → Hp → Prop) (N : Hp → Prop), (∀ H4, Same H' H4 → C (f i) H4) →
      g x (nfS k fr σ) H' fun σ2 H2 => nfLe k fr σ σ2 ∧ tt σ2 H2 fun b H3 => if b = true then te σ2 H3 C else N H3)
    (hq : ∀ D H', H0 D = none → Same H0 H' → H' D = some (.lst ((List.range n).map f)) → Q D H') : rLC k fr g tt te σ J H0 Q := by
  intro D hD
  refine ⟨fun i m acc H => m = n - i ∧ i ≤ n ∧ Same H0 H ∧ H D = some (.lst acc) ∧ acc = (List.range i).map f, ⟨n, by simp, Nat.zero_le _, same_new hD _, upd_same, rfl⟩, ?_⟩
  rintro i m acc H ⟨rfl, hi, sm, hDa, rfl⟩
  refine ⟨hDa, ?_⟩
  by_cases hlt : i < n
  · refine .inr ⟨hgo i H hlt sm, fun x H' y => ?_⟩
    obtain ⟨s1, h1⟩ := ht i H x H' hlt sm y
    refine h1 _ _ fun H4 s4 => ?_
    have s5 := s1.trans s4
    exact ⟨s5 _ _ hDa, by rw [List.length_map, List.length_range]; omega, n - (i + 1), by omega, rfl, hlt, same_grow hD (sm.trans s5), upd_same, by rw [List.range_succ, List.map_append]; rfl⟩
  · have e : i = n := by omega
    subst e
    exact .inl ⟨hst H sm, hq D H hD sm hDa⟩
section
variable {X : Cx} {scope : Scope} {cl : List (Str × Addr)} {C : Addr} {N' : List Str} {fp : List Addr} {s : Shared} {H : Hp}
theorem call_len_seqC : CallR (compX X scope cl C N' fp s H) (.builtin "len") (fun xs H Q => ∃ p ys, xs = [.ref p] ∧ (SqL X.K H p ys ∨ SqT X.K H p ys) ∧ Q (.int ys.length) H) := call_len_seq (X := compX X scope cl C N' fp s H)
theorem call_list_ofC : CallR (compX X scope cl C N' fp s H) (.type "list") (fun xs H Q => ∃ p ys, xs = [.ref p] ∧ (SqL X.K H p ys ∨ SqT X.K H p ys) ∧ ∀ l, H l = none → Q (.ref l) (upd H l (.lst ys))) := call_list_of (X := compX X scope cl C N' fp s H)
end
/-- a def of the top, as a value -/
theorem fnv_top {P : Program} {w : World} {K : PySem.W.Frag} {mg : Str → Option Value} {base : Heap} {x : Str} {st : Stmt} {f : Addr} {fd : FuncData} {ps : List Str} {k : Nat} {sp : Sp} (F : Fun K x x st f fd) (o : FnOk P w K mg base CX0 k f fd ps sp) (b : Binds K fd ps []) (hK : K.In base) : FnV P w K mg base k f ps sp := by
  obtain ⟨oc, od, kV, doc, pm, an, cdv, ct, osl, e, lk, _⟩ := F.ex
  exact ⟨fd, o, b, oc, od, fd, osl, hK _ _ lk⟩
end L2

set_option Elab.async false
set_option linter.all false
set_option maxRecDepth 100000
set_option maxHeartbeats 2000000
namespace K10
open PySem L2 Lm Lw
abbrev D3 := Nat × Bool × List (List Nat)
noncomputable def fillC (w : Nat) (ws : List (List Nat)) : List (List Nat) := Classical.epsilon fun rows => Filled w (leadC 0 0) 0 ws rows
theorem fill_of {w : Nat} {ws rows : List (List Nat)} (h : Filled w (leadC 0 0) 0 ws rows) : fillC w ws = rows := (Classical.epsilon_spec (p := fun rows => Filled w (leadC 0 0) 0 ws rows) ⟨rows, h⟩).det h
noncomputable def colC (d : D3) : C4 := (d.1, d.2.1, d.2.2, fillC d.1 d.2.2)
noncomputable def colsC (ds : List D3) : List C4 := ds.map colC
def lensM : List C4 → Nat
  | [] => 1
  | c :: r => max c.2.2.2.length (lensM r)
theorem lensM_le : ∀ {cols : List C4} {c : C4}, c ∈ cols → c.2.2.2.length ≤ lensM cols
  | d :: r, c, h => by
    unfold lensM
    rcases List.mem_cons.mp h with rfl | h
    · omega
    · have := lensM_le h; omega
theorem lensM_one : ∀ cols : List C4, 1 ≤ lensM cols
  | [] => Nat.le_refl _
  | d :: r => by unfold lensM; have := lensM_one r; omega
theorem lensM_mem : ∀ cols : List C4, lensM cols = 1 ∨ ∃ c ∈ cols, c.2.2.2.length = lensM cols
  | [] => .inl rfl
  | d :: r => by
    unfold lensM
    by_cases h : d.2.2.2.length ≤ lensM r
    · rw [Nat.max_eq_right h]
      rcases lensM_mem r with z | ⟨c, hc, z⟩
      · exact .inl z
      · exact .inr ⟨c, List.mem_cons_of_mem _ hc, z⟩
    · rw [Nat.max_eq_left (by omega)]
      exact .inr ⟨d, List.mem_cons_self, rfl⟩
structure D3Ok (d : D3) : Prop where
  w1 : 1 ≤ d.1
  w40 : d.1 ≤ 40
  ws : ∀ w ∈ d.2.2, Wd 1000 w
  wl : d.2.2.length ≤ 20
theorem D3Ok.fil {d : D3} (h : D3Ok d) : Filled d.1 (leadC 0 0) 0 d.2.2 (fillC d.1 d.2.2) := by
  obtain ⟨rows, hr⟩ := filled_ex (width := d.1) (L := leadC 0 0) (fun n => by rw [lead0]; exact h.w1) _ 0 d.2.2 (Nat.le_refl _)
  rw [fill_of hr]
  exact hr
theorem D3Ok.count {d : D3} (h : D3Ok d) : (fillC d.1 d.2.2).length ≤ 20020 := by
  have h1 := h.fil.count (fun n => by rw [lead0]; exact h.w1)
  have h2 := tot_le (m := 1000) fun x hx => (h.ws x hx).2.2.1
  have := h.wl
  have h3 : d.2.2.length * (1000 + 1) ≤ 20 * 1001 := Nat.mul_le_mul h.wl (Nat.le_refl _)
  omega
theorem cols_ok {ds : List D3} (h : ∀ d ∈ ds, D3Ok d) : ∀ c ∈ colsC ds, C4Ok (lensM (colsC ds)) c := fun c hc => by
  obtain ⟨d, hd, rfl⟩ := List.mem_map.mp hc
  exact ⟨(h d hd).w1, (h d hd).w40, (h d hd).ws, (h d hd).wl, (h d hd).fil, lensM_le hc⟩
theorem lensM_le2 {ds : List D3} (h : ∀ d ∈ ds, D3Ok d) : lensM (colsC ds) ≤ 20020 := by
  rcases lensM_mem (colsC ds) with z | ⟨c, hc, z⟩
  · omega
  · obtain ⟨d, hd, rfl⟩ := List.mem_map.mp hc
    rw [← z]
    exact (h d hd).count
section
variable {P : Program} {w : World} {K : PySem.W.Frag} {mg : Str → Option Value} {base : Heap}
abbrev sNoLead : Stmt := top 6
theorem scNoLead : FnScope ["number"] ["number"] (defScope sNoLead) := ⟨rfl, rfl, rfl, by decide +kernel, rfl, by decide +kernel, by decide +kernel⟩
def noW : Addr → Prop := fun _ => False
def anyPre : Nat → Hp → Prop := fun _ _ => True
theorem no_leadW : LeadW noW anyPre := ⟨fun _ _ _ _ _ => trivial, fun _ _ _ _ h => h.elim, fun _ _ _ => trivial⟩
theorem ok_noLead {f : Addr} {fd : FuncData} (F : Fun K "no_lead" "no_lead" sNoLead f fd) : FnOk P w K mg base CX0 1 f fd ["number"] (spLeadF noW anyPre (leadC 0 0)) := by
  have sc := scNoLead
  refine F.ok sc (fun vs H Q E h => ?_) (fun cdv A outer s H vs Q E hr h => ?_)
  · obtain ⟨n, k, rfl, _⟩ := h
    rfl
  obtain ⟨n, k, rfl, _, _, q⟩ := h
  refine of_XB (xb1 (xret xstr)) ?_
  exact q H trivial SameW.refl
abbrev sTextAt : Stmt := top 7
theorem scTextAt : FnScope ["column", "number"] ["column", "number"] (defScope sTextAt) := ⟨rfl, rfl, rfl, by decide +kernel, rfl, by decide +kernel, by decide +kernel⟩
def spTextAt : Sp := fun vs H Q _ => ∃ (b : Addr) (rows : List (List Nat)) (i : Nat), vs = [.ref b, .int (i : Nat)] ∧ H b = some (.lst (rows.map vS)) ∧ Q (vS (rows.getD i [])) H
theorem ok_textAt {f : Addr} {fd : FuncData} (F : Fun K "text_at" "text_at" sTextAt f fd) (T : Tx10 mg) : FnOk P w K mg base CX0 1 f fd ["column", "number"] spTextAt := by
  have sc := scTextAt
  refine F.ok sc (fun vs H Q E h => ?_) (fun cdv A outer s H vs Q E hr h => ?_)
  · obtain ⟨b, rows, i, rfl, _⟩ := h
    rfl
  obtain ⟨b, rows, i, rfl, eb, q⟩ := h
  refine of_XB (xb1 (xret (xifE (xcmpT op_lt (xv 1) (xcB call_len_seq T.n_len PySem.boot_len (xac (xv 0) xa0)) (nomark _)) (xix ix_list (xv 0) (xv 1) (fun _ _ => rfl)) xstr))) ?_
  refine ⟨_, rfl, _, rfl, b, _, rfl, .inl (SqL.of eb), _, _, rfl, rfl, _, rfl, ?_⟩
  rw [List.length_map]
  refine ite2 (fun c => ?_) (fun c => ?_)
  · have c := of_decide_eq_true c
    have hi : i < rows.length := by omega
    refine ⟨_, rfl, _, rfl, b, _, _, _, rfl, rfl, SqL.of eb, atI_nat (by rw [List.getElem?_map, List.getElem?_eq_getElem hi]; rfl), ?_⟩
    rw [List.getD_eq_getElem?_getD, List.getElem?_eq_getElem hi] at q
    exact q
  · have c : ¬ ((i : Int) < (rows.length : Nat)) := fun z => c (decide_eq_true z)
    rw [List.getD_eq_getElem?_getD, List.getElem?_eq_none (by omega)] at q
    exact q
abbrev sPadded : Stmt := top 8
theorem scPadded : FnScope ["text", "width", "side"] ["text", "width", "side"] (defScope sPadded) := ⟨rfl, rfl, rfl, by decide +kernel, rfl, by decide +kernel, by decide +kernel⟩
def spPadded : Sp := fun vs H Q _ => ∃ (t : List Nat) (wd : Nat) (r : Bool), vs = [vS t, .int (wd : Nat), vS (sideC r)] ∧ wd ≤ 1000 ∧ Q (vS (padC r wd t)) H
theorem ok_padded {f : Addr} {fd : FuncData} (F : Fun K "padded" "padded" sPadded f fd) (T : Tx10 mg) : FnOk P w K mg base CX0 1 f fd ["text", "width", "side"] spPadded := by
  have sc := scPadded
  refine F.ok sc (fun vs H Q E h => ?_) (fun cdv A outer s H vs Q E hr h => ?_)
  · obtain ⟨t, wd, r, rfl, _⟩ := h
    rfl
  obtain ⟨t, wd, r, rfl, hw, q⟩ := h
  refine of_XB (xb1 (xret (xifE (xcmpT op_eq (xv 2) xstr (nomark _)) (xm PySem.F.plainAttrs_str PySem.F.slot_str_rjust PySem.F.type_str_rjust mt_rjust (xv 0) (xac (xv 1) xa0)) (xm PySem.F.plainAttrs_str PySem.F.slot_str_ljust PySem.F.type_str_ljust mt_ljust (xv 0) (xac (xv 1) xa0))))) ?_
  refine ⟨_, rfl, rfl, _, rfl, ?_⟩
  cases r with
  | true =>
    refine ite2 (fun _ => ?_) (fun c => absurd ?_ c)
    · refine ⟨_, rfl, rfl, _, rfl, _, _, rfl, rfl, pad_ok (by omega), ?_⟩
      rw [rjust_S]
      exact q
    · decide +kernel
  | false =>
    refine ite2 (fun c => absurd c ?_) (fun _ => ?_)
    · decide +kernel
    · refine ⟨_, rfl, rfl, _, rfl, _, _, rfl, rfl, pad_ok (by omega), ?_⟩
      rw [ljust_S]
      exact q
abbrev sBeside : Stmt := top 5
theorem scBeside : FnScope ["cells", "widths", "sides", "columns", "count", "rows", "number", "texts"] ["cells", "widths", "sides"] (defScope sBeside) := ⟨rfl, rfl, rfl, by decide +kernel, rfl, by decide +kernel, by decide +kernel⟩
noncomputable def besideC (ds : List D3) : List (List Nat) := rowsC (colsC ds) (lensM (colsC ds))
/-- the cells, the widths and the sides, in three lists -/
structure CellsAt (H : Hp) (ac aw asd : Addr) (bs : List Addr) (ds : List D3) : Prop where
  ec : H ac = some (.lst (bs.map V.ref))
  len : bs.length = ds.length
  ecs : ∀ (i : Nat) b d, bs[i]? = some b → ds[i]? = some d → H b = some (.lst (d.2.2.map vS))
  ew : H aw = some (.lst (ds.map fun d => V.int (d.1 : Nat)))
  es : H asd = some (.lst (ds.map fun d => vS (sideC d.2.1)))
theorem CellsAt.same {H H' : Hp} {ac aw asd : Addr} {bs : List Addr} {ds : List D3} (h : CellsAt H ac aw asd bs ds) (s : Same H H') : CellsAt H' ac aw asd bs ds :=
  ⟨s _ _ h.ec, h.len, fun i b d h1 h2 => s _ _ (h.ecs i b d h1 h2), s _ _ h.ew, s _ _ h.es⟩
def spBeside : Sp := fun vs H Q _ => ∃ (ac aw asd : Addr) (bs : List Addr) (ds : List D3), vs = [.ref ac, .ref aw, .ref asd] ∧ CellsAt H ac aw asd bs ds ∧ ds ≠ [] ∧ ds.length ≤ 20 ∧ (∀ d ∈ ds, D3Ok d) ∧
  ∀ p H', H p = none → Same H H' → H' p = some (.lst ((besideC ds).map vS)) → Q (.ref p) H'
theorem join_line (ds : List D3) (i : Nat) : (((List.range ds.length).map fun j => padC (((colsC ds).getD j (0, false, [], [])).2.1) (((colsC ds).getD j (0, false, [], [])).1) (((colsC ds).getD j (0, false, [], [])).2.2.2.getD i []))) = ((colsC ds).map (colAt i)).map fun c => padC c.2.1 c.1 c.2.2 := by
  apply List.ext_getElem?
  intro j
  rw [List.map_map, List.getElem?_map, List.getElem?_map]
  by_cases hj : j < ds.length
  · have hj2 : j < (colsC ds).length := by unfold colsC; rw [List.length_map]; exact hj
    rw [List.getElem?_range hj, List.getElem?_eq_getElem hj2]
    simp only [Option.map_some, List.getD_eq_getElem?_getD, List.getElem?_eq_getElem hj2, Option.getD_some]
    rfl
  · rw [List.getElem?_eq_none (by rw [List.length_range]; omega), List.getElem?_eq_none (by unfold colsC; rw [List.length_map]; omega)]
    rfl
theorem lens_map (bs : List Addr) (f : Nat → Nat) (n : Nat) : (List.range n).map (fun i => V.int ((f i : Nat) : Int)) = ((List.range n).map fun i => ((f i : Nat) : Int)).map V.int := by rw [List.map_map]; rfl
theorem ok_beside {f f0 : Addr} {fd : FuncData} (F : Fun K "beside" "beside" sBeside f fd) (T : Tx10 mg) (hf_no_lead : mg "no_lead" = some (.ref f0)) (D_filled : Def P w K mg base 4 "filled" ["words", "width", "lead"] (spFilled f0 noW anyPre (leadC 0 0)))
    (D_text_at : Def P w K mg base 1 "text_at" ["column", "number"] spTextAt) (D_padded : Def P w K mg base 1 "padded" ["text", "width", "side"] spPadded) : FnOk P w K mg base CX0 5 f fd ["cells", "widths", "sides"] spBeside := by
  have sc := scBeside
  refine F.ok sc (fun vs H Q E h => ?_) (fun cdv A outer s H vs Q E hr h => ?_)
  · obtain ⟨ac, aw, asd, bs, ds, rfl, _⟩ := h
    rfl
  obtain ⟨ac, aw, asd, bs, ds, rfl, C0, hne, hdl, hok, q⟩ := h
  refine of_XB (xbc (xslc (i := 3) sc.nd rfl rfl (cl := []) (own := ["cell", "width"]) (fr := []) (N' := ["cell", "width"]) rfl (compN (xs := []) trivial trivial (by decide +kernel)) (by decide +kernel) (by decide +kernel) (by with_unfolding_all rfl)
    (xiz T.n_zip (xac (xv 0) (xac (xv 1) xa0)))
    (fun _ _ _ _ => xgtC (n := 2) rfl (xgsc (xgn (i := 0) (show (["cell", "width"] : List Str).Nodup by decide +kernel) rfl (Or.inl rfl)) (xgsc (xgn (i := 1) (show (["cell", "width"] : List Str).Nodup by decide +kernel) rfl (Or.inl rfl)) xgs0))) (fun _ _ _ _ => xq0) (fun _ _ _ _ => (xcD D_filled (hr.mono (by decide)) (xac (xv 0) (xac (xv 1) (xac (xgC hf_no_lead) xa0))))))
    (xbc (xset (i := 4) sc.nd rfl (Or.inl rfl) (xcB (call_maxL rfl) T.n_max rfl (xac (xop op_cat (xlst (xac xint xa0)) (xlc (cl := []) (own := ["column"]) (fr := []) (N' := ["column"]) rfl (compN (xs := []) trivial trivial (by decide +kernel)) (by decide +kernel) (by decide +kernel) (by with_unfolding_all rfl)
    (xil (xv 3))
    (fun _ _ _ _ => xgn (i := 0) (show (["column"] : List Str).Nodup by decide +kernel) rfl (Or.inl rfl)) (fun _ _ _ _ => xq0) (fun _ _ _ _ => (xcB call_len_seqC T.n_len PySem.boot_len (xac (xv 0) xa0))))) xa0)))
    (xbc (xset (i := 5) sc.nd rfl (Or.inl rfl) (xlst xa0))
    (xbc (xfor PassesOwn.never rfl (xir1 rfl T.n_range (xac (xv 4) xa0)) (xgn (i := 6) sc.nd rfl (Or.inr rfl))
    (xbc (xslc (i := 7) sc.nd rfl rfl (cl := [("number", s.heap.objs.size + 1)]) (own := ["column", "width", "side"]) (fr := [6]) (N' := ["column", "width", "side", "number"]) rfl (compN (xs := ["number"]) ⟨rfl, trivial⟩ ⟨rfl, rfl, .inl rfl, .inl rfl, trivial⟩ (by decide +kernel)) (by decide +kernel) (by decide +kernel) (by with_unfolding_all rfl)
    (xiz3 T.n_zip (xac (xv 3) (xac (xv 1) (xac (xv 2) xa0))))
    (fun _ _ _ _ => xgtC (n := 3) rfl (xgsc (xgn (i := 0) (show (["column", "width", "side", "number"] : List Str).Nodup by decide +kernel) rfl (Or.inl rfl)) (xgsc (xgn (i := 1) (show (["column", "width", "side", "number"] : List Str).Nodup by decide +kernel) rfl (Or.inl rfl)) (xgsc (xgn (i := 2) (show (["column", "width", "side", "number"] : List Str).Nodup by decide +kernel) rfl (Or.inl rfl)) xgs0)))) (fun _ _ _ _ => xq0) (fun _ _ _ _ => (xcD D_padded (hr.mono (by decide)) (xac (xcD D_text_at (hr.mono (by decide)) (xac (xv 0) (xac (xv 3) xa0))) (xac (xv 1) (xac (xv 2) xa0))))))
    (xb1 (xexpr (xm PySem.F.plainAttrs_list PySem.F.slot_list_append PySem.F.type_list_append mt_append (xv 5) (xac (xm PySem.F.plainAttrs_str PySem.F.slot_str_rstrip PySem.F.type_str_rstrip mt_rstrip (xm PySem.F.plainAttrs_str PySem.F.slot_str_join PySem.F.type_str_join mt_join xstr (xac (xv 7) xa0)) (xac xstr xa0)) xa0))))))
    (xb1 (xret (xv 5))))))) ?_
  have hs : sizeLine = 16777216 := sizeLine_eq
  rw [show start ["cells", "widths", "sides", "columns", "count", "rows", "number", "texts"] [V.ref ac, V.ref aw, V.ref asd] = [some (V.ref ac), some (V.ref aw), some (V.ref asd), none, none, none, none, none] from rfl]
  have hcok := cols_ok hok
  have hlm := lensM_le2 hok
  have hcl : (colsC ds).length = ds.length := by unfold colsC; rw [List.length_map]
  have hcat : ∀ {i : Nat} {d : D3}, ds[i]? = some d → (colsC ds)[i]? = some (colC d) := fun {i d} h => by unfold colsC; rw [List.getElem?_map, h]; rfl
  refine ⟨_, rfl, _, rfl, ac, aw, rfl, ⟨_, SqL.of C0.ec⟩, ⟨_, SqL.of C0.ew⟩, ?_⟩
  refine lc_listsJ ds.length (fun i ys => ys = (((colsC ds).getD i (0, false, [], [])).2.2.2).map vS) (by omega) ?_ ?_ ?_ ?_
  · intro i H1 hi s1
    have C1 := C0.same s1
    have hb : i < bs.length := by rw [C0.len]; exact hi
    exact ⟨_, _, _, _, SqL.of C1.ec, SqL.of C1.ew, by rw [List.getElem?_map, List.getElem?_eq_getElem hb]; rfl, by rw [List.getElem?_map, List.getElem?_eq_getElem hi]; rfl⟩
  · intro H1 s1
    have C1 := C0.same s1
    exact ⟨_, _, SqL.of C1.ec, SqL.of C1.ew, .inl (by rw [List.length_map, C0.len]; exact Nat.le_refl _)⟩
  · rintro i H1 x H2 hi s1 ⟨Tt, u, v, hu', hv', hT, rfl, rfl⟩
    have C1 := C0.same s1
    have hb : i < bs.length := by rw [C0.len]; exact hi
    have e1 := hu' _ (SqL.of C1.ec)
    rw [List.getElem?_map, List.getElem?_eq_getElem hb] at e1
    have e1 : u = .ref bs[i] := (Option.some.inj e1).symm
    have e2 := hv' _ (SqL.of C1.ew)
    rw [List.getElem?_map, List.getElem?_eq_getElem hi] at e2
    have e2 : v = .int (ds[i].1 : Nat) := (Option.some.inj e2).symm
    subst e1 e2
    have hd := hok ds[i] (List.getElem_mem hi)
    have ewd := C1.ecs i bs[i] ds[i] (List.getElem?_eq_getElem hb) (List.getElem?_eq_getElem hi)
    have hg : (colsC ds).getD i (0, false, [], []) = colC ds[i] := by rw [List.getD_eq_getElem?_getD, hcat (List.getElem?_eq_getElem hi)]; rfl
    refine ⟨same_new hT _, fun C N hC => ⟨Tt, _, rfl, SqT.of upd_same, rfl, _, _, rfl, _, _, rfl, rfl, (((nfLe.refl _ _ _).set (by decide) _).set (by decide) _), ?_⟩⟩
    refine iteT (B := N (upd H1 Tt (.tup [.ref bs[i], .int (ds[i].1 : Nat)]))) ⟨_, rfl, _, rfl, bs[i], ds[i].2.2, ds[i].1, 0, rfl, same_new hT _ _ _ ewd, (fun z => z.elim), fun w hw => ⟨(hd.ws w hw).1, (hd.ws w hw).2.2.1⟩, by have := hd.wl; omega, by have := hd.w40; omega, fun n => by rw [lead0]; exact hd.w1, trivial, fun p rows H3 hp sw _ ep hF => ?_⟩
    refine hC p _ H3 hp (fun b o e => sw b o (fun z => z.elim) e) ep ?_
    rw [hg]
    show rows.map vS = (fillC ds[i].1 ds[i].2.2).map vS
    rw [fill_of hF]
  intro cp H1 cs hcp s1 ecp hcsl hcs
  dsimp only [gName, List.set_cons_succ, List.set_cons_zero]
  have hcs' : ∀ (i : Nat) b d, cs[i]? = some b → ds[i]? = some d → H1 b = some (.lst ((fillC d.1 d.2.2).map vS)) := fun i b d h1 h2 => by
    obtain ⟨ys, e, rfl⟩ := hcs i b h1
    rw [e, List.getD_eq_getElem?_getD, hcat h2]
    rfl
  refine ⟨big (show (1 : Nat) ≤ 1000000 by decide), fun p1 hp1 => ?_⟩
  have s2 := same_new hp1 (.lst [.int 1])
  have ep1 : upd H1 p1 (.lst [.int 1]) p1 = some (.lst [.int 1]) := upd_same
  generalize upd H1 p1 (.lst [.int 1]) = H2 at s2 ep1 ⊢
  have ecp2 := s2 _ _ ecp
  refine ⟨_, rfl, cp, rfl, ⟨_, SqL.of ecp2⟩, ?_⟩
  refine lc_ix (fun i => .int ((((colsC ds).getD i (0, false, [], [])).2.2.2.length : Nat) : Int)) (SqL.of ecp2) (by rw [List.length_map]; omega) ?_ ?_
  · intro i x hx H3 s3 C N hC
    rw [List.getElem?_map] at hx
    cases hci : cs[i]? with
    | none => rw [hci] at hx; cases hx
    | some b =>
    rw [hci] at hx
    cases hx
    have hi : i < ds.length := by rw [← hcsl]; exact (List.getElem?_eq_some_iff.mp hci).1
    have eb := s3 _ _ (s2 _ _ (hcs' i b _ hci (List.getElem?_eq_getElem hi)))
    refine ⟨(nfLe.refl _ _ _).set (by decide) _, iteT (B := N H3) ⟨_, rfl, b, _, rfl, .inl (SqL.of eb), ?_⟩⟩
    rw [List.length_map]
    have hg : (colsC ds).getD i (0, false, [], []) = colC ds[i] := by rw [List.getD_eq_getElem?_getD, hcat (List.getElem?_eq_getElem hi)]; rfl
    have := hC H3 (Same.refl _)
    rw [hg] at this
    exact this
  intro p2 H3 hp2 s3 ep2
  rw [List.length_map, hcsl] at ep2
  have ep1' := s3 _ _ ep1
  refine ⟨p1, p2, _, _, rfl, rfl, ep1', ep2, by rw [List.length_map, List.length_range]; show 1 + _ ≤ _; omega, fun p3 hp3 => ?_⟩
  refine ⟨p3, 1 :: (List.range ds.length).map fun i => ((((colsC ds).getD i (0, false, [], [])).2.2.2.length : Nat) : Int), rfl, SqL.of ?_, by simp, fun m hm hmax => ?_⟩
  · rw [upd_same, lens_map []]; rfl
  have hmv : m = ((lensM (colsC ds) : Nat) : Int) := by
    have hlow : ∀ c ∈ colsC ds, ((c.2.2.2.length : Nat) : Int) ≤ m := fun c hc => by
      obtain ⟨i, hi⟩ := List.mem_iff_getElem?.mp hc
      have hil := (List.getElem?_eq_some_iff.mp hi).1
      refine hmax _ (List.mem_cons_of_mem _ (List.mem_map.mpr ⟨i, List.mem_range.mpr (by rw [← hcl]; exact hil), ?_⟩))
      rw [List.getD_eq_getElem?_getD, hi]
      rfl
    have h1 : (1 : Int) ≤ m := hmax 1 List.mem_cons_self
    have hle : ((lensM (colsC ds) : Nat) : Int) ≤ m := by
      rcases lensM_mem (colsC ds) with z | ⟨c, hc, z⟩
      · omega
      · have := hlow c hc; omega
    have hge : m ≤ ((lensM (colsC ds) : Nat) : Int) := by
      rcases List.mem_cons.mp hm with z | z
      · have := lensM_one (colsC ds); omega
      · obtain ⟨i, hi, rfl⟩ := List.mem_map.mp z
        have hi := List.mem_range.mp hi
        have hi2 : i < (colsC ds).length := by rw [hcl]; exact hi
        have := lensM_le (List.getElem_mem hi2)
        rw [List.getD_eq_getElem?_getD, List.getElem?_eq_getElem hi2]
        show (((colsC ds)[i].2.2.2.length : Nat) : Int) ≤ _
        omega
    omega
  subst hmv
  have s4 := same_new hp3 (.lst ([V.int 1] ++ (List.range ds.length).map fun i => V.int ((((colsC ds).getD i (0, false, [], [])).2.2.2.length : Nat) : Int)))
  generalize upd H3 p3 (.lst ([V.int 1] ++ (List.range ds.length).map fun i => V.int ((((colsC ds).getD i (0, false, [], [])).2.2.2.length : Nat) : Int))) = H4 at s4 ⊢
  dsimp only [gName, List.set_cons_succ, List.set_cons_zero]
  have s24 := s2.trans (s3.trans s4)
  have C4' := C0.same (s1.trans s24)
  have ecp4 := s24 _ _ ecp
  have hcs4 : ∀ (i : Nat) b d, cs[i]? = some b → ds[i]? = some d → H4 b = some (.lst ((fillC d.1 d.2.2).map vS)) := fun i b d h1 h2 => s24 _ _ (hcs' i b d h1 h2)
  have s04 := s1.trans s24
  clear s2 s3 s4 ep1 ep1' ep2 hcs hcs' hp1 hp2 hp3 ecp ecp2 s24 hm hmax
  refine ⟨big (show (0 : Nat) ≤ 1000000 by decide), fun rp hrp => ?_⟩
  have hrp0 : H rp = none := s04.free hrp
  have s5 := same_new hrp (.lst [])
  have erp : upd H4 rp (.lst []) rp = some (.lst []) := upd_same
  dsimp only [gName, List.set_cons_succ, List.set_cons_zero]
  have C5 := C4'.same s5
  have ecp5 := s5 _ _ ecp4
  have hcs5 : ∀ (i : Nat) b d, cs[i]? = some b → ds[i]? = some d → upd H4 rp (.lst []) b = some (.lst ((fillC d.1 d.2.2).map vS)) := fun i b d h1 h2 => s5 _ _ (hcs4 i b d h1 h2)
  have s05 := s04.trans s5
  generalize upd H4 rp (.lst []) = H5 at s5 erp C5 ecp5 hcs5 s05 ⊢
  refine ⟨_, rfl, _, rfl, by omega, by omega, ?_⟩
  rw [Int.toNat_natCast]
  -- all but the rows stays
  refine for_range (n := lensM (colsC ds)) (fun k σ H' => ∃ x6 x7, σ = [some (.ref ac), some (.ref aw), some (.ref asd), some (.ref cp), some (.int ((lensM (colsC ds) : Nat) : Int)), some (.ref rp), x6, x7] ∧ (∀ b o, b ≠ rp → H5 b = some o → H' b = some o) ∧ H' rp = some (.lst (((List.range k).map (rowC (colsC ds))).map vS)))
    ⟨none, none, rfl, (fun _ _ _ e => e), erp⟩ ?_ ?_
  · rintro k σ H6 hk ⟨x6, x7, rfl, s6, erp6⟩
    have up6 : ∀ b o, H4 b = some o → H6 b = some o := fun b o e => s6 b o (fun z => by rw [z, hrp] at e; cases e) (s5 _ _ e)
    have C6 : CellsAt H6 ac aw asd bs ds := C4'.same up6
    have ecp6 := up6 _ _ ecp4
    have hcs6 : ∀ (i : Nat) b d, cs[i]? = some b → ds[i]? = some d → H6 b = some (.lst ((fillC d.1 d.2.2).map vS)) := fun i b d h1 h2 => up6 _ _ (hcs4 i b d h1 h2)
    dsimp only [gName, List.set_cons_succ, List.set_cons_zero]
    refine ⟨_, rfl, _, rfl, _, rfl, cp, aw, asd, rfl, ⟨_, SqL.of ecp6⟩, ⟨_, SqL.of C6.ew⟩, ⟨_, SqL.of C6.es⟩, ?_⟩
    refine lc_ixJ ds.length (fun j => vS (padC (((colsC ds).getD j (0, false, [], [])).2.1) (((colsC ds).getD j (0, false, [], [])).1) (((colsC ds).getD j (0, false, [], [])).2.2.2.getD k []))) (by omega) ?_ ?_ ?_ ?_
    · intro i H7 hi s7
      have hb : i < cs.length := by omega
      exact ⟨_, _, _, _, _, _, SqL.of (s7 _ _ ecp6), SqL.of (s7 _ _ C6.ew), SqL.of (s7 _ _ C6.es), by rw [List.getElem?_map, List.getElem?_eq_getElem hb]; rfl, by rw [List.getElem?_map, List.getElem?_eq_getElem hi]; rfl, by rw [List.getElem?_map, List.getElem?_eq_getElem hi]; rfl⟩
    · intro H7 s7
      exact ⟨_, SqL.of (s7 _ _ ecp6), by rw [List.length_map, hcsl]; exact Nat.le_refl _⟩
    · rintro i H7 x H8 hi s7 ⟨Tt, x1, y1, u1, h1, h2, h3, hT, rfl, rfl⟩
      have hb : i < cs.length := by omega
      have e1 := h1 _ (SqL.of (s7 _ _ ecp6))
      rw [List.getElem?_map, List.getElem?_eq_getElem hb] at e1
      have e1 : x1 = .ref cs[i] := (Option.some.inj e1).symm
      have e2 := h2 _ (SqL.of (s7 _ _ C6.ew))
      rw [List.getElem?_map, List.getElem?_eq_getElem hi] at e2
      have e2 : y1 = .int (ds[i].1 : Nat) := (Option.some.inj e2).symm
      have e3 := h3 _ (SqL.of (s7 _ _ C6.es))
      rw [List.getElem?_map, List.getElem?_eq_getElem hi] at e3
      have e3 : u1 = vS (sideC ds[i].2.1) := (Option.some.inj e3).symm
      subst e1 e2 e3
      have hd := hok ds[i] (List.getElem_mem hi)
      have hg : (colsC ds).getD i (0, false, [], []) = colC ds[i] := by rw [List.getD_eq_getElem?_getD, hcat (List.getElem?_eq_getElem hi)]; rfl
      have ebs := s7 _ _ (hcs6 i cs[i] ds[i] (List.getElem?_eq_getElem hb) (List.getElem?_eq_getElem hi))
      refine ⟨same_new hT _, fun C N hC => ⟨Tt, _, rfl, SqT.of upd_same, rfl, _, _, rfl, _, _, rfl, _, _, rfl, rfl, ((((nfLe.refl _ _ _).set (by decide) _).set (by decide) _).set (by decide) _), ?_⟩⟩
      refine iteT (B := N (upd H7 Tt (.tup [.ref cs[i], .int (ds[i].1 : Nat), vS (sideC ds[i].2.1)]))) ⟨_, rfl, _, rfl, cs[i], _, k, by rw [Int.zero_add]; rfl, same_new hT _ _ _ ebs, _, rfl, _, rfl, _, ds[i].1, ds[i].2.1, rfl, by have := hd.w40; omega, ?_⟩
      have := hC _ (Same.refl _)
      rw [hg] at this
      exact this
    intro tp H7 htp s7 etp
    dsimp only [gName, List.set_cons_succ, List.set_cons_zero]
    have htpe : ((List.range ds.length).map fun j => vS (padC (((colsC ds).getD j (0, false, [], [])).2.1) (((colsC ds).getD j (0, false, [], [])).1) (((colsC ds).getD j (0, false, [], [])).2.2.2.getD k []))) = (((((colsC ds).map (colAt k)).map fun c => padC c.2.1 c.1 c.2.2)).map S).map V.str := by
      rw [← join_line, List.map_map, List.map_map]
      rfl
    rw [htpe] at etp
    have hco : ∀ c ∈ (colsC ds).map (colAt k), ColOk c := fun c hc => by
      obtain ⟨d, hd, rfl⟩ := List.mem_map.mp hc
      exact ((hcok d hd).at k).1
    have hcne : (colsC ds).map (colAt k) ≠ [] := by
      intro z
      have := congrArg List.length z
      rw [List.length_map, hcl] at this
      exact hne (List.eq_nil_of_length_eq_zero (by simpa using this))
    have hll := line_len hcne hco
    have hsl := sum_le hco
    rw [List.length_map, hcl] at hll hsl
    have hfit : ((((((colsC ds).map (colAt k)).map fun c => padC c.2.1 c.1 c.2.2)).map S).map (·.length)).sum + (((((colsC ds).map (colAt k)).map fun c => padC c.2.1 c.1 c.2.2)).map S).length * (S [32, 124, 32]).length ≤ sizeLine := by
      have e1 : (((((colsC ds).map (colAt k)).map fun c => padC c.2.1 c.1 c.2.2)).map S).map (·.length) = ((colsC ds).map (colAt k)).map (·.1) := by
        rw [List.map_map, List.map_map]
        refine List.map_congr_left fun c hc => ?_
        show (S (padC c.2.1 c.1 c.2.2)).length = c.1
        rw [S_len, pad_len (hco c hc).2.2.1]
      rw [e1, List.length_map, List.length_map, List.length_map, hcl, S_len, hs]
      simp only [List.length_cons, List.length_nil]
      omega
    have erp7 := s7 _ _ erp6
    refine ⟨_, rfl, .inl ⟨rfl, _, SqL.of erp7⟩, rfl, _, rfl, S [32, 124, 32], tp, _, rfl, rfl, SqL.of etp, hfit, rfl, _, _, rfl, rfl, ?_, rp, _, _, rfl, rfl, erp7, by rw [List.length_map, List.length_map, List.length_range]; omega, ?_⟩
    · rw [joinT_S]
      exact bigS (by show (lineC ((colsC ds).map (colAt k))).length ≤ _; omega)
    refine ⟨_, _, rfl, fun b o nb e => by rw [upd_ne nb]; exact s7 _ _ (s6 b o nb e), ?_⟩
    rw [upd_same, List.range_succ, List.map_append, List.map_append]
    rw [joinT_S]
    dsimp only
    rw [show Txt.rstripChars (S (glueC [32, 124, 32] (((colsC ds).map (colAt k)).map fun c => padC c.2.1 c.1 c.2.2))) (Str.ofString " ") = S (rowC (colsC ds) k) from rstrip_S _ [32]]
    rfl
  · rintro σ H6 ⟨x6, x7, rfl, s6, erp6⟩
    refine ⟨_, rfl, q rp H6 hrp0 (fun b o e => s6 b o (fun z => by rw [z, hrp0] at e; cases e) (s05 _ _ e)) ?_⟩
    exact erp6
end
end K10

set_option Elab.async false
set_option linter.all false
set_option maxRecDepth 100000
set_option maxHeartbeats 4000000
namespace K10
open PySem L2 Lm Lw
def dC (ds : List D3) : List PyData := ds.map fun d => .list (dT d.2.2)
def dW (ds : List D3) : List PyData := ds.map fun d => .int (d.1 : Nat)
def dS (ds : List D3) : List PyData := ds.map fun d => .str (S (sideC d.2.1))
theorem side_asc (r : Bool) : Asc (sideC r) := by
  intro c hc
  unfold sideC wLeft wRight at hc
  split at hc <;> (simp at hc; omega)
theorem den_W {K : PySem.W.Frag} {H : Hp} : ∀ ds : List D3, DenAll K H (ds.map fun d => V.int (d.1 : Nat)) (dW ds)
  | [] => .nil
  | d :: ds => .cons (.int _) (den_W ds)
theorem den_Sd {K : PySem.W.Frag} {H : Hp} : ∀ ds : List D3, DenAll K H (ds.map fun d => vS (sideC d.2.1)) (dS ds)
  | [] => .nil
  | d :: ds => .cons (den_S (side_asc _)) (den_Sd ds)
theorem den_C {K : PySem.W.Frag} {H : Hp} : ∀ {bs : List Addr} {ds : List D3}, bs.length = ds.length → (∀ (i : Nat) b d, bs[i]? = some b → ds[i]? = some d → H b = some (.lst (d.2.2.map vS))) → (∀ d ∈ ds, ∀ w ∈ d.2.2, Asc w) → DenAll K H (bs.map V.ref) (dC ds)
  | [], [], _, _, _ => .nil
  | b :: bs, d :: ds, hl, h, ha => .cons (.lst (SqL.of (h 0 b d rfl rfl)) (den_dT (ha d List.mem_cons_self))) (den_C (by simpa using hl) (fun i b d h1 h2 => h (i + 1) b d (by simpa using h1) (by simpa using h2)) fun x hx => ha x (List.mem_cons_of_mem _ hx))
theorem depA_C : ∀ ds : List D3, PyData.depthAll (dC ds) ≤ 3
  | [] => by simp [dC, PyData.depthAll]
  | d :: ds => by
    have h1 := depA_C ds
    have h2 := dep_dT d.2.2
    simp only [dC, List.map_cons, PyData.depthAll, PyData.depth] at h1 ⊢
    omega
theorem depA_W : ∀ ds : List D3, PyData.depthAll (dW ds) ≤ 3
  | [] => by simp [dW, PyData.depthAll]
  | d :: ds => by
    have h1 := depA_W ds
    simp only [dW, List.map_cons, PyData.depthAll, PyData.depth] at h1 ⊢
    omega
theorem depA_S : ∀ ds : List D3, PyData.depthAll (dS ds) ≤ 3
  | [] => by simp [dS, PyData.depthAll]
  | d :: ds => by
    have h1 := depA_S ds
    simp only [dS, List.map_cons, PyData.depthAll, PyData.depth] at h1 ⊢
    omega
theorem dep_all (ds : List D3) : PyData.depth (.list [.list (dC ds), .list (dW ds), .list (dS ds)]) ≤ 6 := by
  have h1 := depA_C ds
  have h2 := depA_W ds
  have h3 := depA_S ds
  simp only [PyData.depthAll, PyData.depth]
  omega
/-- what was drawn, put together -/
theorem drawn_ds {H : Hp} : ∀ {bs : List Addr} {wv sv : List V}, bs.length = wv.length → sv.length = wv.length → (∀ v ∈ wv, ∃ n : Int, v = .int n ∧ 1 ≤ n ∧ n ≤ 12) → (∀ v ∈ sv, ∃ r, v = vS (sideC r)) →
    (∀ (i : Nat) b, bs[i]? = some b → ∃ ys, H b = some (.lst ys) ∧ ∃ ws : List (List Nat), ys = ws.map vS ∧ ws.length ≤ 20 ∧ ∀ w ∈ ws, Wd 1000 w) →
    ∃ ds : List D3, ds.length = wv.length ∧ wv = ds.map (fun d => V.int (d.1 : Nat)) ∧ sv = ds.map (fun d => vS (sideC d.2.1)) ∧ (∀ (i : Nat) b d, bs[i]? = some b → ds[i]? = some d → H b = some (.lst (d.2.2.map vS))) ∧ ∀ d ∈ ds, D3Ok d
  | [], [], [], _, _, _, _, _ => ⟨[], rfl, rfl, rfl, fun i b d h => by simp at h, fun _ z => nomatch z⟩
  | b :: bs, v :: wv, u :: sv, h1, h2, h3, h4, h5 => by
    obtain ⟨ds, e1, e2, e3, e4, e5⟩ := drawn_ds (H := H) (bs := bs) (wv := wv) (sv := sv) (by simpa using h1) (by simpa using h2) (fun x hx => h3 x (List.mem_cons_of_mem _ hx)) (fun x hx => h4 x (List.mem_cons_of_mem _ hx)) (fun i b h => h5 (i + 1) b (by simpa using h))
    obtain ⟨n, rfl, n1, n2⟩ := h3 v List.mem_cons_self
    obtain ⟨r, rfl⟩ := h4 u List.mem_cons_self
    obtain ⟨ys, eb, ws, rfl, wl, hw⟩ := h5 0 b rfl
    refine ⟨(n.toNat, r, ws) :: ds, by rw [List.length_cons, e1, List.length_cons], ?_, by rw [e3]; rfl, ?_, ?_⟩
    · rw [e2, List.map_cons]
      show V.int n :: _ = V.int ((n.toNat : Nat) : Int) :: _
      rw [Int.toNat_of_nonneg (by omega)]
    · intro i c d g1 g2
      cases i with
      | zero => cases g1; cases g2; exact eb
      | succ i => exact e4 i c d (by simpa using g1) (by simpa using g2)
    · intro d hd
      rcases List.mem_cons.mp hd with rfl | hd
      · exact ⟨by show 1 ≤ n.toNat; omega, by show n.toNat ≤ 40; omega, hw, wl⟩
      · exact e5 d hd
theorem CellsAt.rev {H : Hp} {ac aw asd ac' aw' asd' : Addr} {bs : List Addr} {ds : List D3} (h : CellsAt H ac aw asd bs ds) (e1 : H ac' = some (.lst (bs.map V.ref).reverse)) (e2 : H aw' = some (.lst (ds.map fun d => V.int (d.1 : Nat)).reverse)) (e3 : H asd' = some (.lst (ds.map fun d => vS (sideC d.2.1)).reverse)) : CellsAt H ac' aw' asd' bs.reverse ds.reverse := by
  refine ⟨by rw [e1, List.map_reverse], by rw [List.length_reverse, List.length_reverse]; exact h.len, fun i b d g1 g2 => ?_, by rw [e2, List.map_reverse], by rw [e3, List.map_reverse]⟩
  have l1 := (List.getElem?_eq_some_iff.mp g1).1
  rw [List.length_reverse] at l1
  have hl := h.len
  rw [List.getElem?_reverse l1] at g1
  rw [List.getElem?_reverse (by omega), ← hl] at g2
  exact h.ecs _ b d g1 g2
theorem right_of {H : Hp} {ac aw asd af : Addr} {bs : List Addr} {ds : List D3} {Q : VK} {E : XK} (h : CellsAt H ac aw asd bs ds) (hne : ds ≠ []) (hdl : ds.length ≤ 20) (hok : ∀ d ∈ ds, D3Ok d) (ef : H af = some (.lst ((besideC ds).map vS))) (q : ∀ H', Same H H' → Q (.bl true) H') : spRight10 [.ref ac, .ref aw, .ref asd, .ref af] H Q E := by
  have hcl : (colsC ds).length = ds.length := by unfold colsC; rw [List.length_map]
  refine ⟨ac, aw, asd, af, bs, colsC ds, lensM (colsC ds), rfl, h.ec, by rw [hcl]; exact h.len, fun i b c g1 g2 => ?_, ?_, ?_, ef, fun z => ?_, by omega, lensM_one _, by have := lensM_le2 hok; omega, lensM_mem _, cols_ok hok, q⟩
  · unfold colsC at g2
    rw [List.getElem?_map] at g2
    cases hd : ds[i]? with
    | none => rw [hd] at g2; cases g2
    | some d =>
      rw [hd] at g2
      cases g2
      exact h.ecs i b d g1 hd
  · rw [h.ew]; unfold colsC; rw [List.map_map]; rfl
  · rw [h.es]; unfold colsC; rw [List.map_map]; rfl
  · rw [z] at hcl
    exact hne (List.eq_nil_of_length_eq_zero (by simpa using hcl.symm))
theorem beside_asc {ds : List D3} (hok : ∀ d ∈ ds, D3Ok d) : ∀ r ∈ besideC ds, Asc r := fun r hr => by
  obtain ⟨i, _, rfl⟩ := List.mem_map.mp hr
  exact row_asc (cols_ok hok) i
section
variable {P : Program} {w : World} {K : PySem.W.Frag} {mg : Str → Option Value} {base : Heap}
abbrev sLaw : Stmt := top 17
theorem scLaw : FnScope ["_law_script", "_law_tape", "_law_widths", "_law_sides", "_law_cells", "_law_handed", "_law_found", "_law_kept", "_law_turned"] ["_law_script"] (defScope sLaw) := ⟨rfl, rfl, rfl, by decide +kernel, rfl, by decide +kernel, by decide +kernel⟩
def spLaw10 (K : PySem.W.Frag) : Sp := fun vs H Q _ => ∃ (a : Addr) (ns : List Int), vs = [.ref a] ∧ SqL K H a (vI ns) ∧ ns.length ≤ 1000 ∧ ∀ H', Q (.bl true) H'
theorem ok_law {f : Addr} {fd : FuncData} (F : Fun K "law" "law" sLaw f fd) (T : Tx10 mg) (D_l_draw : Def P w K mg base 1 "_law_draw" ["_law_script", "_law_tape", "_law_many"] (spDraw K)) (D_l_words : Def P w K mg base 3 "_law_words" ["_law_script", "_law_tape", "_law_width", "_law_many"] (spWords8 K))
    (D_beside : Def P w K mg base 5 "beside" ["cells", "widths", "sides"] spBeside) (D_l_right : Def P w K mg base 3 "_law_right" ["_law_cells", "_law_widths", "_law_sides", "_law_found"] spRight10) : FnOk P w K mg base CX0 6 f fd ["_law_script"] (spLaw10 K) := by
  have sc := scLaw
  refine F.ok sc (fun vs H Q E h => ?_) (fun cdv A outer s H vs Q E hr h => ?_)
  · obtain ⟨a, ns, rfl, _⟩ := h
    rfl
  obtain ⟨a, ns, rfl, hq, hns, q⟩ := h
  have hu : (A.deeper (PyProof.Rows.envOfC "law" (defScope sLaw) s.heap.objs.size f cdv)).units + 64 < cLine := by
    have := hr.un
    omega
  refine of_XB (xbc (xset (i := 1) sc.nd rfl (Or.inr rfl) (xlst (xac xint xa0)))
    (xbc (xslc (i := 2) sc.nd rfl rfl (cl := [("_law_tape", s.heap.objs.size + 2), ("_law_script", s.heap.objs.size + 1)]) (own := ["_law_k"]) (fr := [0, 1]) (N' := ["_law_k", "_law_script", "_law_tape"]) rfl (compN (xs := ["_law_script", "_law_tape"]) ⟨rfl, ⟨rfl, trivial⟩⟩ ⟨rfl, rfl, .inl rfl, .inl rfl, ⟨rfl, rfl, .inl rfl, .inl rfl, trivial⟩⟩ (by decide +kernel)) (by decide +kernel) (by decide +kernel) (by with_unfolding_all rfl)
    (xir1 rfl T.n_range (xac (xop op_add xint (xcD D_l_draw (hr.mono (by decide)) (xac (xv 0) (xac (xv 1) (xac xint xa0))))) xa0))
    (fun _ _ _ _ => xgn (i := 0) (show (["_law_k", "_law_script", "_law_tape"] : List Str).Nodup by decide +kernel) rfl (Or.inl rfl)) (fun _ _ _ _ => xq0) (fun _ _ _ _ => (xop op_add xint (xcD D_l_draw (hr.mono (by decide)) (xac (xv 1) (xac (xv 2) (xac xint xa0)))))))
    (xbc (xslc (i := 3) sc.nd rfl rfl (cl := [("_law_tape", s.heap.objs.size + 2), ("_law_script", s.heap.objs.size + 1)]) (own := ["_law_width"]) (fr := [0, 1]) (N' := ["_law_width", "_law_script", "_law_tape"]) rfl (compN (xs := ["_law_script", "_law_tape"]) ⟨rfl, ⟨rfl, trivial⟩⟩ ⟨rfl, rfl, .inl rfl, .inl rfl, ⟨rfl, rfl, .inl rfl, .inl rfl, trivial⟩⟩ (by decide +kernel)) (by decide +kernel) (by decide +kernel) (by with_unfolding_all rfl)
    (xil (xv 2))
    (fun _ _ _ _ => xgn (i := 0) (show (["_law_width", "_law_script", "_law_tape"] : List Str).Nodup by decide +kernel) rfl (Or.inl rfl)) (fun _ _ _ _ => xq0) (fun _ _ _ _ => (xix ix_listC (xlst (xac xstr (xac xstr xa0))) (xcD D_l_draw (hr.mono (by decide)) (xac (xv 1) (xac (xv 2) (xac xint xa0)))) (fun _ _ => rfl))))
    (xbc (xslc (i := 4) sc.nd rfl rfl (cl := [("_law_tape", s.heap.objs.size + 2), ("_law_script", s.heap.objs.size + 1)]) (own := ["_law_width"]) (fr := [0, 1]) (N' := ["_law_width", "_law_script", "_law_tape"]) rfl (compN (xs := ["_law_script", "_law_tape"]) ⟨rfl, ⟨rfl, trivial⟩⟩ ⟨rfl, rfl, .inl rfl, .inl rfl, ⟨rfl, rfl, .inl rfl, .inl rfl, trivial⟩⟩ (by decide +kernel)) (by decide +kernel) (by decide +kernel) (by with_unfolding_all rfl)
    (xil (xv 2))
    (fun _ _ _ _ => xgn (i := 0) (show (["_law_width", "_law_script", "_law_tape"] : List Str).Nodup by decide +kernel) rfl (Or.inl rfl)) (fun _ _ _ _ => xq0) (fun _ _ _ _ => (xcD D_l_words (hr.mono (by decide)) (xac (xv 1) (xac (xv 2) (xac (xv 0) (xac (xcD D_l_draw (hr.mono (by decide)) (xac (xv 1) (xac (xv 2) (xac xint xa0)))) xa0)))))))
    (xbc (xset (i := 5) sc.nd rfl (Or.inl rfl) (xlst (xac (xlc (cl := []) (own := ["_law_words_here"]) (fr := []) (N' := ["_law_words_here"]) rfl (compN (xs := []) trivial trivial (by decide +kernel)) (by decide +kernel) (by decide +kernel) (by with_unfolding_all rfl)
    (xil (xv 4))
    (fun _ _ _ _ => xgn (i := 0) (show (["_law_words_here"] : List Str).Nodup by decide +kernel) rfl (Or.inl rfl)) (fun _ _ _ _ => xq0) (fun _ _ _ _ => (xcTy call_list_ofC T.n_list rfl (xac (xv 0) xa0)))) (xac (xcTy call_list_of T.n_list rfl (xac (xv 2) xa0)) (xac (xcTy call_list_of T.n_list rfl (xac (xv 3) xa0)) xa0)))))
    (xbc (xset (i := 6) sc.nd rfl (Or.inl rfl) (xcD D_beside (hr.mono (by decide)) (xac (xix ix_list (xv 5) xint (fun _ _ => rfl)) (xac (xix ix_list (xv 5) xint (fun _ _ => rfl)) (xac (xix ix_list (xv 5) xint (fun _ _ => rfl)) xa0)))))
    (xbc (xif (xor (xnotT (xvalT (xcD D_l_right (hr.mono (by decide)) (xac (xv 4) (xac (xv 2) (xac (xv 3) (xac (xv 6) xa0))))))) (xor1 (xcmpT (op_neD hu) (xv 5) (xlst (xac (xv 4) (xac (xv 2) (xac (xv 3) xa0)))) (nomark _)))).xt (xb1 (xret xbl)) xb0)
    (xbc (xset (i := 7) sc.nd rfl (Or.inl rfl) (xcTy call_list_of T.n_list rfl (xac (xv 6) xa0)))
    (xbc (xexpr (xm PySem.F.plainAttrs_list PySem.F.slot_list_append PySem.F.type_list_append mt_append (xv 6) (xac xstr xa0)))
    (xbc (xset (i := 8) sc.nd rfl (Or.inl rfl) (xcD D_beside (hr.mono (by decide)) (xac (xrevX (xv 4)) (xac (xrevX (xv 2)) (xac (xrevX (xv 3)) xa0)))))
    (xbc (xif (xnotT (xvalT (xcD D_l_right (hr.mono (by decide)) (xac (xrevX (xv 4)) (xac (xrevX (xv 2)) (xac (xrevX (xv 3)) (xac (xv 8) xa0))))))) (xb1 (xret xbl)) xb0)
    (xb1 (xret (xandV (xcmp (op_eqD hu) (xcD D_beside (hr.mono (by decide)) (xac (xix ix_list (xv 5) xint (fun _ _ => rfl)) (xac (xix ix_list (xv 5) xint (fun _ _ => rfl)) (xac (xix ix_list (xv 5) xint (fun _ _ => rfl)) xa0)))) (xv 7) (nomark _)) (xone (xcmp (op_eqD hu) (xv 6) (xop op_cat (xv 7) (xlst (xac xstr xa0))) (nomark _))))))))))))))))) ?_
  have hs : sizeLine = 16777216 := sizeLine_eq
  rw [show start ["_law_script", "_law_tape", "_law_widths", "_law_sides", "_law_cells", "_law_handed", "_law_found", "_law_kept", "_law_turned"] [V.ref a] = [some (V.ref a), none, none, none, none, none, none, none, none] from rfl]
  refine ⟨big (show (1 : Nat) ≤ 1000000 by decide), fun t ht => ?_⟩
  have scr1 : Scr K t (upd H t (.lst [.int 0])) a ns := Scr.of ht hq
  have et1 : upd H t (.lst [.int 0]) t = some (.lst [.int 0]) := upd_same
  dsimp only [gName, List.set_cons_succ, List.set_cons_zero]
  generalize upd H t (.lst [.int 0]) = H1 at scr1 et1 ⊢
  -- widths
  refine s_join (fun σ' H' => ∃ (wa : Addr) (wv : List V), σ' = [some (.ref a), some (.ref t), some (.ref wa), none, none, none, none, none, none] ∧ Scr K t H' a ns ∧ H' t = some (.lst [.int (1 + (wv.length : Nat))]) ∧ H' wa = some (.lst wv) ∧ wa ≠ t ∧ 1 ≤ wv.length ∧ wv.length ≤ 6 ∧ ∀ v ∈ wv, ∃ n : Int, v = .int n ∧ 1 ≤ n ∧ n ≤ 12) (fun N hN => ?_) ?_
  · refine ⟨_, rfl, _, rfl, a, t, ns, 0, 6, rfl, scr1, hns, et1, by omega, by omega, by omega, fun i0 H2 i00 i01 sx2 et2 => ⟨_, _, rfl, rfl, _, rfl, by omega, by omega, ?_⟩⟩
    obtain ⟨n0, en0⟩ : ∃ n0 : Nat, 1 + i0 = (n0 : Int) := ⟨_, (Int.toNat_of_nonneg (by omega)).symm⟩
    have hn1 : 1 ≤ n0 ∧ n0 ≤ 6 := by omega
    have scr2 := scr1.move sx2
    rw [en0, Int.toNat_natCast]
    refine lc_tape t 1 (fun v => ∃ n : Int, v = .int n ∧ 1 ≤ n ∧ n ≤ 12) (by omega) (by rw [et2]; rfl) ?_ ?_
    · intro i hi H3 sx3 et3 C N' hC
      refine ⟨(nfLe.refl _ _ _).set (by decide) _, ?_⟩
      exact iteT (B := N' H3) ⟨_, rfl, _, rfl, a, t, ns, 1 + (i : Nat), 12, rfl, scr2.move sx3, hns, et3, by omega, by omega, by omega, fun j H4 j0 j1 sx4 et4 => ⟨_, _, rfl, rfl, hC _ _ sx4 et4 ⟨1 + j, rfl, by omega, by omega⟩⟩⟩
    · intro D H3 ys hD sx3 et3 eD hyl hys
      exact hN _ _ ⟨D, ys, rfl, scr2.move sx3, by rw [et3, hyl], eD, (fun z => by rw [z, et2] at hD; cases hD), by omega, by omega, hys⟩
  rintro σ2 H2 ⟨wa, wv, rfl, scr2, et2, ewa, nwt, wl1, wl2, hwv⟩
  clear scr1 et1
  -- sides
  refine s_join (fun σ' H' => ∃ (sa : Addr) (sv : List V) (m : Int), σ' = [some (.ref a), some (.ref t), some (.ref wa), some (.ref sa), none, none, none, none, none] ∧ Scr K t H' a ns ∧ H' t = some (.lst [.int m]) ∧ 0 ≤ m ∧ m ≤ 13 ∧ H' wa = some (.lst wv) ∧ H' sa = some (.lst sv) ∧ sa ≠ t ∧ sv.length = wv.length ∧ ∀ v ∈ sv, ∃ r, v = vS (sideC r)) (fun N hN => ?_) ?_
  · refine ⟨_, rfl, wa, rfl, ⟨_, SqL.of ewa⟩, ?_⟩
    refine lc_tapeP t (1 + (wv.length : Nat)) 1 (fun v => ∃ r, v = vS (sideC r)) (by omega) et2 (fun H' kx => SqL.of (kx _ _ nwt ewa)) (by omega) ?_ ?_
    · intro i x hx m H3 kx3 et3 m1 m2 C N' hC
      have hi := (List.getElem?_eq_some_iff.mp hx).1
      refine ⟨(nfLe.refl _ _ _).set (by decide) _, ?_⟩
      refine iteT (B := N' H3) ⟨big (show (2 : Nat) ≤ 1000000 by decide), fun l hl => ?_⟩
      have nlt : l ≠ t := fun z => by rw [z, et3] at hl; cases hl
      have sn := same_new hl (.lst [V.str (Str.ofString "left"), V.str (Str.ofString "right")])
      refine ⟨_, rfl, _, rfl, a, t, ns, m, 2, rfl, (scr2.move kx3).move (SameX.of sn), hns, sn _ _ et3, by omega, by omega, by omega, fun j H4 j0 j1 sx4 et4 => ?_⟩
      have el := sx4 _ _ nlt upd_same
      have kx4 : KeepX t H3 H4 := fun b o nb e => sx4 b o nb (sn _ _ e)
      rcases (show j = 0 ∨ j = 1 by omega) with rfl | rfl
      · exact ⟨l, _, 0, _, rfl, rfl, SqL.of el, atI_nat (j := 0) rfl, hC _ (m + 1) H4 kx4 et4 (by omega) (by omega) ⟨false, rfl⟩⟩
      · exact ⟨l, _, 1, _, rfl, rfl, SqL.of el, atI_nat (j := 1) rfl, hC _ (m + 1) H4 kx4 et4 (by omega) (by omega) ⟨true, rfl⟩⟩
    · intro D H3 ys m' hD kx3 et3 m1 m2 eD hyl hys
      exact hN _ _ ⟨D, ys, m', rfl, scr2.move kx3, et3, by omega, by omega, kx3 _ _ nwt ewa, eD, (fun z => by rw [z, et2] at hD; cases hD), hyl, hys⟩
  rintro σ3 H3 ⟨sa, sv, m, rfl, scr3, et3, m0, m13, ewa3, esa, nst, hsl, hsv⟩
  clear scr2 et2 ewa
  -- cells
  refine s_join (fun σ' H' => ∃ (ca : Addr) (bs : List Addr) (ds : List D3), σ' = [some (.ref a), some (.ref t), some (.ref wa), some (.ref sa), some (.ref ca), none, none, none, none] ∧ CellsAt H' ca wa sa bs ds ∧ ds ≠ [] ∧ ds.length ≤ 20 ∧ ∀ d ∈ ds, D3Ok d) (fun N hN => ?_) ?_
  · refine ⟨_, rfl, wa, rfl, ⟨_, SqL.of ewa3⟩, ?_⟩
    refine lc_tapeL t m 30 (fun _ ys => ∃ ws : List (List Nat), ys = ws.map vS ∧ ws.length ≤ 20 ∧ ∀ w ∈ ws, Wd 1000 w) (by omega) et3 (fun H' kx => SqL.of (kx _ _ nwt ewa3)) (by omega) ?_ ?_
    · intro i x hx m2 H4 kx4 et4 l1 l2 C N' hC
      have hi := (List.getElem?_eq_some_iff.mp hx).1
      obtain ⟨n, rfl, n1, n2⟩ := hwv x (List.mem_of_getElem? hx)
      obtain ⟨nw, rfl⟩ : ∃ nw : Nat, n = (nw : Int) := ⟨_, (Int.toNat_of_nonneg (by omega)).symm⟩
      refine ⟨(nfLe.refl _ _ _).set (by decide) _, ?_⟩
      refine iteT (B := N' H4) ⟨_, rfl, _, rfl, _, rfl, _, rfl, _, rfl, a, t, ns, m2, 5, rfl, scr3.move kx4, hns, et4, by omega, by omega, by omega, fun j H5 j0 j1 sx5 et5 => ?_⟩
      obtain ⟨many, rfl⟩ : ∃ many : Nat, j = (many : Int) := ⟨_, (Int.toNat_of_nonneg (by omega)).symm⟩
      refine ⟨a, t, ns, m2 + 1, nw, many, rfl, (scr3.move kx4).move sx5, hns, et5, by omega, by omega, by omega, by omega, by omega, fun p ws m3 H6 hp sx6 ep et6 q1 q2 hwl hws => ?_⟩
      have npt : p ≠ t := fun z => by rw [z, et5] at hp; cases hp
      exact hC p _ m3 H6 (sx5.free npt hp) (sx5.trans sx6) et6 (by omega) (by omega) ep ⟨ws, rfl, by omega, hws⟩
    · intro ca H4 bs m' hca kx4 et4 l1 l2 eca hbl hbs
      have hbs' : ∀ (i : Nat) b, bs[i]? = some b → ∃ ys, H4 b = some (.lst ys) ∧ ∃ ws : List (List Nat), ys = ws.map vS ∧ ws.length ≤ 20 ∧ ∀ w ∈ ws, Wd 1000 w := fun i b h => (hbs i b h).2.2
      obtain ⟨ds, e1, e2, e3, e4, e5⟩ := drawn_ds (H := H4) hbl hsl hwv hsv hbs'
      refine hN _ _ ⟨ca, bs, ds, rfl, ⟨eca, by omega, e4, by rw [← e2]; exact kx4 _ _ nwt ewa3, by rw [← e3]; exact kx4 _ _ nst esa⟩, fun z => ?_, by omega, e5⟩
      rw [z] at e1; simp at e1; omega
  rintro σ4 H4 ⟨ca, bs, ds, rfl, C4', hne, hdl, hok⟩
  clear scr3 et3 ewa3 esa
  have hasc : ∀ d ∈ ds, ∀ w ∈ d.2.2, Asc w := fun d hd w hw => ((hok d hd).ws w hw).2.2.2
  have hbasc := beside_asc hok
  -- handed
  refine ⟨_, rfl, ca, rfl, ⟨_, SqL.of C4'.ec⟩, ?_⟩
  refine lc_lists (fun i ys => ∀ d, ds[i]? = some d → ys = d.2.2.map vS) (SqL.of C4'.ec) (by rw [List.length_map, C4'.len]; omega) ?_ ?_
  · intro i x hx H5 s5 C N' hC
    rw [List.getElem?_map] at hx
    cases hbi : bs[i]? with
    | none => rw [hbi] at hx; cases hx
    | some b =>
    rw [hbi] at hx
    cases hx
    have hi : i < ds.length := by rw [← C4'.len]; exact (List.getElem?_eq_some_iff.mp hbi).1
    have eb := s5 _ _ (C4'.ecs i b _ hbi (List.getElem?_eq_getElem hi))
    refine ⟨(nfLe.refl _ _ _).set (by decide) _, iteT (B := N' H5) ⟨_, rfl, b, _, rfl, .inl (SqL.of eb), fun p hp => hC p _ _ hp (same_new hp _) upd_same fun d hd => ?_⟩⟩
    rw [List.getElem?_eq_getElem hi] at hd
    cases hd
    rfl
  intro hc H5 bs2 hhc s5 ehc hb2l hb2
  rw [List.length_map, C4'.len] at hb2l
  have C5 := C4'.same s5
  refine ⟨_, rfl, wa, _, rfl, .inl (SqL.of C5.ew), fun hw hhw => ⟨_, rfl, sa, _, rfl, .inl (SqL.of (same_new hhw _ _ _ C5.es)), fun hsd hhsd => ⟨big (show (3 : Nat) ≤ 1000000 by decide), fun ha hha => ?_⟩⟩⟩
  have s6 := (same_new hhw (.lst (ds.map fun d => V.int (d.1 : Nat)))).trans ((same_new hhsd (.lst (ds.map fun d => vS (sideC d.2.1)))).trans (same_new hha (.lst [.ref hc, .ref hw, .ref hsd])))
  have nwsd : hw ≠ hsd := fun z => by rw [← z, upd_same] at hhsd; cases hhsd
  have nwha : hw ≠ ha := fun z => by rw [← z, upd_ne nwsd, upd_same] at hha; cases hha
  have nsha : hsd ≠ ha := fun z => by rw [← z, upd_same] at hha; cases hha
  have D6 : CellsAt (upd (upd (upd H5 hw (.lst (ds.map fun d => V.int (d.1 : Nat)))) hsd (.lst (ds.map fun d => vS (sideC d.2.1)))) ha (.lst [.ref hc, .ref hw, .ref hsd])) hc hw hsd bs2 ds := by
    refine ⟨s6 _ _ ehc, hb2l, fun i b d h1 h2 => ?_, by rw [upd_ne nwha, upd_ne nwsd, upd_same], by rw [upd_ne nsha, upd_same]⟩
    obtain ⟨ys, e, g⟩ := hb2 i b h1
    rw [s6 _ _ e, g d h2]
  have eha : upd (upd (upd H5 hw (.lst (ds.map fun d => V.int (d.1 : Nat)))) hsd (.lst (ds.map fun d => vS (sideC d.2.1)))) ha (.lst [.ref hc, .ref hw, .ref hsd]) ha = some (.lst [.ref hc, .ref hw, .ref hsd]) := upd_same
  have C6 := C5.same s6
  dsimp only [gName, List.set_cons_succ, List.set_cons_zero]
  generalize upd (upd (upd H5 hw (.lst (ds.map fun d => V.int (d.1 : Nat)))) hsd (.lst (ds.map fun d => vS (sideC d.2.1)))) ha (.lst [.ref hc, .ref hw, .ref hsd]) = H6 at D6 eha C6 s6 ⊢
  clear C5 ehc hb2 hhw hhsd hha C4' s5 s6
  -- found
  refine ⟨_, rfl, ha, _, 0, _, rfl, rfl, SqL.of eha, atI_nat (j := 0) rfl, _, rfl, ha, _, 1, _, rfl, rfl, SqL.of eha, atI_nat (j := 1) rfl, _, rfl, ha, _, 2, _, rfl, rfl, SqL.of eha, atI_nat (j := 2) rfl, hc, hw, hsd, bs2, ds, rfl, D6, hne, hdl, hok, fun fo H7 hfo s7 efo => ?_⟩
  dsimp only [gName, List.set_cons_succ, List.set_cons_zero]
  have C7 := C6.same s7
  have D7 := D6.same s7
  have eha7 := s7 _ _ eha
  refine s_no (t_or false false (t_not true fun R k => ⟨_, rfl, _, rfl, _, rfl, _, rfl, ?_⟩) (fun _ Ha sa' R k => ⟨_, rfl, _, rfl, _, rfl, _, rfl, big (show (3 : Nat) ≤ 1000000 by decide), fun l hl => ?_⟩)) (fun H8 s8 => ?_)
  · exact right_of C7 hne hdl hok efo (Q := fun x H1 => ∃ c, x = V.bl c ∧ R c H1) (E := E0) fun H' s' => ⟨_, rfl, k _ s'⟩
  · have sn := same_new hl (.lst [V.ref ca, V.ref wa, V.ref sa])
    have Ca := C7.same (sa'.trans sn)
    have Da := D7.same (sa'.trans sn)
    exact ⟨.list [.list (dC ds), .list (dW ds), .list (dS ds)], .lst (SqL.of (sn _ _ (sa' _ _ eha7))) (.cons (.lst (SqL.of Da.ec) (den_C Da.len Da.ecs hasc)) (.cons (.lst (SqL.of Da.ew) (den_W ds)) (.cons (.lst (SqL.of Da.es) (den_Sd ds)) .nil))),
      .lst (SqL.of upd_same) (.cons (.lst (SqL.of Ca.ec) (den_C Ca.len Ca.ecs hasc)) (.cons (.lst (SqL.of Ca.ew) (den_W ds)) (.cons (.lst (SqL.of Ca.es) (den_Sd ds)) .nil))), dep_all ds, _, rfl, k _ sn⟩
  have efo8 := s8 _ _ efo
  have C8 := C7.same s8
  have D8 := D7.same s8
  have eha8 := s8 _ _ eha7
  have hbl : (besideC ds).length ≤ 20020 := by unfold besideC rowsC; rw [List.length_map, List.length_range]; exact lensM_le2 hok
  refine ⟨_, rfl, fo, _, rfl, .inl (SqL.of efo8), fun ke hke => ?_⟩
  have s9 := same_new hke (.lst ((besideC ds).map vS))
  have eke9 : upd H8 ke (.lst ((besideC ds).map vS)) ke = some (.lst ((besideC ds).map vS)) := upd_same
  have efo9 := s9 _ _ efo8
  have C9 := C8.same s9
  have D9 := D8.same s9
  have eha9 := s9 _ _ eha8
  have nkf : ke ≠ fo := fun z => by rw [z, efo8] at hke; cases hke
  dsimp only [gName, List.set_cons_succ, List.set_cons_zero]
  generalize upd H8 ke (.lst ((besideC ds).map vS)) = H9 at s9 eke9 efo9 C9 D9 eha9 ⊢
  -- all but fo stays
  refine ⟨_, rfl, .inl ⟨rfl, _, SqL.of efo9⟩, fo, _, _, rfl, rfl, efo9, by rw [List.length_map]; omega, ?_⟩
  have up : ∀ b o, H6 b = some o → upd H9 fo (.lst ((besideC ds).map vS ++ [V.str (Str.ofString "more")])) b = some o := fun b o e => by
    rw [upd_ne (fun z => by rw [z, hfo] at e; cases e)]
    exact s9 _ _ (s8 _ _ (s7 _ _ e))
  have C10 := C6.same up
  have D10 := D6.same up
  have eha10 := up _ _ eha
  have eke10 : upd H9 fo (.lst ((besideC ds).map vS ++ [V.str (Str.ofString "more")])) ke = some (.lst ((besideC ds).map vS)) := (upd_ne nkf).trans eke9
  have efo10 : upd H9 fo (.lst ((besideC ds).map vS ++ [V.str (Str.ofString "more")])) fo = some (.lst ((besideC ds).map vS ++ [V.str (Str.ofString "more")])) := upd_same
  generalize upd H9 fo (.lst ((besideC ds).map vS ++ [V.str (Str.ofString "more")])) = H10 at C10 D10 eha10 eke10 efo10 ⊢
  clear up C7 C8 C9 D7 D8 D9 eha7 eha8 eha9 eke9 efo9 efo8 efo s9 hke
  have hrok : ∀ d ∈ ds.reverse, D3Ok d := fun d hd => hok d (List.mem_reverse.mp hd)
  have hrne : ds.reverse ≠ [] := by simpa using hne
  have hrl : ds.reverse.length ≤ 20 := by rw [List.length_reverse]; exact hdl
  -- turned
  dsimp only [tSeq]
  refine ⟨_, rfl, ca, _, rfl, SqL.of C10.ec, fun r1 hr1 => ?_⟩
  have t1 := same_new hr1 (.lst (bs.map V.ref).reverse)
  have C11 := C10.same t1
  have er1 : upd H10 r1 (.lst (bs.map V.ref).reverse) r1 = some (.lst (bs.map V.ref).reverse) := upd_same
  have D11 := D10.same t1
  have eha11 := t1 _ _ eha10
  have eke11 := t1 _ _ eke10
  have efo11 := t1 _ _ efo10
  generalize upd H10 r1 (.lst (bs.map V.ref).reverse) = H11 at C11 er1 D11 eha11 eke11 efo11 ⊢
  refine ⟨_, rfl, wa, _, rfl, SqL.of C11.ew, fun r2 hr2 => ?_⟩
  have t2 := same_new hr2 (.lst (ds.map fun d => V.int (d.1 : Nat)).reverse)
  have C12 := C11.same t2
  have er2 : upd H11 r2 (.lst (ds.map fun d => V.int (d.1 : Nat)).reverse) r2 = some (.lst (ds.map fun d => V.int (d.1 : Nat)).reverse) := upd_same
  have er12 := t2 _ _ er1
  have D12 := D11.same t2
  have eha12 := t2 _ _ eha11
  have eke12 := t2 _ _ eke11
  have efo12 := t2 _ _ efo11
  generalize upd H11 r2 (.lst (ds.map fun d => V.int (d.1 : Nat)).reverse) = H12 at C12 er2 er12 D12 eha12 eke12 efo12 ⊢
  refine ⟨_, rfl, sa, _, rfl, SqL.of C12.es, fun r3 hr3 => ?_⟩
  have t3 := same_new hr3 (.lst (ds.map fun d => vS (sideC d.2.1)).reverse)
  have R13 : CellsAt (upd H12 r3 (.lst (ds.map fun d => vS (sideC d.2.1)).reverse)) r1 r2 r3 bs.reverse ds.reverse := (C12.same t3).rev (t3 _ _ er12) (t3 _ _ er2) upd_same
  have C13 := C12.same t3
  have D13 := D12.same t3
  have eha13 := t3 _ _ eha12
  have eke13 := t3 _ _ eke12
  have efo13 := t3 _ _ efo12
  generalize upd H12 r3 (.lst (ds.map fun d => vS (sideC d.2.1)).reverse) = H13 at R13 C13 D13 eha13 eke13 efo13 ⊢
  clear C10 C11 C12 D10 D11 D12 eha10 eha11 eha12 eke10 eke11 eke12 efo10 efo11 efo12 er1 er2 er12 t1 t2 t3 hr1 hr2 hr3
  refine ⟨r1, r2, r3, bs.reverse, ds.reverse, rfl, R13, hrne, hrl, hrok, fun tu H14 htu s14 etu => ?_⟩
  dsimp only [gName, List.set_cons_succ, List.set_cons_zero]
  have C14 := C13.same s14
  refine s_no (t_not true fun R k => ⟨_, rfl, ca, _, rfl, SqL.of C14.ec, fun q1 hq1 => ⟨_, rfl, wa, _, rfl, SqL.of ((C14.same (same_new hq1 _)).ew), fun q2 hq2 => ⟨_, rfl, sa, _, rfl, SqL.of (((C14.same (same_new hq1 _)).same (same_new hq2 _)).es), fun q3 hq3 => ⟨_, rfl, ?_⟩⟩⟩⟩) (fun H15 s15 => ?_)
  · have u1 := same_new hq1 (.lst (bs.map V.ref).reverse)
    have u2 := same_new hq2 (.lst (ds.map fun d => V.int (d.1 : Nat)).reverse)
    have u3 := same_new hq3 (.lst (ds.map fun d => vS (sideC d.2.1)).reverse)
    have uu := u1.trans (u2.trans u3)
    exact right_of ((C14.same uu).rev (u3 _ _ (u2 _ _ upd_same)) (u3 _ _ upd_same) upd_same) hrne hrl hrok (uu _ _ etu) (Q := fun x H1 => ∃ c, x = V.bl c ∧ R c H1) (E := E0) fun H' s' => ⟨_, rfl, k _ (uu.trans s')⟩
  have up15 := s14.trans s15
  have D15 := D13.same up15
  have eha15 := up15 _ _ eha13
  have eke15 := up15 _ _ eke13
  have efo15 := up15 _ _ efo13
  refine ⟨_, rfl, ha, _, 0, _, rfl, rfl, SqL.of eha15, atI_nat (j := 0) rfl, _, rfl, ha, _, 1, _, rfl, rfl, SqL.of eha15, atI_nat (j := 1) rfl, _, rfl, ha, _, 2, _, rfl, rfl, SqL.of eha15, atI_nat (j := 2) rfl, hc, hw, hsd, bs2, ds, rfl, D15, hne, hdl, hok, fun f3 H16 hf3 s16 ef3 => ?_⟩
  have eke16 := s16 _ _ eke15
  have efo16 := s16 _ _ efo15
  refine ⟨_, rfl, .list (dT (besideC ds)), .lst (SqL.of ef3) (den_dT hbasc), .lst (SqL.of eke16) (den_dT hbasc), dep_dT6 _, _, rfl, iteT ⟨_, rfl, _, rfl, big (show (1 : Nat) ≤ 1000000 by decide), fun pl hpl => ?_⟩⟩
  have nkp : ke ≠ pl := fun z => by rw [← z, eke16] at hpl; cases hpl
  have s17 := same_new hpl (.lst [V.str (Str.ofString "more")])
  have hmore : Asc ([109, 111, 114, 101] : List Nat) := by intro c hc; simp at hc; omega
  have hall : ∀ w ∈ besideC ds ++ [[109, 111, 114, 101]], Asc w := fun w hw => by
    rcases List.mem_append.mp hw with hw | hw
    · exact hbasc w hw
    · rw [List.mem_singleton.mp hw]; exact hmore
  have heq : (besideC ds).map vS ++ [V.str (Str.ofString "more")] = (besideC ds ++ [[109, 111, 114, 101]]).map vS := by rw [List.map_append]; rfl
  refine ⟨ke, pl, _, _, rfl, rfl, (upd_ne nkp).trans eke16, upd_same, by rw [List.length_map]; show _ + 1 ≤ _; omega, fun pc hpc => ⟨.list (dT (besideC ds ++ [[109, 111, 114, 101]])), .lst (SqL.of (same_new hpc _ _ _ (s17 _ _ efo16))) ?_, .lst (SqL.of upd_same) ?_, dep_dT6 _, q _⟩⟩
  · rw [heq]; exact den_dT hall
  · rw [heq]; exact den_dT hall
end
end K10

set_option Elab.async false
set_option linter.all false
set_option maxRecDepth 100000
set_option maxHeartbeats 4000000
namespace K10
open PySem L2 Lm Lw
structure FnIn (K : PySem.W.Frag) (x : Str) (st : Stmt) (p : Value → Prop) : Prop where
  ex : ∃ (f : Addr) (oc : Value) (od : Option Addr) (kV dc pm : Value) (an : Option Addr) (cd ct : Value) (sl : Array (Option Value)), PySem.W.nsIn K mainGlobals x = some (some (.ref f)) ∧
    K.lookup f = some ⟨oc, od, .func (PySem.W.fnOf x x (defArgs st) (defBody st) (defScope st) .none kV dc pm an cd ct), sl⟩ ∧ PySem.W.codeIn K cd x = true ∧ PySem.W.keepIn K (.ref f) = true ∧ p cd
theorem fnIn_mk {K : PySem.W.Frag} {x : Str} {st : Stmt} {p : Value → Prop} {f : Addr} {oc : Value} {od : Option Addr} {kV dc pm : Value} {an : Option Addr} {cd ct : Value} {sl : Array (Option Value)} (a : PySem.W.nsIn K mainGlobals x = some (some (.ref f)))
    (l : K.lookup f = some ⟨oc, od, .func (PySem.W.fnOf x x (defArgs st) (defBody st) (defScope st) .none kV dc pm an cd ct), sl⟩) (c : PySem.W.codeIn K cd x = true) (k : PySem.W.keepIn K (.ref f) = true) (q : p cd) : FnIn K x st p :=
  ⟨f, oc, od, kV, dc, pm, an, cd, ct, sl, a, l, c, k, q⟩
section
variable {P : Program} {w : World} {K : PySem.W.Frag} {h : Heap} {mg : Str → Option Value} {base : Heap} {x : Str} {st : Stmt} {ps : List Str} {k : Nat} {sp : Sp}
theorem def_of {p : Value → Prop} (X : K.In h) (G : h.Ns mainGlobals mg) (F : FnIn K x st p)
    (hb : ∀ (kV doc pm : Value) (an : Option Addr) (cdv ct : Value) (us : List Value), us.length = ps.length → bindArgs (PySem.W.fnOf x x (defArgs st) (defBody st) (defScope st) .none kV doc pm an cdv ct) ⟨us, []⟩ = pure (ps.zip us))
    (ok : ∀ f fd, Fun K x x st f fd → p fd.code → FnOk P w K mg base CX0 k f fd ps sp) : Def P w K mg base k x ps sp := by
  obtain ⟨f, oc, od, kV, dc, pm, an, cd, ct, sl, a, l, c, kp, q⟩ := F.ex
  have F1 := fun_mk (st := st) l c kp
  exact ⟨f, _, ok f _ F1 q, PySem.W.mg_of X G a, F1.kp, F1.binds hb⟩
end

structure Top (K : PySem.W.Frag) : Prop where
  f_filled : FnIn K "filled" sFilled (fun _ => True)
  f_last_piece : FnIn K "last_piece" sLast (fun _ => True)
  f_room_behind : FnIn K "room_behind" sRoom (fun _ => True)
  f_beside : FnIn K "beside" sBeside (fun _ => True)
  f_no_lead : FnIn K "no_lead" sNoLead (fun _ => True)
  f_text_at : FnIn K "text_at" sTextAt (fun _ => True)
  f_padded : FnIn K "padded" sPadded (fun _ => True)
  f__law_draw : FnIn K "_law_draw" sDraw (fun _ => True)
  f__law_word : FnIn K "_law_word" sWord (fun _ => True)
  f__law_words : FnIn K "_law_words" sWords (fun _ => True)
  f__law_lead : FnIn K "_law_lead" sLead (fun _ => True)
  f__law_rows_right : FnIn K "_law_rows_right" sRight (fun _ => True)
  f__law_cut : FnIn K "_law_cut" sCut (fun _ => True)
  f__law_right : FnIn K "_law_right" sRight10 (fun _ => True)
  f_law : FnIn K "law" sLaw (fun _ => True)
  n_len : PySem.W.nsIn K mainGlobals "len" = some none
  n_range : PySem.W.nsIn K mainGlobals "range" = some none
  n_isinstance : PySem.W.nsIn K mainGlobals "isinstance" = some none
  n_bool : PySem.W.nsIn K mainGlobals "bool" = some none
  n_int : PySem.W.nsIn K mainGlobals "int" = some none
  n_list : PySem.W.nsIn K mainGlobals "list" = some none
  n_max : PySem.W.nsIn K mainGlobals "max" = some none
  n_min : PySem.W.nsIn K mainGlobals "min" = some none
  n_enumerate : PySem.W.nsIn K mainGlobals "enumerate" = some none
  n_str : PySem.W.nsIn K mainGlobals "str" = some none
  n_sum : PySem.W.nsIn K mainGlobals "sum" = some none
  n_all : PySem.W.nsIn K mainGlobals "all" = some none
  n_zip : PySem.W.nsIn K mainGlobals "zip" = some none
theorem all_law {P : Program} {w : World} {K : PySem.W.Frag} {h : Heap} {mg : Str → Option Value} {fa : Addr} (X : K.In h) (G : h.Ns mainGlobals mg) (hfa : mg "law" = some (.ref fa)) (t : Top K) :
    ∃ fd : FuncData, (∀ (s : Shared) (v : Value), BindsTo s fd ⟨[v], []⟩ [("_law_script", v)]) ∧ ∀ base : Heap, K.In base → base.Ns mainGlobals mg → FnOk P w K mg base CX0 6 fa fd ["_law_script"] (spLaw10 K) := by
  have T : Tx10 mg := {
    n_len := PySem.W.mg_none_of X G t.n_len
    n_range := PySem.W.mg_none_of X G t.n_range
    n_isinstance := PySem.W.mg_none_of X G t.n_isinstance
    n_bool := PySem.W.mg_none_of X G t.n_bool
    n_int := PySem.W.mg_none_of X G t.n_int
    n_list := PySem.W.mg_none_of X G t.n_list
    n_max := PySem.W.mg_none_of X G t.n_max
    n_min := PySem.W.mg_none_of X G t.n_min
    n_enumerate := PySem.W.mg_none_of X G t.n_enumerate
    n_str := PySem.W.mg_none_of X G t.n_str
    n_sum := PySem.W.mg_none_of X G t.n_sum
    n_all := PySem.W.mg_none_of X G t.n_all
    n_zip := PySem.W.mg_none_of X G t.n_zip
  }
  obtain ⟨f, oc, od, kV, dc, pm, an, cd, ct, sl, a, l, cc, kp, _⟩ := t.f_law.ex
  have e := hfa.symm.trans (PySem.W.mg_of X G a)
  cases e
  refine ⟨PySem.W.fnOf "law" "law" (defArgs sLaw) (defBody sLaw) (defScope sLaw) .none kV dc pm an cd ct, fun s v => .of_eq rfl, fun base hK _ => ?_⟩
  obtain ⟨f0, oc0, od0, kV0, dc0, pm0, an0, cd0, ct0, sl0, a0, l0, cc0, kp0, _⟩ := t.f_no_lead.ex
  have F0 := fun_mk (st := sNoLead) l0 cc0 kp0
  have hV : FnV P w K mg base 2 f0 ["number"] (spLeadF noW anyPre (leadC 0 0)) := (fnv_top F0 (ok_noLead F0) (F0.binds (fun _ _ _ _ _ _ us hl => match us, hl with | [_], _ => rfl)) hK).mono (by decide)
  have D_room_behind : Def P w K mg base 1 "room_behind" ["ahead", "width"] spRoom := def_of X G t.f_room_behind (fun _ _ _ _ _ _ us hl => match us, hl with | [_, _], _ => rfl) fun f fd F _ => ok_room F T
  have D_last_piece : Def P w K mg base 3 "last_piece" ["word", "width", "lead", "rows"] (spLast f0 noW anyPre (leadC 0 0)) := def_of X G t.f_last_piece (fun _ _ _ _ _ _ us hl => match us, hl with | [_, _, _, _], _ => rfl) fun f fd F _ => ok_last F T no_leadW hV D_room_behind
  have D_filled : Def P w K mg base 4 "filled" ["words", "width", "lead"] (spFilled f0 noW anyPre (leadC 0 0)) := def_of X G t.f_filled (fun _ _ _ _ _ _ us hl => match us, hl with | [_, _, _], _ => rfl) fun f fd F _ => ok_filled F T no_leadW D_last_piece
  have D_text_at : Def P w K mg base 1 "text_at" ["column", "number"] spTextAt := def_of X G t.f_text_at (fun _ _ _ _ _ _ us hl => match us, hl with | [_, _], _ => rfl) fun f fd F _ => ok_textAt F T
  have D_padded : Def P w K mg base 1 "padded" ["text", "width", "side"] spPadded := def_of X G t.f_padded (fun _ _ _ _ _ _ us hl => match us, hl with | [_, _, _], _ => rfl) fun f fd F _ => ok_padded F T
  have D_beside : Def P w K mg base 5 "beside" ["cells", "widths", "sides"] spBeside := def_of X G t.f_beside (fun _ _ _ _ _ _ us hl => match us, hl with | [_, _, _], _ => rfl) fun f fd F _ => ok_beside F T (PySem.W.mg_of X G a0) D_filled D_text_at D_padded
  have D_l_draw : Def P w K mg base 1 "_law_draw" ["_law_script", "_law_tape", "_law_many"] (spDraw K) := def_of X G t.f__law_draw (fun _ _ _ _ _ _ us hl => match us, hl with | [_, _, _], _ => rfl) fun f fd F _ => ok_draw F T
  have D_l_word : Def P w K mg base 2 "_law_word" ["_law_script", "_law_tape", "_law_size"] (spWord K) := def_of X G t.f__law_word (fun _ _ _ _ _ _ us hl => match us, hl with | [_, _, _], _ => rfl) fun f fd F _ => ok_word F T D_l_draw
  have D_l_words : Def P w K mg base 3 "_law_words" ["_law_script", "_law_tape", "_law_width", "_law_many"] (spWords8 K) := def_of X G t.f__law_words (fun _ _ _ _ _ _ us hl => match us, hl with | [_, _, _, _], _ => rfl) fun f fd F _ => ok_words F T D_l_draw D_l_word
  have D_l_lead : Def P w K mg base 1 "_law_lead" ["_law_kind", "_law_wide", "_law_number"] spLead := def_of X G t.f__law_lead (fun _ _ _ _ _ _ us hl => match us, hl with | [_, _, _], _ => rfl) fun f fd F _ => ok_lead F T
  have D_l_rows_right : Def P w K mg base 2 "_law_rows_right" ["_law_words_here", "_law_width", "_law_kind", "_law_wide", "_law_rows"] spRight := def_of X G t.f__law_rows_right (fun _ _ _ _ _ _ us hl => match us, hl with | [_, _, _, _, _], _ => rfl) fun f fd F _ => ok_right F T D_l_lead
  have D_l_cut : Def P w K mg base 1 "_law_cut" ["_law_row", "_law_widths", "_law_sides"] spCut := def_of X G t.f__law_cut (fun _ _ _ _ _ _ us hl => match us, hl with | [_, _, _], _ => rfl) fun f fd F _ => ok_cut F T
  have D_l_right : Def P w K mg base 3 "_law_right" ["_law_cells", "_law_widths", "_law_sides", "_law_found"] spRight10 := def_of X G t.f__law_right (fun _ _ _ _ _ _ us hl => match us, hl with | [_, _, _, _], _ => rfl) fun f fd F _ => ok_right10 F T D_l_cut D_l_rows_right
  exact ok_law (fun_mk (st := sLaw) l cc kp) T D_l_draw D_l_words D_beside D_l_right
end K10

set_option Elab.async false
set_option linter.all false

open PySem PySem.W PySem.W.X PySem.W.ZRun PyProof.Rows
theorem L2.true_law {c : PySem.W.ClaimW} {cl : PySem.Str → Option PySem.Addr} {mean : PySem.ExcName → Option PySem.Value} {args : List PySem.W.WData} {s₁ s' : PySem.Shared} (hr : ∀ cls : PySem.ExcName, c.raises args cls = false) (hp : c.post args (.bool true) args = true)
    (h : OldK s₁.heap s'.heap ∧ s'.os = s₁.os ∧ PyProof.Rows.AllBare s'.gens) : PySem.W.GoodWG c cl mean args s₁ (Except.ok (PySem.Flow.ret (.bool true))) s' :=
  ⟨.inl ⟨_, .bool true, [], rfl, hr, .bool _, hp, fun _ => ⟨.nil, fun _ z => nomatch z⟩⟩, h⟩
set_option maxRecDepth 100000 in
set_option maxHeartbeats 0 in
theorem PySem.Challenge.cw_lightmark_k10_beside_holds : PySem.Challenge.rw_lightmark_k10_beside.Holds := by
  w_on; o_law; z_head; (case hw => w_witness2)
  k_fill
  intro w s₀ s₁ mg mb G y fa o pm cd doc dV kV ho hd hcd hD hmg hg args vals as L hpre hlay hrd hwl hlo
  z_open y L KX ZH ZN ZT
  refine Ground.open G ?_
  intro T B D TE TW
  wrow_args hpre hlay hrd hwl hlo
  rename_i ns _ _ _ _ _ _ _ a vs _ hL _ _ _ hI _ hlen _
  have htk := script_toks L ZT
  have hobj := script_obj L hL

  have t : K10.Top (L2.KOf KX) := by
    dsimp only [L2.KOf]
    constructor
    case f_filled => (refine' K10.fnIn_mk ?xa ?xl ?xc ?xk ?xp; (case xa => k_is); (case xl => k_is); (case xc => k_is); (case xk => k_is); (case xp => exact trivial))
    case f_last_piece => (refine' K10.fnIn_mk ?xa ?xl ?xc ?xk ?xp; (case xa => k_is); (case xl => k_is); (case xc => k_is); (case xk => k_is); (case xp => exact trivial))
    case f_room_behind => (refine' K10.fnIn_mk ?xa ?xl ?xc ?xk ?xp; (case xa => k_is); (case xl => k_is); (case xc => k_is); (case xk => k_is); (case xp => exact trivial))
    case f_beside => (refine' K10.fnIn_mk ?xa ?xl ?xc ?xk ?xp; (case xa => k_is); (case xl => k_is); (case xc => k_is); (case xk => k_is); (case xp => exact trivial))
    case f_no_lead => (refine' K10.fnIn_mk ?xa ?xl ?xc ?xk ?xp; (case xa => k_is); (case xl => k_is); (case xc => k_is); (case xk => k_is); (case xp => exact trivial))
    case f_text_at => (refine' K10.fnIn_mk ?xa ?xl ?xc ?xk ?xp; (case xa => k_is); (case xl => k_is); (case xc => k_is); (case xk => k_is); (case xp => exact trivial))
    case f_padded => (refine' K10.fnIn_mk ?xa ?xl ?xc ?xk ?xp; (case xa => k_is); (case xl => k_is); (case xc => k_is); (case xk => k_is); (case xp => exact trivial))
    case f__law_draw => (refine' K10.fnIn_mk ?xa ?xl ?xc ?xk ?xp; (case xa => k_is); (case xl => k_is); (case xc => k_is); (case xk => k_is); (case xp => exact trivial))
    case f__law_word => (refine' K10.fnIn_mk ?xa ?xl ?xc ?xk ?xp; (case xa => k_is); (case xl => k_is); (case xc => k_is); (case xk => k_is); (case xp => exact trivial))
    case f__law_words => (refine' K10.fnIn_mk ?xa ?xl ?xc ?xk ?xp; (case xa => k_is); (case xl => k_is); (case xc => k_is); (case xk => k_is); (case xp => exact trivial))
    case f__law_lead => (refine' K10.fnIn_mk ?xa ?xl ?xc ?xk ?xp; (case xa => k_is); (case xl => k_is); (case xc => k_is); (case xk => k_is); (case xp => exact trivial))
    case f__law_rows_right => (refine' K10.fnIn_mk ?xa ?xl ?xc ?xk ?xp; (case xa => k_is); (case xl => k_is); (case xc => k_is); (case xk => k_is); (case xp => exact trivial))
    case f__law_cut => (refine' K10.fnIn_mk ?xa ?xl ?xc ?xk ?xp; (case xa => k_is); (case xl => k_is); (case xc => k_is); (case xk => k_is); (case xp => exact trivial))
    case f__law_right => (refine' K10.fnIn_mk ?xa ?xl ?xc ?xk ?xp; (case xa => k_is); (case xl => k_is); (case xc => k_is); (case xk => k_is); (case xp => exact trivial))
    case f_law => (refine' K10.fnIn_mk ?xa ?xl ?xc ?xk ?xp; (case xa => k_is); (case xl => k_is); (case xc => k_is); (case xk => k_is); (case xp => exact trivial))
    case n_len => k_is
    case n_range => k_is
    case n_isinstance => k_is
    case n_bool => k_is
    case n_int => k_is
    case n_list => k_is
    case n_max => k_is
    case n_min => k_is
    case n_enumerate => k_is
    case n_str => k_is
    case n_sum => k_is
    case n_all => k_is
    case n_zip => k_is
  obtain ⟨fd, hb, hF⟩ := K10.all_law (P := PySem.Challenge.rw_lightmark_k10_beside.row.prog) (w := w) KX T.g hmg t
  refine wpAny_call (codeAny_mono (L2.law_call KX T.g T.b T.builtins T.nolimit hg (Nat.lt_of_lt_of_le (by decide) htk) hobj hI (Lw.big (by omega)) ⟨rfl, by decide, by decide⟩ hF hb (fun H hO hS => ⟨a, ns, rfl, hS, by omega, fun _ => rfl⟩) fun H e s' z => z) fun r s' q => ?_)
  obtain ⟨rfl, q⟩ := q
  exact L2.true_law (fun _ => rfl) (by with_unfolding_all rfl) q
#print axioms PySem.Challenge.cw_lightmark_k10_beside_holds

