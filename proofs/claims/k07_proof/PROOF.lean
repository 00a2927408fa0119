import PyProof.Rows.All
import Wide.All
import OpenK.AllK
import Wide.FinOn
import Lean
import PyProof.EqAt
import PyProof.EqKinds
import PyProof.TupleCall
import KE.KTryMore
import PyProof.NsDelKeeps
import KE.KNest
import PyProof.StrLawsTight
import PyProof.StrBlockI
import PyProof.StrBlock2
import PyProof.StrCalls6
import PyProof.Rows.StrCase
import PyProof.Rows.StrFirst
import KE.IntBitsLaws
import PySem.Challenge.RW_lightmark_k07_parts_refused_or_made
import OpenK.KFacts
-- CHANGE: your row's module here, as the last of these rows
set_option Elab.async false
set_option linter.all false
set_option maxRecDepth 100000
/-! THE HAND LAYER, for ints, bools, texts, own classes, LISTS and tuples (index, slices, in, append, pop ..), calls, loops. Paste it whole ahead of your own text; what your proof does not reach may be deleted. -/
namespace L2
open PySem PySem.Spec PyProof.Rows

/-- a key: an int or a str -/
abbrev Key := Sum Int Str
def keyIs : Key → Value → Bool
  | .inl k, v => Value.isInt k v
  | .inr x, v => Value.isStrOf x v
def keyH (w : World) : Key → Int
  | .inl k => hashInt k
  | .inr x => hashStr w x
theorem keyIs_shape : ∀ {k : Key} {v : Value}, keyIs k v = true → (∃ i t, k = Sum.inl i ∧ v = Value.int i t) ∨ (∃ x t, k = Sum.inr x ∧ v = Value.str x t)
  | .inl i, v, h => by
    obtain ⟨t, e⟩ := Value.isInt_shape (k := i) (v := v) h
    exact .inl ⟨i, t, rfl, e⟩
  | .inr x, v, h => by
    obtain ⟨t, e⟩ := Value.isStrOf_shape (x := x) (v := v) h
    exact .inr ⟨x, t, rfl, e⟩
theorem key_ll (a b : Int) : decide ((Sum.inl a : Key) = Sum.inl b) = (a == b) := by
  by_cases e : a = b
  · subst e; simp
  · have h : ¬ (Sum.inl a : Key) = Sum.inl b := fun q => e (Sum.inl.inj q)
    rw [decide_eq_false h]
    exact (beq_eq_false_iff_ne.mpr e).symm
theorem key_rr (a b : Str) : decide ((Sum.inr a : Key) = Sum.inr b) = decide (a = b) := by
  by_cases e : a = b
  · subst e; simp
  · have h : ¬ (Sum.inr a : Key) = Sum.inr b := fun q => e (Sum.inr.inj q)
    rw [decide_eq_false h, decide_eq_false e]
theorem key_lr (a : Int) (b : Str) : decide ((Sum.inl a : Key) = Sum.inr b) = false := decide_eq_false (fun q => nomatch q)
theorem key_rl (a : Str) (b : Int) : decide ((Sum.inr a : Key) = Sum.inl b) = false := decide_eq_false (fun q => nomatch q)

def mixKind (prog : Program) (w : World) : PySem.KeyKind prog w Key where
  is := keyIs
  hash := keyH w
  inj := fun v a b ha hb => by
    rcases keyIs_shape ha with ⟨i, t, rfl, rfl⟩ | ⟨x, t, rfl, rfl⟩
    · rcases keyIs_shape hb with ⟨j, u, rfl, e⟩ | ⟨y, u, rfl, e⟩
      · injection e with e1 _; rw [e1]
      · exact nomatch e
    · rcases keyIs_shape hb with ⟨j, u, rfl, e⟩ | ⟨y, u, rfl, e⟩
      · exact nomatch e
      · injection e with e1 _; rw [e1]
  byValue := fun k v h => by
    rcases keyIs_shape h with ⟨i, t, rfl, rfl⟩ | ⟨x, t, rfl, rfl⟩ <;> rfl
  pyHash := fun hv h => by
    rcases keyIs_shape hv with ⟨i, t, rfl, rfl⟩ | ⟨x, t, rfl, rfl⟩
    · exact wpAny_pyHash_int h
    · exact wpAny_pyHash_str h
  eqBool := fun hu hv h => by
    rcases keyIs_shape hu with ⟨i, t, rfl, rfl⟩ | ⟨x, t, rfl, rfl⟩
    · rcases keyIs_shape hv with ⟨j, u, rfl, rfl⟩ | ⟨y, u, rfl, rfl⟩
      · rw [key_ll] at h; exact wpAny_eqBool_int h
      · rw [key_lr] at h; exact SeqAt.EqAt.int_str i t y u _ _ _ _ h
    · rcases keyIs_shape hv with ⟨j, u, rfl, rfl⟩ | ⟨y, u, rfl, rfl⟩
      · rw [key_rl] at h; exact SeqAt.EqAt.str_int x t j u _ _ _ _ h
      · rw [key_rr] at h; exact wpAny_eqBool_str h
  «strs» := fun k x t v h => by
    rcases keyIs_shape h with ⟨i, u, rfl, e⟩ | ⟨y, u, rfl, e⟩
    · exact nomatch e
    · injection e with e1 _
      subst e1
      cases v <;> rfl

end L2

namespace L2
open PySem PySem.Spec PyProof.Rows

/-- a value, without the heap -/
inductive V where
  | non | bl (b : Bool) | int (i : Int) | str (x : Str) | byt (b : Array UInt8) | flt (b : UInt64) | ref (a : Addr) | ty (n : String)
  deriving DecidableEq

def RelV : V → Value → Prop
  | .non, u => u = Value.none
  | .bl b, u => u = Value.bool b
  | .int i, u => ∃ t, u = Value.int i t
  | .str x, u => ∃ t, u = Value.str x t
  | .byt b, u => ∃ t, u = Value.bytes b t
  | .flt b, u => ∃ t, u = Value.float b t
  | .ref a, u => u = Value.ref a
  | .ty n, u => u = Value.type n

abbrev Vals : List V → List Value → Prop := Paired RelV
theorem Vals.length {xs : List V} {us : List Value} (r : Vals xs us) : xs.length = us.length := Paired.length r
theorem Vals.get : ∀ {xs : List V} {us : List Value} {i : Nat} {x : V}, Vals xs us → xs[i]? = some x → ∃ u, us[i]? = some u ∧ RelV x u
  | _, _, _, _, .nil, e => by simp at e
  | _, _, 0, _, .cons r _, e => by simp at e; subst e; exact ⟨_, rfl, r⟩
  | _, _, i + 1, x, .cons _ t, e => by
    obtain ⟨u, h1, h2⟩ := Vals.get (i := i) (x := x) t (by simpa using e)
    exact ⟨u, by simpa using h1, h2⟩
theorem Vals.set {x : V} {u : Value} (r : RelV x u) : ∀ {xs : List V} {us : List Value} (i : Nat), Vals xs us → Vals (xs.set i x) (us.set i u)
  | _, _, _, .nil => .nil
  | _, _, 0, .cons _ t => .cons r t
  | _, _, i + 1, .cons q t => .cons q (Vals.set r i t)
theorem Vals.append : ∀ {xs ys : List V} {us ws : List Value}, Vals xs us → Vals ys ws → Vals (xs ++ ys) (us ++ ws)
  | _, _, _, _, .nil, s => s
  | _, _, _, _, .cons r t, s => .cons r (Vals.append t s)
theorem Vals.take : ∀ {xs : List V} {us : List Value} (n : Nat), Vals xs us → Vals (xs.take n) (us.take n)
  | _, _, 0, _ => .nil
  | _, _, _ + 1, .nil => .nil
  | _, _, n + 1, .cons r t => .cons r (Vals.take n t)
theorem Vals.drop : ∀ {xs : List V} {us : List Value} (n : Nat), Vals xs us → Vals (xs.drop n) (us.drop n)
  | _, _, 0, r => r
  | _, _, _ + 1, .nil => .nil
  | _, _, n + 1, .cons _ t => Vals.drop n t

def RelO : Option V → Option Value → Prop
  | some v, some u => RelV v u
  | none, none => True
  | _, _ => False
def KV {κ : Type} : List (κ × V) → List (κ × Value) → Prop := Paired fun (p : κ × V) (q : κ × Value) => p.1 = q.1 ∧ RelV p.2 q.2

/-- a key of a dict (00_mix): an int or a text -/
def kV : Key → V
  | .inl i => .int i
  | .inr x => .str x

/-- what stands at a tracked address -/
inductive HO where
  /-- a list -/
  | lst (xs : List V)
  /-- a tuple (never changes) -/
  | tup (xs : List V)
  /-- a dict whose keys are ints and texts; one whose keys are tuples of ints and texts (the empty one is both) -/
  | dK (kvs : List (Key × V)) | dT (kvs : List (List Key × V))
  /-- a set of ints: its members, its size -/
  | set (S : Int → Bool) (n : Nat)
  /-- an instance of the class at C, its dict at dx, its attributes -/
  | ins (C dx : Addr) (fs : List (Str × V))
  /-- the dict of the instance at x -/
  | own (x : Addr)
  /-- the dict of an exception -/
  | xd (fs : List (Str × V))
  /-- a bound method, f of x -/
  | met (f x : Addr)
  /-- a range object lo, lo + 1, .. below hi -/
  | rng (lo hi : Int)
  /-- a thing that is known to the object (the script; a dict while a loop walks it): read, never written while it is so -/
  | frz (o : Obj) (u : HO)
  /-- a code object's table -/
  | tbl (ps : Array Value)
  /-- any other thing, by what is true of its one object (a def of one's own: SetO a S n := HO.ext fun h => ..) -/
  | ext (φ : Heap → Prop)

abbrev Hp := Addr → Option HO
def upd (H : Hp) (a : Addr) (o : HO) : Hp := fun b => if b = a then some o else H b
theorem upd_same {H : Hp} {a : Addr} {o : HO} : upd H a o a = some o := by unfold upd; rw [if_pos rfl]
theorem upd_ne {H : Hp} {a b : Addr} {o : HO} (h : b ≠ a) : upd H a o b = H b := by unfold upd; rw [if_neg h]
theorem ne_of_none {H : Hp} {a b : Addr} {o : HO} (h : H a = some o) (h' : H b = none) : a ≠ b := by
  intro e; subst e; rw [h] at h'; cases h'

section
variable (P : Program) (w : World)
def ObjOk (H : Hp) (h : Heap) (a : Addr) : HO → Prop
  | .lst xs => xs.length ≤ sizeLine ∧ ∃ (its : List Value) (n : Nat), Vals xs its ∧ h.get? a = some { cls := .type "list", data := .seq its.toArray n }
  | .tup xs => xs.length ≤ sizeLine ∧ ∃ its : List Value, Vals xs its ∧ IsTup h a its.toArray
  | .dK kvs => kvs.length ≤ sizeLine ∧ (a == sysModules) = false ∧ ∃ vs, KV kvs vs ∧ h.DictOf (mixKind P w) a vs
  | .dT kvs => kvs.length ≤ sizeLine ∧ (a == sysModules) = false ∧ ∃ xs : List (List Key × Addr × Value),
      Paired (fun (p : List Key × V) (q : List Key × Addr × Value) => p.1 = q.1 ∧ H q.2.1 = some (.tup (p.1.map kV)) ∧ RelV p.2 q.2.2) kvs xs ∧
      ∃ o es ep, h.get? a = some o ∧ o.ExactDict ∧ o.data = .dict es ep ∧ es.toList = xs.map (entryOfKey (tupleKind (mixKind P w))) ∧ (xs.map (·.1)).Nodup
  | .set S n => h.SetOf (intKind P w) a S n
  | .ins C dx fs => H dx = some (.own a) ∧ fs.length ≤ 1000 ∧ dx ≠ a ∧ h.get? a = some (PySem.W.instObj C dx) ∧
      ∃ mA, h.Ns1 dx mA ∧ (∀ f, RelO (fs.lookup f) (mA f)) ∧ PySem.Within mA (fs.map (·.1))
  | .own _ => ∃ o, h.get? a = some o
  | .xd fs => ∃ mA, h.Ns1 a mA ∧ ∀ f, RelO (fs.lookup f) (mA f)
  | .rng lo hi => ∃ t u v, h.get? a = some { cls := .type "range", data := .fields #[.int lo t, .int hi u, .int 1 v] }
  | .frz o u => h.get? a = some o ∧ ObjOk H h a u
  | .tbl ps => h.get? a = some { cls := .none, data := .fields ps }
  | .met f x => h.get? a = some (PySem.W.methodObj (.ref f) (.ref x))
  | .ext φ => φ h ∧ (∃ o, h.get? a = some o) ∧ ∀ h1 h2 : Heap, φ h1 → (∀ o, h1.get? a = some o → h2.get? a = some o) → φ h2
/-- the abstract heap is held -/
def HOk (H : Hp) (h : Heap) : Prop := ∀ a o, H a = some o → ObjOk P w H h a o
end

section
variable {P : Program} {w : World} {H H' : Hp} {h h' : Heap} {a : Addr} {o : HO}
theorem ObjOk.lt (x : ObjOk P w H h a o) : a < h.objs.size := by
  cases o with
  | lst xs => obtain ⟨_, _, _, _, e⟩ := x; exact Heap.lt_size e
  | tup xs => obtain ⟨_, _, _, p⟩ := x; exact p.lt
  | dK kvs => obtain ⟨_, _, _, _, o, _, _, e, _⟩ := x; exact Heap.lt_size e
  | dT kvs => obtain ⟨_, _, _, _, o, _, _, e, _⟩ := x; exact Heap.lt_size e
  | set S n => obtain ⟨o, _, _, _, e, _⟩ := x; exact Heap.lt_size e
  | ins C dx fs => obtain ⟨_, _, _, e, _⟩ := x; exact Heap.lt_size e
  | own y => obtain ⟨_, e⟩ := x; exact Heap.lt_size e
  | xd fs => obtain ⟨_, ⟨_, _, _, e, _⟩, _⟩ := x; exact Heap.lt_size e
  | rng lo hi => obtain ⟨_, _, _, e⟩ := x; exact Heap.lt_size e
  | frz ob u => obtain ⟨e, _⟩ := x; exact Heap.lt_size e
  | tbl ps => exact Heap.lt_size (show h.get? a = some _ from x)
  | met f y => exact Heap.lt_size (show h.get? a = some _ from x)
  | ext φ => obtain ⟨_, ⟨_, e⟩, _⟩ := x; exact Heap.lt_size e
theorem Paired.mapP {α β : Type} {F G : α → β → Prop} : ∀ {l₁ : List α} {l₂ : List β}, Paired F l₁ l₂ → (∀ a b, F a b → G a b) → Paired G l₁ l₂
  | _, _, .nil, _ => .nil
  | _, _, .cons r t, f => .cons (f _ _ r) (Paired.mapP t f)
/-- what an object's description leans on: its own object, its own dict, the tuples -/
theorem ObjOk.stay (x : ObjOk P w H h a o) (k : ∀ b u, (b = a ∨ H b = some (.own a)) → h.get? b = some u → h'.get? b = some u)
    (ho : ∀ b, H b = some (.own a) → H' b = some (.own a)) (ht : ∀ b xs, H b = some (.tup xs) → H' b = some (.tup xs)) : ObjOk P w H' h' a o := by
  induction o with
  | lst xs => obtain ⟨z, its, n, r, e⟩ := x; exact ⟨z, its, n, r, k _ _ (.inl rfl) e⟩
  | tup xs => obtain ⟨z, its, r, ob, e, c⟩ := x; exact ⟨z, its, r, ob, k _ _ (.inl rfl) e, c⟩
  | dK kvs => obtain ⟨z, y, vs, r, ob, es, ep, e, c⟩ := x; exact ⟨z, y, vs, r, ob, es, ep, k _ _ (.inl rfl) e, c⟩
  | dT kvs =>
    obtain ⟨z, y, xs, r, ob, es, ep, e, c⟩ := x
    exact ⟨z, y, xs, Paired.mapP r fun p q z => ⟨z.1, ht _ _ z.2.1, z.2.2⟩, ob, es, ep, k _ _ (.inl rfl) e, c⟩
  | set S n => obtain ⟨ob, es, ep, t, e, c⟩ := x; exact ⟨ob, es, ep, t, k _ _ (.inl rfl) e, c⟩
  | ins C dx fs =>
    obtain ⟨d, z, ne, e, mA, ⟨od, es, ep, e2, c⟩, r⟩ := x
    exact ⟨ho _ d, z, ne, k _ _ (.inl rfl) e, mA, ⟨od, es, ep, k _ _ (.inr d) e2, c⟩, r⟩
  | own y => obtain ⟨ob, e⟩ := x; exact ⟨ob, k _ _ (.inl rfl) e⟩
  | xd fs => obtain ⟨mA, ⟨od, es, ep, e, c⟩, r⟩ := x; exact ⟨mA, ⟨od, es, ep, k _ _ (.inl rfl) e, c⟩, r⟩
  | rng lo hi => obtain ⟨t, u, v, e⟩ := x; exact ⟨t, u, v, k _ _ (.inl rfl) e⟩
  | frz ob u ih => obtain ⟨e, q⟩ := x; exact ⟨k _ _ (.inl rfl) e, ih q⟩
  | tbl ps =>
    have e : h.get? a = some { cls := .none, data := .fields ps } := x
    show h'.get? a = some { cls := .none, data := .fields ps }
    exact k a _ (.inl rfl) e
  | met f y =>
    have e : h.get? a = some (PySem.W.methodObj (.ref f) (.ref y)) := x
    show h'.get? a = some (PySem.W.methodObj (.ref f) (.ref y))
    exact k a _ (.inl rfl) e
  | ext φ => obtain ⟨p, ⟨o, e⟩, st⟩ := x; exact ⟨st _ _ p fun o q => k _ _ (.inl rfl) q, ⟨o, k _ _ (.inl rfl) e⟩, st⟩
theorem HOk.lt (x : HOk P w H h) (e : H a = some o) : a < h.objs.size := (x a o e).lt
theorem HOk.fresh (x : HOk P w H h) (e : h.objs.size ≤ a) : H a = none := by
  cases q : H a with
  | none => rfl
  | some u => exact absurd (Nat.lt_of_lt_of_le (x.lt q) e) (Nat.lt_irrefl _)
/-- every object of the heap is kept -/
theorem HOk.kept (x : HOk P w H h) (k : ∀ b u, h.get? b = some u → h'.get? b = some u) : HOk P w H h' := fun a o e =>
  (x a o e).stay (fun b u _ q => k b u q) (fun _ q => q) fun _ _ q => q
/-- a new object is laid and tracked -/
theorem HOk.laid (x : HOk P w H h) (k : ∀ b u, h.get? b = some u → h'.get? b = some u) (hp : h.objs.size ≤ a) (new : ObjOk P w (upd H a o) h' a o) : HOk P w (upd H a o) h' := fun b u e => by
  have hn := x.fresh hp
  by_cases hb : b = a
  · subst hb; rw [upd_same] at e; cases e; exact new
  · rw [upd_ne hb] at e
    exact (x b u e).stay (fun c v _ q => k c v q) (fun c q => by rw [upd_ne (ne_of_none q hn)]; exact q) fun c xs q => by rw [upd_ne (ne_of_none q hn)]; exact q
end

/-- what may be read as u: it is u, or a known u -/
def Rd (H : Hp) (a : Addr) (u : HO) : Prop := H a = some u ∨ ∃ o, H a = some (.frz o u)
theorem Rd.ok {P : Program} {w : World} {H : Hp} {h : Heap} {a : Addr} {u : HO} (r : Rd H a u) (x : HOk P w H h) : ObjOk P w H h a u := by
  rcases r with r | ⟨o, r⟩
  · exact x a u r
  · obtain ⟨_, q⟩ := x a _ r
    exact q
/-- what may be written -/
def Mut : Option HO → Prop
  | some (.lst _) => True
  | some (.dK _) => True
  | some (.dT _) => True
  | some (.set _ _) => True
  | some (.ins _ _ _) => True
  | some (.ext _) => True
  | _ => False
section
variable {P : Program} {w : World} {H : Hp} {h h' : Heap} {x e : Addr} {o' : HO}
/-- the object at e is changed: x itself, or the dict of the instance x -/
theorem HOk.write (ok : HOk P w H h) (mu : Mut (H x)) (he : e = x ∨ H e = some (.own x)) (k : ∀ b u, b ≠ e → h.get? b = some u → h'.get? b = some u) (heo : ∃ u, h'.get? e = some u)
    (new : ObjOk P w (upd H x o') h' x o') : HOk P w (upd H x o') h' := fun b u q => by
  have nown : ∀ c y, H c = some (.own y) → c ≠ x := fun c y r z => by subst z; rw [r] at mu; exact mu
  have ntup : ∀ c xs, H c = some (.tup xs) → c ≠ x := fun c xs r z => by subst z; rw [r] at mu; exact mu
  by_cases hb : b = x
  · subst hb; rw [upd_same] at q; cases q; exact new
  · rw [upd_ne hb] at q
    by_cases hbe : b = e
    · have q' : H b = some (.own x) := by
        rcases he with z | z
        · exact absurd (hbe.trans z) hb
        · rw [hbe]; exact z
      rw [q] at q'; cases q'
      obtain ⟨v, hv⟩ := heo
      exact ⟨v, by rw [hbe]; exact hv⟩
    · refine (ok b u q).stay (fun c v hc r => k c v ?_ r) (fun c r => by rw [upd_ne (nown c b r)]; exact r) fun c xs r => by rw [upd_ne (ntup c xs r)]; exact r
      rcases hc with rfl | hc
      · exact hbe
      · rintro rfl
        rcases he with z | z
        · exact nown c b hc z
        · rw [hc] at z; cases z; exact hb rfl
end

/-! ### kept unless tracked; of the frames at fs (the callers') the slots may change (an exception that passes writes there); of the records at ex (iterators) nothing is said -/
structure Un (fs ex : List Addr) (H H' : Hp) (h h' : Heap) : Prop where
  keep : ∀ b o, h.get? b = some o → H b = none → b ∉ fs → b ∉ ex → h'.get? b = some o
  slot : ∀ b o, h.get? b = some o → H b = none → b ∈ fs → b ∉ ex → ∃ sl, h'.get? b = some { o with slots := sl }
  free : ∀ b o, h.get? b = some o → H b = none → b ∉ ex → H' b = none
  there : ∀ b o, h.get? b = some o → b ∉ ex → ∃ o', h'.get? b = some o'
  tups : ∀ b xs, H b = some (.tup xs) → H' b = some (.tup xs)
  frzs : ∀ b o u, H b = some (.frz o u) → H' b = some (.frz o u)
  tbls : ∀ b ps, H b = some (.tbl ps) → ∃ more, H' b = some (.tbl (ps ++ more))
section
variable {fs fs' ex ex' : List Addr} {H H1 H2 : Hp} {h h1 h2 h' : Heap} {a x e : Addr} {o : HO}
theorem Un.any (u : Un fs ex H H1 h h1) {b : Addr} {ob : Obj} (q : h.get? b = some ob) (n : H b = none) (hx : b ∉ ex) : ∃ sl, h1.get? b = some { ob with slots := sl } := by
  by_cases hb : b ∈ fs
  · exact u.slot b ob q n hb hx
  · exact ⟨ob.slots, u.keep b ob q n hb hx⟩
theorem Un.kept (k : ∀ b u, h.get? b = some u → h'.get? b = some u) : Un fs ex H H h h' :=
  ⟨fun b ob q _ _ _ => k b ob q, fun b ob q _ _ _ => ⟨ob.slots, k b ob q⟩, fun _ _ _ n _ => n, fun b ob q _ => ⟨ob, k b ob q⟩, fun _ _ q => q, fun _ _ _ q => q, fun _ ps q => ⟨#[], by rw [q]; simp⟩⟩
theorem Un.refl : Un fs ex H H h h := Un.kept fun _ _ q => q
theorem Un.laid (k : ∀ b u, h.get? b = some u → h'.get? b = some u) (hp : h.objs.size ≤ a) (hn : H a = none) : Un fs ex H (upd H a o) h h' where
  keep := fun b u q _ _ _ => k b u q
  slot := fun b u q _ _ _ => ⟨u.slots, k b u q⟩
  free := fun b u q n _ => by rw [upd_ne (Nat.ne_of_lt (Nat.lt_of_lt_of_le (Heap.lt_size q) hp))]; exact n
  there := fun b u q _ => ⟨u, k b u q⟩
  tups := fun b xs q => by rw [upd_ne (ne_of_none q hn)]; exact q
  frzs := fun b u xs q => by rw [upd_ne (ne_of_none q hn)]; exact q
  tbls := fun b ps q => ⟨#[], by rw [upd_ne (ne_of_none q hn), q]; simp⟩
theorem Un.write (mu : Mut (H x)) (he : e = x ∨ H e = some (.own x)) (k : ∀ b u, b ≠ e → h.get? b = some u → h'.get? b = some u) (heo : ∃ u, h'.get? e = some u) : Un fs ex H (upd H x o) h h' := by
  have hx : ∀ b, H b = none → b ≠ x := fun b n z => by subst z; rw [n] at mu; exact mu
  have hb : ∀ b, H b = none → b ≠ e := fun b n z => by
    subst z
    rcases he with r | r
    · exact hx b n r
    · rw [n] at r; cases r
  have hm : ∀ b u, H b = some u → ¬ Mut (some u) → b ≠ x := fun b u q nm z => by subst z; rw [q] at mu; exact nm mu
  refine ⟨fun b u q n _ _ => k b u (hb b n) q, fun b u q n _ _ => ⟨u.slots, k b u (hb b n) q⟩, fun b u q n _ => by rw [upd_ne (hx b n)]; exact n, fun b u q _ => ?_,
    fun b xs q => by rw [upd_ne (hm b _ q fun z => z)]; exact q, fun b u xs q => by rw [upd_ne (hm b _ q fun z => z)]; exact q, fun b ps q => ⟨#[], by rw [upd_ne (hm b _ q fun z => z), q]; simp⟩⟩
  by_cases hbe : b = e
  · subst hbe; exact heo
  · exact ⟨u, k b u hbe q⟩
end

/-! ### the heap without what is tracked -/
def trk (h : Heap) (H : Hp) : List Addr := (List.range h.objs.size).filter fun a => (H a).isSome
def hidT (h : Heap) (H : Hp) : Heap := PySem.W.hideAll h (trk h H)
theorem hidT_size (h : Heap) (H : Hp) : (hidT h H).objs.size = h.objs.size := PySem.W.hideAll_size _ _
theorem hidT_get {h : Heap} {H : Hp} {b : Addr} {o : Obj} (e : h.get? b = some o) (n : H b = none) : (hidT h H).get? b = some o :=
  PySem.W.hideAll_get _ e fun hm => by
    have q : (H b).isSome = true := (List.mem_filter.mp hm).2
    rw [n] at q; simp at q
theorem of_hidT {h : Heap} {H : Hp} {b : Addr} {o : Obj} (e : (hidT h H).get? b = some o) : h.get? b = some o ∧ H b = none := by
  have e' : h.get? b = some o := PySem.W.of_hideAll (trk h H) e
  refine ⟨e', ?_⟩
  cases q : H b with
  | none => rfl
  | some x =>
    have hm : b ∈ trk h H := List.mem_filter.mpr ⟨List.mem_range.mpr (Heap.lt_size e'), by simp [q]⟩
    have z : (hidT h H).get? b = none := PySem.W.hideAll_none (trk h H) hm
    rw [z] at e; cases e

/-! ### OpenK's ledger, filled with every new object but one -/
end L2

namespace L2
open PySem PySem.Spec PyProof.Rows

/-- the module's facts, over the base: the heap at the law's entry without what is tracked there -/
structure Mod (K : PySem.W.Frag) (mg : Str → Option Value) (base : Heap) : Prop where
  kin : K.In base
  glob : base.Ns mainGlobals mg
  blt : ∃ mb, base.Ns builtinsNs mb ∧ ∀ x : Str, x ≠ "__name__" → mb x = bootBuiltins x
  nolimit : base.NoLimit

/-- the context: a def's body (or a comprehension's block) running. base: fixed through the whole law; s₀, H₀: the entry; outer: the frames whose slots others may change (a def's callers); stack: all frames that run;
   ex: iterators that were made ahead of the entry and are walked here (a comprehension's); fn: the names whose cells were made at the entry (a def: all; a comprehension's block: its own); calm: not within an except suite; pn: pins that every state bears; xe: what is wanted of an exception that leaves the code -/
structure Cx where
  prog : Program
  w : World
  K : PySem.W.Frag
  mg : Str → Option Value
  base : Heap
  A : Around
  N : List Str
  s₀ : Shared
  H₀ : Hp
  env : Env
  outer : List Env
  stack : List Env
  ex : List Addr
  fn : Str → Bool
  calm : Bool
  pn : List (Addr × Obj)
  xe : Value → Shared → Prop
/-- the callers' frames -/
def frs (l : List Env) : List Addr := l.filterMap (·.frame)
abbrev Cx.fs (X : Cx) : List Addr := frs X.outer

def Vis (sc : Scope) (x : Str) : Prop := sc.names.lookup x = some .local ∨ sc.names.lookup x = some .cell ∨ sc.names.lookup x = some .free
def Loc (sc : Scope) (x : Str) : Prop := sc.names.lookup x = some .local ∨ sc.names.lookup x = some .cell
def Look (env : Env) (h : Heap) (m : Str → Option Value) (x : Str) (u : Value) : Prop :=
  (env.kindOf x = some .local ∧ m x = some u) ∨ ((env.kindOf x = some .cell ∨ env.kindOf x = some .free) ∧ ∃ c, env.cells.lookup x = some c ∧ h.IsCell c (some u))

structure Cx.Ok (X : Cx) : Prop where
  mod : Mod X.K X.mg X.base
  kind : X.env.scope.kind = .function
  glob : X.env.globals = mainGlobals
  blt : X.env.builtins = builtinsNs
  above : X.s₀.heap.objs.size ≤ X.env.locals
  inj : ∀ x y c, X.env.cells.lookup x = some c → X.env.cells.lookup y = some c → x = y
  has : ∀ x, (X.env.kindOf x = some .cell ∨ X.env.kindOf x = some .free) → ∃ c, X.env.cells.lookup x = some c
  cab : ∀ x c, X.fn x = true → X.env.cells.lookup x = some c → X.s₀.heap.objs.size ≤ c
  hd : X.calm = true → X.A.handled = none
  frames : X.A.frames = some X.stack
  stk : X.stack = X.outer ∨ (X.stack = X.env :: X.outer ∧ X.env.frame = some X.env.locals)
  exf : ∀ b ∈ X.ex, b ≠ X.env.locals ∧ ∀ x c, X.env.cells.lookup x = some c → c ≠ b
  bs : ∀ b o, X.base.get? b = some o → X.s₀.heap.get? b = some o ∧ X.H₀ b = none
  bsz : X.base.objs.size ≤ X.s₀.heap.objs.size
  noex : ∀ b o, X.base.get? b = some o → b ∉ X.ex
  exfs : ∀ b ∈ X.ex, b ∉ X.fs
  funs : X.s₀.heap.FunFrames X.base X.outer
  frf : ∀ b ∈ X.fs, X.H₀ b = none

structure Inv (X : Cx) (pins : List (Addr × Obj)) (σ : List (Option V)) (H : Hp) (s : Shared) : Prop where
  ok : X.Ok
  os : s.os = X.s₀.os
  bare : AllBare s.gens
  base : Un X.fs X.ex X.H₀ H X.s₀.heap s.heap
  loc : ∃ m, s.heap.Ns X.env.locals m ∧ ∀ (i : Nat) (x : Str) (v : V), X.N[i]? = some x → σ[i]? = some (some v) → Vis X.env.scope x → ∃ u, RelV v u ∧ Look X.env s.heap m x u
  cell : ∀ x c, X.env.cells.lookup x = some c → ∃ v, s.heap.IsCell c v
  free : H X.env.locals = none
  freeC : ∀ x c, X.env.cells.lookup x = some c → H c = none
  pin : ∀ p ∈ X.pn ++ pins, s.heap.get? p.1 = some p.2 ∧ H p.1 = none ∧ p.1 ≠ X.env.locals ∧ p.1 ∉ X.fs ∧ ∀ v, p.2.data ≠ .cell v
  hok : HOk X.prog X.w H s.heap
  len : σ.length = X.N.length
  tk : 0 < s.toks

section
variable {X : Cx} {pins : List (Addr × Obj)} {σ : List (Option V)} {H H' : Hp} {s : Shared} {h' : Heap}

theorem Cx.Ok.nofr (ok : X.Ok) {b : Addr} {o : Obj} (e : X.base.get? b = some o) : b ∉ X.fs := fun hb => by
  have := (ok.funs.mem hb).1
  rw [e] at this; cases this
theorem Inv.bs (I : Inv X pins σ H s) : ∀ b o, X.base.get? b = some o → s.heap.get? b = some o ∧ H b = none := fun b o e =>
  ⟨I.base.keep b o (I.ok.bs b o e).1 (I.ok.bs b o e).2 (I.ok.nofr e) (I.ok.noex b o e), I.base.free b o (I.ok.bs b o e).1 (I.ok.bs b o e).2 (I.ok.noex b o e)⟩
theorem Inv.bk (I : Inv X pins σ H s) : ∀ b o, X.base.get? b = some o → s.heap.get? b = some o := fun b o e => (I.bs b o e).1
theorem Inv.mod (I : Inv X pins σ H s) : Mod X.K X.mg X.base := I.ok.mod
theorem Inv.kIn (I : Inv X pins σ H s) : X.K.In s.heap := I.ok.mod.kin.keeps I.bk
theorem Inv.lt (I : Inv X pins σ H s) : X.env.locals < s.heap.objs.size := let ⟨_, hn, _⟩ := I.loc; hn.lt
theorem Inv.sz (I : Inv X pins σ H s) : X.s₀.heap.objs.size ≤ s.heap.objs.size := Nat.le_trans I.ok.above (Nat.le_of_lt I.lt)
theorem Inv.nofs (I : Inv X pins σ H s) {a : Addr} (h : s.heap.objs.size ≤ a) : a ∉ X.fs := fun hb => by
  obtain ⟨_, o, ho, _⟩ := I.ok.funs.mem hb
  exact absurd (Nat.lt_of_lt_of_le (Heap.lt_size ho) (Nat.le_trans I.sz h)) (Nat.lt_irrefl _)
theorem Inv.cne (I : Inv X pins σ H s) : ∀ x c, X.env.cells.lookup x = some c → c ≠ X.env.locals := fun x c e z => by
  obtain ⟨v, o, ho, hd⟩ := I.cell x c e
  obtain ⟨m, ⟨o', es, ep, ho', hd', _⟩, _⟩ := I.loc
  rw [z, ho'] at ho; cases ho; rw [hd'] at hd; cases hd
theorem Inv.funs (I : Inv X pins σ H s) : s.heap.FunFrames X.base X.outer := by
  have all : ∀ (l : List Env), (∀ b ∈ frs l, b ∈ X.fs) → X.s₀.heap.FunFrames X.base l → s.heap.FunFrames X.base l := by
    intro l
    induction l with
    | nil => intro _ _; trivial
    | cons env r ih =>
      intro hs hl
      obtain ⟨hk, ⟨L, o, hf, hn, ho, hd⟩, hr⟩ := hl
      have hL : L ∈ X.fs := hs L (by unfold frs; rw [List.filterMap_cons, hf]; exact List.mem_cons_self)
      obtain ⟨sl, e⟩ := I.base.slot L o ho (I.ok.frf L hL) hL fun z => I.ok.exfs L z hL
      exact ⟨hk, ⟨L, _, hf, hn, e, hd⟩, ih (fun b hb => hs b (by unfold frs; rw [List.filterMap_cons, hf]; exact List.mem_cons_of_mem _ hb)) hr⟩
  exact all X.outer (fun _ hb => hb) I.ok.funs

/-- the frames that run, for a call -/
theorem Inv.stack (I : Inv X pins σ H s) : s.heap.FunFrames X.base X.stack := by
  rcases I.ok.stk with e | ⟨e, hf⟩
  · rw [e]; exact I.funs
  · rw [e]
    obtain ⟨m, hn, _⟩ := I.loc
    refine .cons (by rw [I.ok.kind]; decide) hf hn ?_ I.funs
    exact Heap.get?_none_of_le (Nat.le_trans I.ok.bsz I.ok.above)
theorem Inv.stkSub (I : Inv X pins σ H s) : ∀ b ∈ frs X.stack, b ∈ X.env.locals :: X.fs := fun b hb => by
  rcases I.ok.stk with e | ⟨e, hf⟩
  · rw [e] at hb; exact List.mem_cons_of_mem _ hb
  · rw [e] at hb
    unfold frs at hb
    rw [List.filterMap_cons, hf] at hb
    exact hb
theorem Inv.stkFree (I : Inv X pins σ H s) : ∀ b ∈ frs X.stack, H b = none := fun b hb => by
  rcases List.mem_cons.mp (I.stkSub b hb) with e | hb
  · rw [e]; exact I.free
  · obtain ⟨_, o, ho, _⟩ := I.ok.funs.mem hb
    exact I.base.free b o ho (I.ok.frf b hb) fun z => I.ok.exfs b z hb

/-- THE STEP: the untracked objects but the frame and the records at ch are kept (the callers' frames up to slots), the frame's map is kept, the new abstract heap is held -/
theorem Inv.step {g' : Array GenState} {t' : Nat} {d' : Drawn} {ch : List Addr} (I : Inv X pins σ H s)
    (hch : ∀ b ∈ ch, (b ∈ X.ex ∨ X.s₀.heap.objs.size ≤ b) ∧ b ≠ X.env.locals ∧ (∀ x c, X.env.cells.lookup x = some c → c ≠ b) ∧ ∀ p ∈ X.pn ++ pins, p.1 ≠ b)
    (keep : ∀ b o, b ≠ X.env.locals → b ∉ X.fs → b ∉ ch → s.heap.get? b = some o → H b = none → h'.get? b = some o)
    (slot : ∀ b o, b ≠ X.env.locals → b ∈ X.fs → b ∉ ch → s.heap.get? b = some o → H b = none → ∃ sl, h'.get? b = some { o with slots := sl }) (free : ∀ b o, b ∉ ch → s.heap.get? b = some o → H b = none → H' b = none)
    (there : ∀ b o, b ∉ ch → s.heap.get? b = some o → ∃ o', h'.get? b = some o')
    (tups : ∀ b xs, H b = some (.tup xs) → H' b = some (.tup xs)) (frzs : ∀ b o u, H b = some (.frz o u) → H' b = some (.frz o u)) (tbls : ∀ b ps, H b = some (.tbl ps) → ∃ more, H' b = some (.tbl (ps ++ more)))
    (ns : ∀ m, s.heap.Ns X.env.locals m → h'.Ns X.env.locals m) (hok : HOk X.prog X.w H' h') (hg : AllBare g') (ht : 0 < t' := by first | assumption | exact Nat.succ_pos _ | (apply Inv.tk; assumption)) :
    Inv X pins σ H' { s with heap := h', gens := g', drawn := d', toks := t' } := by
  have neL : ∀ b o, X.s₀.heap.get? b = some o → b ≠ X.env.locals := fun b o e => Nat.ne_of_lt (Nat.lt_of_lt_of_le (Heap.lt_size e) I.ok.above)
  have neC : ∀ b o, X.s₀.heap.get? b = some o → b ∉ X.ex → b ∉ ch := fun b o e hx hb => by
    rcases (hch b hb).1 with z | z
    · exact hx z
    · exact absurd (Nat.lt_of_lt_of_le (Heap.lt_size e) z) (Nat.lt_irrefl _)
  have cellK : ∀ x c, X.env.cells.lookup x = some c → ∀ v, s.heap.IsCell c v → h'.IsCell c v := fun x c e v ⟨o, ho, hd⟩ => by
    have nch : c ∉ ch := fun z => (hch c z).2.2.1 x c e rfl
    by_cases hc : c ∈ X.fs
    · obtain ⟨sl, q⟩ := slot c o (I.cne x c e) hc nch ho (I.freeC x c e)
      exact ⟨_, q, hd⟩
    · exact ⟨o, keep c o (I.cne x c e) hc nch ho (I.freeC x c e), hd⟩
  refine ⟨I.ok, I.os, hg, ⟨fun b o e n hb hx => ?_, fun b o e n hb hx => ?_, fun b o e n hx => ?_, fun b o e hx => ?_, fun b xs e => tups b xs (I.base.tups b xs e), fun b o xs e => frzs b o xs (I.base.frzs b o xs e), fun b ps e => ?_⟩, ?_, fun x c e => ?_, ?_, fun x c e => ?_, fun p hp => ?_, hok, I.len, ht⟩
  · exact keep b o (neL b o e) hb (neC b o e hx) (I.base.keep b o e n hb hx) (I.base.free b o e n hx)
  · obtain ⟨sl, e1⟩ := I.base.slot b o e n hb hx
    obtain ⟨sl', e2⟩ := slot b _ (neL b o e) hb (neC b o e hx) e1 (I.base.free b o e n hx)
    exact ⟨sl', e2⟩
  · obtain ⟨o', e1⟩ := I.base.there b o e hx
    exact free b o' (neC b o e hx) e1 (I.base.free b o e n hx)
  · obtain ⟨o', e1⟩ := I.base.there b o e hx
    exact there b o' (neC b o e hx) e1
  · obtain ⟨m1, e1⟩ := I.base.tbls b ps e
    obtain ⟨m2, e2⟩ := tbls b _ e1
    exact ⟨m1 ++ m2, by rw [e2, Array.append_assoc]⟩
  · obtain ⟨m, hn, hl⟩ := I.loc
    refine ⟨m, ns m hn, fun i x v e1 e2 e3 => ?_⟩
    obtain ⟨u, r, l⟩ := hl i x v e1 e2 e3
    refine ⟨u, r, ?_⟩
    rcases l with l | ⟨k, c, e, z⟩
    · exact .inl l
    · exact .inr ⟨k, c, e, cellK x c e _ z⟩
  · obtain ⟨v, z⟩ := I.cell x c e
    exact ⟨v, cellK x c e v z⟩
  · obtain ⟨m, ⟨o, _, _, ho, _⟩, _⟩ := I.loc
    exact free _ o (fun z => (hch _ z).2.1 rfl) ho I.free
  · obtain ⟨v, o, ho, hd⟩ := I.cell x c e
    exact free c o (fun z => (hch c z).2.2.1 x c e rfl) ho (I.freeC x c e)
  · obtain ⟨e, n, ne, nf, d⟩ := I.pin p hp
    have nch : p.1 ∉ ch := fun z => (hch p.1 z).2.2.2 p hp rfl
    exact ⟨keep p.1 p.2 ne nf nch e n, free p.1 p.2 nch e n, ne, nf, d⟩
/-- .. where the frame's own object is kept too -/
theorem Inv.un {t' : Nat} (I : Inv X pins σ H s) (u : Un X.fs [] H H' s.heap h') (hok : HOk X.prog X.w H' h') (ht : 0 < t' := by first | assumption | exact Nat.succ_pos _ | (apply Inv.tk; assumption)) : Inv X pins σ H' { s with heap := h', toks := t' } := by
  obtain ⟨m, ⟨o, es, ep, ho, r⟩, _⟩ := id I.loc
  obtain ⟨sl, hL⟩ := u.any ho I.free (by simp)
  exact I.step (g' := s.gens) (d' := s.drawn) (ch := []) (fun _ z => nomatch z) (fun b o _ hb _ e n => u.keep b o e n hb (by simp)) (fun b o _ hb _ e n => u.slot b o e n hb (by simp)) (fun b o _ e n => u.free b o e n (by simp)) (fun b o _ e => u.there b o e (by simp)) u.tups u.frzs u.tbls (fun m' hm => by
    obtain ⟨o', es', ep', ho', r'⟩ := hm
    rw [ho] at ho'; cases ho'
    exact ⟨_, es', ep', hL, r'⟩) hok I.bare
/-- behind a call (or a comprehension's block): the slots of this frame may have changed too, the records at ch may have turned -/
theorem Inv.call {g' : Array GenState} {t' : Nat} {d' : Drawn} {ch : List Addr} (I : Inv X pins σ H s) (u : Un (frs X.stack) ch H H' s.heap h') (hok : HOk X.prog X.w H' h') (hg : AllBare g')
    (hch : ∀ b ∈ ch, (b ∈ X.ex ∨ X.s₀.heap.objs.size ≤ b) ∧ b ≠ X.env.locals ∧ (∀ x c, X.env.cells.lookup x = some c → c ≠ b) ∧ ∀ p ∈ X.pn ++ pins, p.1 ≠ b) (ht : 0 < t' := by first | assumption | exact Nat.succ_pos _ | (apply Inv.tk; assumption)) :
    Inv X pins σ H' { s with heap := h', gens := g', drawn := d', toks := t' } := by
  obtain ⟨m, ⟨o, es, ep, ho, r⟩, _⟩ := id I.loc
  obtain ⟨sl, hL⟩ := u.any ho I.free fun z => (hch _ z).2.1 rfl
  exact I.step (ch := ch) hch (fun b o hL hb hc e n => u.keep b o e n (fun z => (List.mem_cons.mp (I.stkSub b z)).elim hL hb) hc) (fun b o _ _ hc e n => u.any e n hc) (fun b o hc e n => u.free b o e n hc) (fun b o hc e => u.there b o e hc) u.tups u.frzs u.tbls (fun m' hm => by
    obtain ⟨o', es', ep', ho', r'⟩ := hm
    rw [ho] at ho'; cases ho'
    exact ⟨_, es', ep', hL, r'⟩) hok hg
/-- an untracked record of ours (an iterator) has turned -/
theorem Inv.turned {t' : Nat} {it : Addr} (I : Inv X pins σ H s) (k : ∀ b o, b ≠ it → s.heap.get? b = some o → h'.get? b = some o) (hn : H it = none) (hL : it ≠ X.env.locals)
    (h1 : it ∈ X.ex ∨ X.s₀.heap.objs.size ≤ it) (h2 : ∀ x c, X.env.cells.lookup x = some c → c ≠ it) (h3 : ∀ p ∈ X.pn ++ pins, p.1 ≠ it) (ht : 0 < t' := by first | assumption | exact Nat.succ_pos _ | (apply Inv.tk; assumption)) : Inv X pins σ H { s with heap := h', toks := t' } := by
  have nit : ∀ b u, H b = some u → b ≠ it := fun b u e z => by rw [z, hn] at e; cases e
  refine I.step (g' := s.gens) (d' := s.drawn) (ch := [it]) (fun b hb => ?_) (fun b o _ _ hc e _ => k b o (fun z => hc (by simp [z])) e) (fun b o _ _ hc e _ => ⟨o.slots, k b o (fun z => hc (by simp [z])) e⟩) (fun _ _ _ _ n => n)
    (fun b o hc e => ⟨o, k b o (fun z => hc (by simp [z])) e⟩) (fun _ _ e => e) (fun _ _ _ e => e) (fun b ps e => ⟨#[], by rw [e]; simp⟩) (fun m hm => ?_) (fun b u e => ?_) I.bare
  · have e : b = it := by simpa using hb
    subst e
    exact ⟨h1, hL, h2, h3⟩
  · obtain ⟨o, es, ep, ho, r⟩ := hm
    exact ⟨o, es, ep, k _ o (Ne.symm hL) ho, r⟩
  · refine (I.hok b u e).stay (fun c v hc q => k c v ?_ q) (fun _ q => q) fun _ _ q => q
    rcases hc with z | z
    · rw [z]; exact nit b u e
    · exact nit c _ z
theorem Inv.tok (I : Inv X pins σ H s) (t : Nat) (ht : 0 < t := by first | assumption | exact Nat.succ_pos _ | (apply Inv.tk; assumption)) : Inv X pins σ H { s with toks := t } := I.un (h' := s.heap) (t' := t) Un.refl I.hok
/-- all objects kept -/
theorem Inv.kept {t' : Nat} (I : Inv X pins σ H s) (k : ∀ b u, s.heap.get? b = some u → h'.get? b = some u) (ht : 0 < t' := by first | assumption | exact Nat.succ_pos _ | (apply Inv.tk; assumption)) : Inv X pins σ H { s with heap := h', toks := t' } := I.un (Un.kept k) (I.hok.kept k)
/-- a new object laid and tracked -/
theorem Inv.laid {a : Addr} {o : HO} {t' : Nat} (I : Inv X pins σ H s) (k : ∀ b u, s.heap.get? b = some u → h'.get? b = some u) (hp : s.heap.objs.size ≤ a) (new : ObjOk X.prog X.w (upd H a o) h' a o) (ht : 0 < t' := by first | assumption | exact Nat.succ_pos _ | (apply Inv.tk; assumption)) :
    Inv X pins σ (upd H a o) { s with heap := h', toks := t' } := I.un (Un.laid k hp (I.hok.fresh hp)) (I.hok.laid k hp new)
/-- an object written -/
theorem Inv.write {x e : Addr} {o : HO} {t' : Nat} (I : Inv X pins σ H s) (mu : Mut (H x)) (he : e = x ∨ H e = some (.own x)) (k : ∀ b u, b ≠ e → s.heap.get? b = some u → h'.get? b = some u) (heo : ∃ u, h'.get? e = some u)
    (new : ObjOk X.prog X.w (upd H x o) h' x o) (ht : 0 < t' := by first | assumption | exact Nat.succ_pos _ | (apply Inv.tk; assumption)) : Inv X pins σ (upd H x o) { s with heap := h', toks := t' } := I.un (Un.write mu he k heo) (I.hok.write mu he k heo new)
/-- forgetting slots, pins -/
theorem Inv.weak {σ' : List (Option V)} (I : Inv X pins σ H s) (hl : σ'.length = σ.length) (w : ∀ (i : Nat) v, σ'[i]? = some (some v) → σ[i]? = some (some v)) : Inv X pins σ' H s :=
  ⟨I.ok, I.os, I.bare, I.base, let ⟨m, hn, hl'⟩ := I.loc; ⟨m, hn, fun i x v e1 e2 e3 => hl' i x v e1 (w i v e2) e3⟩, I.cell, I.free, I.freeC, I.pin, I.hok, hl.trans I.len, I.tk⟩
theorem Inv.pins_of {pins' : List (Addr × Obj)} (I : Inv X pins σ H s) (h : ∀ p ∈ pins', s.heap.get? p.1 = some p.2 ∧ H p.1 = none ∧ p.1 ≠ X.env.locals ∧ p.1 ∉ X.fs ∧ ∀ v, p.2.data ≠ .cell v) : Inv X pins' σ H s :=
  ⟨I.ok, I.os, I.bare, I.base, I.loc, I.cell, I.free, I.freeC, fun p hp => (List.mem_append.mp hp).elim (fun z => I.pin p (List.mem_append_left _ z)) (h p), I.hok, I.len, I.tk⟩

theorem nodup_ix {N : List Str} (hN : N.Nodup) {i j : Nat} {x : Str} (a : N[i]? = some x) (b : N[j]? = some x) : i = j := by
  obtain ⟨h1, e1⟩ := List.getElem?_eq_some_iff.mp a
  obtain ⟨h2, e2⟩ := List.getElem?_eq_some_iff.mp b
  exact (List.getElem_inj hN).mp (e1.trans e2.symm)

/-- a name is stored; what changed -/
theorem store_ok2 {M : Model} {A : Around} {E : Value → Shared → Prop} {i : Nat} {x : Str} {v : V} {u : Value} {Q : Unit → Shared → Prop} (I : Inv X pins σ H s) (hN : X.N.Nodup) (hi : X.N[i]? = some x) (hx : Loc X.env.scope x) (r : RelV v u)
    (h : ∀ s', Inv X pins (σ.set i (some v)) H s' → (∃ a, Heap.SameBut a s.heap s'.heap ∧ (a = X.env.locals ∨ X.env.cells.lookup x = some a)) → Q () s') (hf : X.fn x = true ∨ X.env.scope.names.lookup x = some .local := by first | exact .inl rfl | exact .inr rfl | assumption) : wpAny M A (storeName X.env x u) Q E s := by
  obtain ⟨m, hn, hl⟩ := id I.loc
  have hcls : (X.env.scope.kind == .class || (X.env.scope.kind == .module && X.env.locals != X.env.globals)) = false := by rw [I.ok.kind]; rfl
  have hiσ : i < σ.length := by rw [I.len]; exact (List.getElem?_eq_some_iff.mp hi).1
  have cne := I.cne
  have tracked : ∀ {a : Addr} {h' : Heap}, (∃ o, s.heap.get? a = some o ∧ H a = none) → Heap.SameBut a s.heap h' → HOk X.prog X.w H h' := fun {a h'} ha hs b ob e => by
    obtain ⟨_, _, hfree⟩ := ha
    refine (I.hok b ob e).stay (fun c w' hc q => (hs.2 c ?_).trans q) (fun _ q => q) fun _ _ q => q
    rintro rfl
    rcases hc with rfl | hc
    · rw [hfree] at e; cases e
    · rw [hfree] at hc; cases hc
  rcases hx with hk | hk
  · refine wpAny_storeName_local hk hn (fun h' hn' hs => ?_) hcls
    obtain ⟨oL, _, _, hoL, _⟩ := id hn
    refine h _ ⟨I.ok, I.os, I.bare, ⟨fun b o e n hb hx => ?_, fun b o e n hb hx => ?_, I.base.free, fun b o e hx => ?_, I.base.tups, I.base.frzs, I.base.tbls⟩, ⟨_, hn', fun j y v' e1 e2 e3 => ?_⟩, fun y c e => ?_, I.free, I.freeC, fun p hp => ?_, tracked ⟨oL, hoL, I.free⟩ hs, by simpa using I.len, by first | exact I.tk | exact Nat.succ_pos _⟩ ⟨_, hs, .inl rfl⟩
    · exact (hs.2 b (Nat.ne_of_lt (Nat.lt_of_lt_of_le (Heap.lt_size e) I.ok.above))).trans (I.base.keep b o e n hb hx)
    · obtain ⟨sl, e1⟩ := I.base.slot b o e n hb hx
      exact ⟨sl, (hs.2 b (Nat.ne_of_lt (Nat.lt_of_lt_of_le (Heap.lt_size e) I.ok.above))).trans e1⟩
    · obtain ⟨o', e1⟩ := I.base.there b o e hx
      exact ⟨o', (hs.2 b (Nat.ne_of_lt (Nat.lt_of_lt_of_le (Heap.lt_size e) I.ok.above))).trans e1⟩
    · by_cases hj : j = i
      · subst hj
        rw [hi] at e1; cases e1
        rw [List.getElem?_set_self hiσ] at e2
        cases e2
        exact ⟨u, r, .inl ⟨hk, by simp⟩⟩
      · rw [List.getElem?_set_ne (Ne.symm hj)] at e2
        obtain ⟨u', r', q⟩ := hl j y v' e1 e2 e3
        refine ⟨u', r', ?_⟩
        rcases q with ⟨k, e⟩ | ⟨k, c, e, z⟩
        · refine .inl ⟨k, ?_⟩
          have : y ≠ x := fun e => hj (nodup_ix hN e1 (e ▸ hi))
          simp [this, e]
        · exact .inr ⟨k, c, e, z.sameBut hs (cne y c e)⟩
    · obtain ⟨w', z⟩ := I.cell y c e
      exact ⟨w', z.sameBut hs (cne y c e)⟩
    · obtain ⟨e, n, ne, nf, d⟩ := I.pin p hp
      exact ⟨(hs.2 p.1 ne).trans e, n, ne, nf, d⟩
  · have hfn : X.fn x = true := by
      rcases hf with z | z
      · exact z
      · rw [z] at hk; cases hk
    obtain ⟨c, hc⟩ := I.ok.has x (.inl hk)
    obtain ⟨w', z⟩ := I.cell x c hc
    refine wpAny_storeName_cell I.ok.kind hk hc z (fun h' hc' hs => ?_)
    obtain ⟨oc, hoc, hocd⟩ := id z
    refine h { s with heap := h' } ⟨I.ok, I.os, I.bare, ⟨fun b o e n hb hx => ?_, fun b o e n hb hx => ?_, I.base.free, fun b o e hx => ?_, I.base.tups, I.base.frzs, I.base.tbls⟩, ⟨m, hn.sameBut hs (Ne.symm (cne x c hc)), fun j y v' e1 e2 e3 => ?_⟩, fun y c' e => ?_, I.free, I.freeC, fun p hp => ?_, tracked ⟨oc, hoc, I.freeC x c hc⟩ hs, by simpa using I.len, by first | exact I.tk | exact Nat.succ_pos _⟩ ⟨c, hs, .inr hc⟩
    · exact (hs.2 b (Nat.ne_of_lt (Nat.lt_of_lt_of_le (Heap.lt_size e) (I.ok.cab x c hfn hc)))).trans (I.base.keep b o e n hb hx)
    · obtain ⟨sl, e1⟩ := I.base.slot b o e n hb hx
      exact ⟨sl, (hs.2 b (Nat.ne_of_lt (Nat.lt_of_lt_of_le (Heap.lt_size e) (I.ok.cab x c hfn hc)))).trans e1⟩
    · obtain ⟨o', e1⟩ := I.base.there b o e hx
      exact ⟨o', (hs.2 b (Nat.ne_of_lt (Nat.lt_of_lt_of_le (Heap.lt_size e) (I.ok.cab x c hfn hc)))).trans e1⟩
    · by_cases hj : j = i
      · subst hj
        rw [hi] at e1; cases e1
        rw [List.getElem?_set_self hiσ] at e2
        cases e2
        exact ⟨u, r, .inr ⟨.inl hk, c, hc, hc'⟩⟩
      · rw [List.getElem?_set_ne (Ne.symm hj)] at e2
        obtain ⟨u', r', q⟩ := hl j y v' e1 e2 e3
        refine ⟨u', r', ?_⟩
        rcases q with q | ⟨k, c', e, z'⟩
        · exact .inl q
        · refine .inr ⟨k, c', e, z'.sameBut hs ?_⟩
          rintro rfl
          exact hj (nodup_ix hN e1 (I.ok.inj _ _ _ e hc ▸ hi))
    · by_cases hcc : c' = c
      · subst hcc; exact ⟨_, hc'⟩
      · obtain ⟨w2, z2⟩ := I.cell y c' e
        exact ⟨w2, z2.sameBut hs hcc⟩
    · obtain ⟨e, n, ne, nf, d⟩ := I.pin p hp
      refine ⟨(hs.2 p.1 ?_).trans e, n, ne, nf, d⟩
      intro q
      rw [q, hoc] at e
      have q' : oc = p.2 := Option.some.inj e
      exact d w' (by rw [← q']; exact hocd)
theorem store_ok {M : Model} {A : Around} {E : Value → Shared → Prop} {i : Nat} {x : Str} {v : V} {u : Value} {Q : Unit → Shared → Prop} (I : Inv X pins σ H s) (hN : X.N.Nodup) (hi : X.N[i]? = some x) (hx : Loc X.env.scope x) (r : RelV v u)
    (h : ∀ s', Inv X pins (σ.set i (some v)) H s' → Q () s') (hf : X.fn x = true ∨ X.env.scope.names.lookup x = some .local := by first | exact .inl rfl | exact .inr rfl | assumption) : wpAny M A (storeName X.env x u) Q E s :=
  store_ok2 I hN hi hx r (fun s' I' _ => h s' I') hf
/-- behind a call or a block, the state as it is -/
theorem Inv.call' {s' : Shared} {ch : List Addr} (I : Inv X pins σ H s) (ho : s'.os = s.os) (u : Un (frs X.stack) ch H H' s.heap s'.heap) (hok : HOk X.prog X.w H' s'.heap) (hg : AllBare s'.gens)
    (hch : ∀ b ∈ ch, (b ∈ X.ex ∨ X.s₀.heap.objs.size ≤ b) ∧ b ≠ X.env.locals ∧ (∀ x c, X.env.cells.lookup x = some c → c ≠ b) ∧ ∀ p ∈ X.pn ++ pins, p.1 ≠ b) (ht : 0 < s'.toks) : Inv X pins σ H' s' := by
  obtain ⟨h', g', d', t', o'⟩ := s'
  have e : o' = s.os := ho
  subst e
  exact I.call (g' := g') (t' := t') (d' := d') u hok hg hch ht
end

/-! ### the judgements -/
/-- an exception: its class, its own dict's address (where it has one), the abstract heap behind it -/
abbrev XK := Value → Option Addr → Hp → Prop
abbrev St := List (Option V)
abbrev VK := V → Hp → Prop
/-- an expression's reading; a test's; an argument list's -/
abbrev TE := St → Hp → VK → Prop
abbrev TT := St → Hp → (Bool → Hp → Prop) → Prop
abbrev TA := St → Hp → (List V → Hp → Prop) → Prop
/-- what is wanted behind a statement -/
structure Ends where
  nx : St → Hp → Prop
  rt : VK
  bk : St → Hp → Prop := fun _ _ => False
  ct : St → Hp → Prop := fun _ _ => False
abbrev TS := Ends → St → Hp → Prop

def EP (X : Cx) (pins : List (Addr × Obj)) (σ : St) (Q : VK) (u : Value) (s' : Shared) : Prop := ∃ v H', Inv X pins σ H' s' ∧ RelV v u ∧ Q v H'
def TP (X : Cx) (pins : List (Addr × Obj)) (σ : St) (Q : Bool → Hp → Prop) (b : Bool) (s' : Shared) : Prop := ∃ H', Inv X pins σ H' s' ∧ Q b H'
def AP (X : Cx) (pins : List (Addr × Obj)) (σ : St) (Q : List V → Hp → Prop) (us : List Value) (s' : Shared) : Prop := ∃ vs H', Inv X pins σ H' s' ∧ Vals vs us ∧ Q vs H'
def SP (X : Cx) (pins : List (Addr × Obj)) (D : Ends) (f : Flow) (s' : Shared) : Prop :=
  match f with
  | .next => ∃ σ' H', Inv X pins σ' H' s' ∧ D.nx σ' H'
  | .brk => ∃ σ' H', Inv X pins σ' H' s' ∧ D.bk σ' H'
  | .cont => ∃ σ' H', Inv X pins σ' H' s' ∧ D.ct σ' H'
  | .ret u => ∃ v σ' H', Inv X pins σ' H' s' ∧ RelV v u ∧ D.rt v H'

def PE (X : Cx) (e : Expr) (t : TE) : Prop :=
  ∀ (pins : List (Addr × Obj)) (s : Shared) (σ : St) (H : Hp) (Q : VK), Inv X pins σ H s → t σ H Q → wpAny (model X.prog X.w) X.A (eval e X.env) (EP X pins σ Q) X.xe s
def PT (X : Cx) (e : Expr) (t : TT) : Prop :=
  ∀ (pins : List (Addr × Obj)) (s : Shared) (σ : St) (H : Hp) (Q : Bool → Hp → Prop), Inv X pins σ H s → t σ H Q → wpAny (model X.prog X.w) X.A (isTrue e X.env (eval e X.env)) (TP X pins σ Q) X.xe s
/-- a test whatever its 'whole' is (and, or) -/
def PW (X : Cx) (e : Expr) (t : TT) : Prop :=
  ∀ (whole : Sem Value) (pins : List (Addr × Obj)) (s : Shared) (σ : St) (H : Hp) (Q : Bool → Hp → Prop), Inv X pins σ H s → t σ H Q → wpAny (model X.prog X.w) X.A (isTrue e X.env whole) (TP X pins σ Q) X.xe s
theorem PW.pt {X : Cx} {e : Expr} {t : TT} (h : PW X e t) : PT X e t := h _
/-- an argument list (no star), from the left -/
def PA (X : Cx) (es : List Expr) (t : TA) : Prop :=
  ∀ (pos : Pos) (pins : List (Addr × Obj)) (s : Shared) (σ : St) (H : Hp) (Q : List V → Hp → Prop), Inv X pins σ H s → t σ H Q → wpAny (model X.prog X.w) X.A (spliced (backTo pos (starEach es X.env))) (AP X pins σ Q) X.xe s
def PS (X : Cx) (st : Stmt) (t : TS) : Prop :=
  ∀ (pins : List (Addr × Obj)) (s : Shared) (σ : St) (H : Hp) (D : Ends), Inv X pins σ H s → t D σ H → wpAny (model X.prog X.w) X.A (exec st X.env) (SP X pins D) X.xe s
def PSs (X : Cx) (st : List Stmt) (t : TS) : Prop :=
  ∀ (pins : List (Addr × Obj)) (s : Shared) (σ : St) (H : Hp) (D : Ends), Inv X pins σ H s → t D σ H → wpAny (model X.prog X.w) X.A (execs st X.env) (SP X pins D) X.xe s
/-- weaken the end -/
theorem thn {α : Type} {t : Sem α} {Q Q' : α → Shared → Prop} {M : Model} {A : Around} {E : Value → Shared → Prop} {s : Shared} (h : wpAny M A t Q E s) (hQ : ∀ a s, Q a s → Q' a s) : wpAny M A t Q' E s := wpAny_mono h hQ fun _ _ x => x
end L2

namespace L2
open PySem PySem.Spec PyProof.Rows
section
variable {X : Cx}


/-! ### names and constants -/
def tVar (i : Nat) : TE := fun σ H Q => ∃ v, σ[i]? = some (some v) ∧ Q v H
def tC (v : V) : TE := fun _ H Q => Q v H
theorem pe_var {i : Nat} {x : Str} {pos : Pos} (hN : X.N[i]? = some x) (hv : Vis X.env.scope x) (hd : (x == ("__debug__" : Str)) = false := by decide) (hcd : (x == ("__classdict__" : Str)) = false := by decide) : PE X (.Name x pos) (tVar i) := by
  intro pins s σ H Q I h
  obtain ⟨v, e, h⟩ := h
  obtain ⟨m, hn, hl⟩ := I.loc
  obtain ⟨u, r, l⟩ := hl i x v hN e hv
  have fin : EP X pins σ Q u s := ⟨v, H, I, r, h⟩
  rcases l with ⟨hk, hm⟩ | ⟨hk, c, hc, hcell⟩
  · exact wpAny_Name (wpAny_loadName_local I.ok.kind hk hn hm fin) hd
  · rcases hk with hk | hk
    · exact wpAny_Name (wpAny_loadName_cell I.ok.kind hk hc hcell fin) hd
    · exact wpAny_Name (wpAny_loadName_free I.ok.kind hk hc hcell fin hcd) hd
theorem pe_int {i j pos} : PE X (.Constant (.int i) j pos) (tC (.int i)) := fun _ _ _ H _ I h => wpAny_Constant_int ⟨.int i, H, I.tok _, ⟨_, rfl⟩, h⟩
theorem pe_bl {b j pos} : PE X (.Constant (.bool b) j pos) (tC (.bl b)) := fun _ _ _ H _ I h => Constant_bool ⟨.bl b, H, I, rfl, h⟩
theorem pe_non {j pos} : PE X (.Constant .none j pos) (tC .non) := fun _ _ _ H _ I h => Constant_none ⟨.non, H, I, rfl, h⟩
theorem pe_str {x j pos} : PE X (.Constant (.str x) j pos) (tC (.str x)) := fun _ _ _ H _ I h => Calls.Constant_str ⟨.str x, H, I.tok _, ⟨_, rfl⟩, h⟩

/-- a global name of the def -/
def Gl (X : Cx) (x : Str) : Prop := X.env.kindOf x = some .globalImplicit
theorem ld_glob {E : Value → Shared → Prop} {pins : List (Addr × Obj)} {s : Shared} {σ : St} {H : Hp} {x : Str} {u : Value} {pos : Pos} {Q : Value → Shared → Prop} (I : Inv X pins σ H s) (hg : Gl X x) (hm : X.mg x = some u) (h : Q u s)
    (hd : (x == ("__debug__" : Str)) = false := by decide) : wpAny (model X.prog X.w) X.A (eval (.Name x pos) X.env) Q E s :=
  Calls.Name_function_global I.ok.kind hg (Calls.loadGlobal_global (by rw [I.ok.glob]; exact I.mod.glob.keeps I.bk) hm h) hd
theorem ld_blt {E : Value → Shared → Prop} {pins : List (Addr × Obj)} {s : Shared} {σ : St} {H : Hp} {x : Str} {u : Value} {pos : Pos} {Q : Value → Shared → Prop} (I : Inv X pins σ H s) (hg : Gl X x) (hm : X.mg x = none) (hv : bootBuiltins x = some u) (h : Q u s)
    (hn : x ≠ "__name__" := by decide) (hd : (x == ("__debug__" : Str)) = false := by decide) : wpAny (model X.prog X.w) X.A (eval (.Name x pos) X.env) Q E s := by
  obtain ⟨mb, h1, h2⟩ := I.mod.blt
  exact Calls.Name_function_global I.ok.kind hg (Calls.loadGlobal_builtin (by rw [I.ok.glob]; exact I.mod.glob.keeps I.bk) hm (by rw [I.ok.blt]; exact h1.keeps I.bk) ((h2 x hn).trans hv) h) hd
/-- a module's constant, a class, a function, as a value -/
theorem pe_glob {x : Str} {v : V} {u : Value} {pos : Pos} (hg : Gl X x) (hm : X.mg x = some u) (r : RelV v u) (hd : (x == ("__debug__" : Str)) = false := by decide) : PE X (.Name x pos) (tC v) :=
  fun _ _ _ H _ I h => ld_glob I hg hm ⟨v, H, I, r, h⟩ hd
theorem pe_bltn {x : Str} {v : V} {u : Value} {pos : Pos} (hg : Gl X x) (hm : X.mg x = none) (hv : bootBuiltins x = some u) (r : RelV v u) (hn : x ≠ "__name__" := by decide) (hd : (x == ("__debug__" : Str)) = false := by decide) : PE X (.Name x pos) (tC v) :=
  fun _ _ _ H _ I h => ld_blt I hg hm hv ⟨v, H, I, r, h⟩ hn hd

/-! ### arithmetic -/
variable {a b : Expr} {ta tb : TE} {pos : Pos}

/-! ### comparisons -/
/-- a comparison as a value, as a test -/
def tB (t : TE) : TT := fun σ H Q => t σ H fun x H1 => ∃ c, x = .bl c ∧ Q c H1
/-- an expression whose value is a bool, as a test -/
theorem pt_val {e : Expr} {t : TE} (h : PE X e t) (he : ∀ whole, isTrue e X.env whole = (do let v ← whole; standAt e.pos; holding [v] (truthy v)) := by intro _; rfl) : PT X e (tB t) := by
  intro pins s σ H Q I hw
  refine isTrue_plain (thn (h pins s σ H _ I hw) fun v s1 ⟨x, H1, I1, r1, q1⟩ => ?_) (he _)
  obtain ⟨d, rfl, q⟩ := q1
  cases r1
  exact wpAny_truthy_bool ⟨H1, I1, q⟩

/-! ### and, or, not -/
variable {tA tB' : TT} {rest : List Expr}
def tAnd (t u : TT) : TT := fun σ H Q => t σ H fun c H1 => if c = true then u σ H1 Q else Q false H1
def tOr (t u : TT) : TT := fun σ H Q => t σ H fun c H1 => if c = true then Q true H1 else u σ H1 Q
def tNot (t : TT) : TT := fun σ H Q => t σ H fun c H1 => Q (!c) H1
theorem pw_and1 (ha : PT X a tA) : PW X (.BoolOp .And [a] pos) tA := by
  intro wh pins s σ H Q I h
  refine isTrue_and (thn (ha pins s σ H Q I h) fun c s1 e => ?_)
  cases c with
  | true => exact isTrue_and_nil e
  | false => exact e
theorem pw_or1 (ha : PT X a tA) : PW X (.BoolOp .Or [a] pos) tA := by
  intro wh pins s σ H Q I h
  refine isTrue_or (thn (ha pins s σ H Q I h) fun c s1 e => ?_)
  cases c with
  | false => exact isTrue_or_nil e
  | true => exact e
theorem pw_and (ha : PT X a tA) (hb : PW X (.BoolOp .And (b :: rest) pos) tB') : PW X (.BoolOp .And (a :: b :: rest) pos) (tAnd tA tB') := by
  intro wh pins s σ H Q I h
  refine isTrue_and (thn (ha pins s σ H _ I h) fun c s1 ⟨H1, I1, q1⟩ => ?_)
  cases c with
  | true => exact hb wh pins s1 σ H1 Q I1 q1
  | false => exact ⟨H1, I1, q1⟩
theorem pw_or (ha : PT X a tA) (hb : PW X (.BoolOp .Or (b :: rest) pos) tB') : PW X (.BoolOp .Or (a :: b :: rest) pos) (tOr tA tB') := by
  intro wh pins s σ H Q I h
  refine isTrue_or (thn (ha pins s σ H _ I h) fun c s1 ⟨H1, I1, q1⟩ => ?_)
  cases c with
  | true => exact ⟨H1, I1, q1⟩
  | false => exact hb wh pins s1 σ H1 Q I1 q1
theorem pt_not (ha : PT X a tA) : PT X (.UnaryOp .Not a pos) (tNot tA) := by
  intro pins s σ H Q I h
  exact isTrue_not (ha pins s σ H (fun c H1 => Q (!c) H1) I h)
/-- .. as values (bools) -/
def tAndV (ta tb : TE) : TE := fun σ H Q => ta σ H fun x H1 => ∃ c, x = .bl c ∧ if c = true then tb σ H1 Q else Q (.bl false) H1
theorem pe_one {op} {t : TE} (h : PE X a t) : PE X (.BoolOp op [a] pos) t := fun pins s σ H Q I hw => BoolOp_one (h pins s σ H Q I hw)
theorem pe_and (ha : PE X a ta) (hb : PE X (.BoolOp .And (b :: rest) pos) tb) : PE X (.BoolOp .And (a :: b :: rest) pos) (tAndV ta tb) := by
  intro pins s σ H Q I h
  refine BoolOp_and (thn (ha pins s σ H _ I h) fun v s1 ⟨x, H1, I1, r1, q1⟩ => ?_)
  obtain ⟨c, rfl, q1⟩ := q1
  cases r1
  refine wpAny_truthy_bool ?_
  cases c with
  | true => exact hb pins s1 σ H1 Q I1 q1
  | false => exact ⟨.bl false, H1, I1, rfl, q1⟩
end
end L2

namespace L2
open PySem PySem.Spec PyProof.Rows

/-! ### a list, a tuple that is read: tracked, frozen, or an object of the module -/
def SqL (K : PySem.W.Frag) (H : Hp) (a : Addr) (xs : List V) : Prop :=
  Rd H a (.lst xs) ∨
    ∃ (o : Obj) (its : Array Value) (n : Nat), K.lookup a = some o ∧ o.cls = .type "list" ∧ o.dict = none ∧ o.data = .seq its n ∧ its.size ≤ sizeLine ∧ Vals xs its.toList
def SqT (K : PySem.W.Frag) (H : Hp) (a : Addr) (xs : List V) : Prop :=
  Rd H a (.tup xs) ∨
    ∃ (o : Obj) (its : Array Value) (n : Nat), K.lookup a = some o ∧ o.cls = .type "tuple" ∧ o.data = .seq its n ∧ its.size ≤ sizeLine ∧ Vals xs its.toList
def absV : Value → Option V
  | .none => some .non
  | .bool b => some (.bl b)
  | .int i _ => some (.int i)
  | .str x _ => some (.str x)
  | .bytes b _ => some (.byt b)
  | .float b _ => some (.flt b)
  | .ref a => some (.ref a)
  | .type n => some (.ty n)
  | _ => none
theorem RelV.abs {x : V} {u : Value} (r : RelV x u) : absV u = some x := by
  cases x with
  | non => cases r; rfl
  | bl _ => cases r; rfl
  | int _ => obtain ⟨t, rfl⟩ := r; rfl
  | str _ => obtain ⟨t, rfl⟩ := r; rfl
  | byt _ => obtain ⟨t, rfl⟩ := r; rfl
  | flt _ => obtain ⟨t, rfl⟩ := r; rfl
  | ref _ => cases r; rfl
  | ty _ => cases r; rfl
theorem RelV.inj {x y : V} {u : Value} (r : RelV x u) (q : RelV y u) : x = y := Option.some.inj (r.abs.symm.trans q.abs)
theorem Vals.inj : ∀ {xs ys : List V} {us : List Value}, Vals xs us → Vals ys us → xs = ys
  | _, _, _, .nil, .nil => rfl
  | _, _, _, .cons r t, .cons r' t' => by rw [r.inj r', Vals.inj t t']
section
variable {X : Cx} {pins : List (Addr × Obj)} {σ : St} {H : Hp} {s : Shared} {a : Addr} {xs ys : List V}
theorem SqL.of {K : PySem.W.Frag} (h : H a = some (.lst xs)) : SqL K H a xs := .inl (.inl h)
theorem SqT.of {K : PySem.W.Frag} (h : H a = some (.tup xs)) : SqT K H a xs := .inl (.inl h)
theorem Inv.list (I : Inv X pins σ H s) (h : SqL X.K H a xs) : ∃ its : List Value, Vals xs its ∧ PlainL s.heap a its.toArray ∧ xs.length ≤ sizeLine := by
  rcases h with h | ⟨o, its, n, hk, hc, hd, hs, hz, r⟩
  · obtain ⟨z, its, n, r, e⟩ := h.ok I.hok
    exact ⟨its, r, ⟨_, n, e, rfl, rfl, rfl⟩, z⟩
  · refine ⟨its.toList, r, ⟨o, n, I.kIn a o hk, hc, hd, by simpa using hs⟩, ?_⟩
    have e := r.length
    simp only [Array.length_toList] at e
    omega
theorem Inv.tuple (I : Inv X pins σ H s) (h : SqT X.K H a xs) : ∃ its : List Value, Vals xs its ∧ IsTup s.heap a its.toArray ∧ xs.length ≤ sizeLine := by
  rcases h with h | ⟨o, its, n, hk, hc, hs, hz, r⟩
  · obtain ⟨z, its, r, p⟩ := h.ok I.hok
    exact ⟨its, r, p, z⟩
  · refine ⟨its.toList, r, ⟨o, I.kIn a o hk, hc, n, by simpa using hs⟩, ?_⟩
    have e := r.length
    simp only [Array.length_toList] at e
    omega
theorem Inv.list_inj (I : Inv X pins σ H s) (h : SqL X.K H a xs) (h' : SqL X.K H a ys) : xs = ys := by
  obtain ⟨its, r, ⟨o, n, e, _, _, d⟩, _⟩ := I.list h
  obtain ⟨its', r', ⟨o', n', e', _, _, d'⟩, _⟩ := I.list h'
  rw [e] at e'; cases e'
  rw [d] at d'
  injection d' with d1 _
  have : its = its' := by simpa using congrArg Array.toList d1
  subst this
  exact r.inj r'
end

/-! ### another wish about exceptions -/
abbrev Cx.wish (X : Cx) (E : Value → Shared → Prop) : Cx := { X with xe := E }
/-- no exception leaves -/
abbrev Cx.nox (X : Cx) : Cx := X.wish fun _ _ => False
theorem Cx.Ok.wish {X : Cx} (ok : X.Ok) (E : Value → Shared → Prop) : (X.wish E).Ok :=
  ⟨ok.mod, ok.kind, ok.glob, ok.blt, ok.above, ok.inj, ok.has, ok.cab, ok.hd, ok.frames, ok.stk, ok.exf, ok.bs, ok.bsz, ok.noex, ok.exfs, ok.funs, ok.frf⟩
theorem Cx.Ok.unwish {X : Cx} {E : Value → Shared → Prop} (ok : (X.wish E).Ok) : X.Ok :=
  ⟨ok.mod, ok.kind, ok.glob, ok.blt, ok.above, ok.inj, ok.has, ok.cab, ok.hd, ok.frames, ok.stk, ok.exf, ok.bs, ok.bsz, ok.noex, ok.exfs, ok.funs, ok.frf⟩
section
variable {X : Cx} {pins : List (Addr × Obj)} {σ : St} {H : Hp} {s : Shared} {E : Value → Shared → Prop}
theorem Inv.wish (I : Inv X pins σ H s) (E : Value → Shared → Prop) : Inv (X.wish E) pins σ H s := ⟨I.ok.wish E, I.os, I.bare, I.base, I.loc, I.cell, I.free, I.freeC, I.pin, I.hok, I.len, I.tk⟩
theorem Inv.unwish (I : Inv (X.wish E) pins σ H s) : Inv X pins σ H s := ⟨I.ok.unwish, I.os, I.bare, I.base, I.loc, I.cell, I.free, I.freeC, I.pin, I.hok, I.len, I.tk⟩
theorem SP.unwish {D : Ends} {f : Flow} {s' : Shared} (h : SP (X.wish E) pins D f s') : SP X pins D f s' := by
  cases f with
  | next => obtain ⟨σ', H', I, q⟩ := h; exact ⟨σ', H', I.unwish, q⟩
  | brk => obtain ⟨σ', H', I, q⟩ := h; exact ⟨σ', H', I.unwish, q⟩
  | cont => obtain ⟨σ', H', I, q⟩ := h; exact ⟨σ', H', I.unwish, q⟩
  | ret u => obtain ⟨v, σ', H', I, r, q⟩ := h; exact ⟨v, σ', H', I.unwish, r, q⟩
theorem PSs.nox {st : List Stmt} {t : TS} (h : PSs X.nox st t) : PSs X st t := fun pins s σ H D I hw =>
  wpAny_mono (h pins s σ H D (I.wish _) hw) (fun _ _ q => q.unwish) fun _ _ z => False.elim z
end

/-! ### blocks and small statements -/
section
variable {X : Cx} {st : Stmt} {rest : List Stmt} {t u : TS} {e : Expr} {te : TE} {pos : Pos}
def tNext : TS := fun D σ H => D.nx σ H
def tSeq (t u : TS) : TS := fun D σ H => t { D with nx := u D } σ H
theorem pss_nil : PSs X [] tNext := fun _ _ σ H _ I h => wpAny_execs_nil ⟨σ, H, I, h⟩
theorem pss_cons (h1 : PS X st t) (h2 : PSs X rest u) : PSs X (st :: rest) (tSeq t u) := by
  intro pins s σ H D I h
  refine wpAny_execs_cons (thn (h1 pins s σ H { D with nx := u D } I h) fun f s1 q => ?_)
  cases f with
  | next =>
    obtain ⟨σ', H', I', q⟩ := q
    exact h2 pins s1 σ' H' D I' q
  | ret v => exact q
  | brk => exact q
  | cont => exact q
theorem pss_one (h1 : PS X st t) : PSs X [st] t := by
  intro pins s σ H D I h
  refine wpAny_execs_cons (thn (h1 pins s σ H D I h) fun f s1 q => ?_)
  cases f with
  | next => exact wpAny_execs_nil q
  | ret v => exact q
  | brk => exact q
  | cont => exact q
/-- in a def's body nothing is shown -/
theorem Inv.quiet {pins : List (Addr × Obj)} {σ : St} {H : Hp} {s : Shared} (I : Inv X pins σ H s) : interactive X.env = false := by simp [interactive, I.ok.kind]
/-- an expression whose value is dropped -/
def tDrop (te : TE) : TS := fun D σ H => te σ H fun _ H1 => D.nx σ H1
theorem ps_expr (he : PE X e te) (hs : swapsWith e none pos.line X.env = pure false := by rfl) : PS X (.Expr e pos) (tDrop te) := by
  intro pins s σ H D I h
  exact wpAny_Expr_any (thn (he pins s σ H _ I h) fun v s1 ⟨x, H1, I1, r1, q1⟩ => ⟨σ, H1, I1, q1⟩) I.quiet hs
def tRet (te : TE) : TS := fun D σ H => te σ H D.rt
theorem ps_ret (he : PE X e te) : PS X (.Return (some e) pos) (tRet te) := by
  intro pins s σ H D I h
  exact wpAny_Return_some (thn (he pins s σ H _ I h) fun v s1 ⟨x, H1, I1, r1, q1⟩ => ⟨x, σ, H1, I1, r1, q1⟩)
def tIfS (c : TT) (t u : TS) : TS := fun D σ H => c σ H fun b H1 => if b = true then t D σ H1 else u D σ H1
theorem ps_if {c : Expr} {a b : List Stmt} {tc : TT} (hc : PT X c tc) (ha : PSs X a t) (hb : PSs X b u) : PS X (.If c a b pos) (tIfS tc t u) := by
  intro pins s σ H D I h
  refine wpAny_If (thn (hc pins s σ H _ I h) fun d s1 ⟨H1, I1, q1⟩ => ?_)
  cases d with
  | true => exact ha pins s1 σ H1 D I1 q1
  | false => exact hb pins s1 σ H1 D I1 q1
/-- code that the proof never comes to -/
def tNever : TS := fun _ _ _ => False
theorem ps_never : PS X st tNever := fun _ _ _ _ _ _ h => h.elim
end

/-! ### targets -/
abbrev TG := V → St → Hp → (St → Hp → Prop) → Prop
abbrev TGs := List V → St → Hp → (St → Hp → Prop) → Prop
def PG (X : Cx) (target : Expr) (t : TG) : Prop :=
  ∀ (pins : List (Addr × Obj)) (s : Shared) (σ : St) (H : Hp) (v : V) (u : Value) (Q : St → Hp → Prop), Inv X pins σ H s → RelV v u → t v σ H Q →
    wpAny (model X.prog X.w) X.A (assign target X.env u) (fun _ s' => ∃ σ' H', Inv X pins σ' H' s' ∧ Q σ' H') X.xe s
/-- several targets, one after another -/
def PGs (X : Cx) (ts : List Expr) (t : TGs) : Prop :=
  ∀ (pins : List (Addr × Obj)) (s : Shared) (σ : St) (H : Hp) (vs : List V) (us : List Value) (Q : St → Hp → Prop), Inv X pins σ H s → Vals vs us → t vs σ H Q →
    wpAny (model X.prog X.w) X.A (assignInOrder ((assignEach ts X.env).map (·.2)) us) (fun _ s' => ∃ σ' H', Inv X pins σ' H' s' ∧ Q σ' H') X.xe s
/-- o[i] = v, by values -/
abbrev TSet := V → V → V → Hp → (Hp → Prop) → Prop
def PSet (X : Cx) (t : TSet) : Prop :=
  ∀ (pins : List (Addr × Obj)) (s : Shared) (σ : St) (H : Hp) (o i v : V) (ov iv u : Value) (Q : Hp → Prop), Inv X pins σ H s → RelV o ov → RelV i iv → RelV v u → t o i v H Q →
    wpAny (model X.prog X.w) X.A (setItem ov iv u) (fun _ s' => ∃ H', Inv X pins σ H' s' ∧ Q H') X.xe s
section
variable {X : Cx} {pos : Pos}
def gName (i : Nat) : TG := fun v σ H Q => Q (σ.set i (some v)) H
theorem pg_name {i : Nat} {x : Str} (hN : X.N.Nodup) (hi : X.N[i]? = some x) (hx : Loc X.env.scope x) (hf : X.fn x = true ∨ X.env.scope.names.lookup x = some .local := by first | exact .inl rfl | exact .inr rfl | assumption) : PG X (.Name x pos) (gName i) := by
  intro pins s σ H v u Q I r h
  exact wpAny_assign_Name (store_ok I hN hi hx r (fun s' I' => ⟨_, H, I', h⟩) hf)
def gNil : TGs := fun vs σ H Q => vs = [] ∧ Q σ H
def gCons (t : TG) (u : TGs) : TGs := fun vs σ H Q => ∃ v r, vs = v :: r ∧ t v σ H fun σ' H' => u r σ' H' Q
theorem pgs_nil : PGs X [] gNil := by
  intro pins s σ H vs us Q I r h
  obtain ⟨e, h⟩ := h
  subst e
  cases r
  exact assignInOrder_nil ⟨σ, H, I, h⟩
theorem pgs_cons {e : Expr} {es : List Expr} {t : TG} {u : TGs} (h1 : PG X e t) (h2 : PGs X es u)
    (hs : (assignEach (e :: es) X.env).map (·.2) = assign e X.env :: (assignEach es X.env).map (·.2) := by rfl) : PGs X (e :: es) (gCons t u) := by
  intro pins s σ H vs us Q I r h
  obtain ⟨v, vr, e1, h⟩ := h
  subst e1
  cases r with
  | cons r rr =>
    rw [hs]
    refine assignInOrder_cons (thn (h1 pins s σ H _ _ _ I r h) fun _ s1 ⟨σ1, H1, I1, q1⟩ => ?_)
    exact h2 pins s1 σ1 H1 _ _ Q I1 rr q1
/-- (a, b, ..) = a tuple of that length -/
def gTup (K : PySem.W.Frag) (n : Nat) (t : TGs) : TG := fun v σ H Q => ∃ a xs, v = .ref a ∧ SqT K H a xs ∧ xs.length = n ∧ t xs σ H Q
/-- o[i] = .. -/
def gSub (to ti : TE) (t : TSet) : TG := fun v σ H Q => to σ H fun o H1 => ti σ H1 fun i H2 => t o i v H2 fun H3 => Q σ H3
theorem pg_sub {o i : Expr} {to ti : TE} {t : TSet} (ho : PE X o to) (hi : PE X i ti) (hs : PSet X t)
    (ha : ∀ v, assign (.Subscript o i pos) X.env v = (do
      let ov ← holding [v] (eval o X.env)
      let iv ← holding [v, ov] (eval i X.env)
      standAt pos
      holding [v, ov, iv] (setItem ov iv v)
      release [v, ov, iv] []) := by intro _; rfl) : PG X (.Subscript o i pos) (gSub to ti t) := by
  intro pins s σ H v u Q I r h
  rw [ha]
  refine wpAny_bind (wpAny_holding (thn (ho pins s σ H _ I h) fun ov s1 ⟨x, H1, I1, r1, q1⟩ => ?_))
  refine wpAny_bind (wpAny_holding (thn (hi pins s1 σ H1 _ I1 q1) fun iv s2 ⟨y, H2, I2, r2, q2⟩ => ?_))
  refine wpAny_bind (wpAny_standAt (wpAny_bind (wpAny_holding (thn (hs pins s2 σ H2 x y v ov iv u _ I2 r1 r2 r q2) fun _ s3 ⟨H3, I3, q3⟩ => ?_))))
  exact wpAny_release ⟨σ, H3, I3, q3⟩
/-- target = value -/
def tAsg (te : TE) (g : TG) : TS := fun D σ H => te σ H fun x H1 => g x σ H1 D.nx
theorem ps_asg {tg e : Expr} {te : TE} {g : TG} (he : PE X e te) (hg : PG X tg g) (hs : swapsWithSole [tg] e pos.line X.env = pure false := by rfl) (hw : swappedStores [tg] e X.env = pure none := by rfl)
    (h1 : (assignEach [tg] X.env).map (·.2) = [assign tg X.env] := by rfl) : PS X (.Assign [tg] e pos) (tAsg te g) := by
  intro pins s σ H D I h
  refine wpAny_Assign_stores (thn (he pins s σ H _ I h) fun v s1 ⟨x, H1, I1, r1, q1⟩ => ?_) hs hw
  rw [h1]
  exact thn (hg pins s1 σ H1 x v _ I1 r1 q1) fun _ s2 q => q
/-- name = value -/
theorem ps_set {i : Nat} {x : Str} {e : Expr} {te : TE} {pos' : Pos} (hN : X.N.Nodup) (hi : X.N[i]? = some x) (hx : Loc X.env.scope x) (he : PE X e te) (hs : swapsWith e (some (.Name x pos')) pos.line X.env = pure false := by rfl) (hf : X.fn x = true ∨ X.env.scope.names.lookup x = some .local := by first | exact .inl rfl | exact .inr rfl | assumption) :
    PS X (.Assign [.Name x pos'] e pos) (tAsg te (gName i)) := by
  intro pins s σ H D I h
  refine wpAny_Assign_Name (thn (he pins s σ H _ I h) fun v s1 ⟨y, H1, I1, r1, q1⟩ => ?_) hs
  exact store_ok I1 hN hi hx r1 (fun s2 I2 => ⟨_, H1, I2, q1⟩) hf
end

/-! ### while -/
section
variable {X : Cx} {pos : Pos}
/-- the invariant W with its measure -/
def tWhile (c : TT) (tb : TS) : TS := fun D σ H => ∃ W : Nat → St → Hp → Prop, (∃ m, W m σ H) ∧ ∀ m σ H, W m σ H →
  c σ H fun b H1 => if b = true then ∃ N : St → Hp → Prop, (∀ σ' H', N σ' H' → ∃ m', m' < m ∧ W m' σ' H') ∧ tb { D with nx := N, ct := N, bk := D.nx } σ H1 else D.nx σ H1
theorem ps_while {c : Expr} {body : List Stmt} {tc : TT} {tb : TS} (hp : PassesOwn (model X.prog X.w) X.A X.env X.xe) (hc : PT X c tc) (hb : PSs X body tb) : PS X (.While c body [] pos) (tWhile tc tb) := by
  intro pins s σ H D I h
  obtain ⟨W, ⟨m0, w0⟩, turn⟩ := h
  refine wpAny_While (codeAny_whileLoop (fun n s' => ∃ σ' H', Inv X pins σ' H' s' ∧ W n σ' H') ?_ m0 ⟨σ, H, I, w0⟩)
  rintro n s1 ⟨σ1, H1, I1, w1⟩
  refine wpAny_passesOwn hp (thn (hc pins s1 σ1 H1 _ I1 (turn n σ1 H1 w1)) fun b s2 ⟨H2, I2, q2⟩ => ?_)
  cases b with
  | true =>
    obtain ⟨N, hN, q2⟩ := q2
    rw [if_pos rfl]
    refine wpAny_passesOwn hp (thn (hb pins s2 σ1 H2 _ I2 q2) fun f s3 q3 => ?_)
    cases f with
    | next =>
      obtain ⟨σ3, H3, I3, n3⟩ := q3
      obtain ⟨m', hm, w3⟩ := hN σ3 H3 n3
      exact ⟨m', hm, σ3, H3, I3, w3⟩
    | cont =>
      obtain ⟨σ3, H3, I3, n3⟩ := q3
      obtain ⟨m', hm, w3⟩ := hN σ3 H3 n3
      exact ⟨m', hm, σ3, H3, I3, w3⟩
    | brk => exact q3
    | ret v => exact q3
  | false =>
    rw [if_neg Bool.false_ne_true]
    exact wpAny_execs_nil ⟨σ1, H2, I2, q2⟩
end

/-! ### what a loop or a comprehension walks -/
/-- at turn i: it yields x (the heap may grow), or it stops -/
structure It where
  go : Nat → Hp → Prop
  yld : Nat → Hp → V → Hp → Prop
  stop : Nat → Hp → Prop
/-- the iterator's own objects may turn: they are not the frame's, not pinned, younger than the entry (or a comprehension's own) -/
def FpOk (X : Cx) (pins : List (Addr × Obj)) (H : Hp) (b : Addr) : Prop :=
  H b = none ∧ b ≠ X.env.locals ∧ b ∉ X.fs ∧ (b ∈ X.ex ∨ X.s₀.heap.objs.size ≤ b) ∧ (∀ x c, X.env.cells.lookup x = some c → c ≠ b) ∧ ∀ p ∈ X.pn ++ pins, p.1 ≠ b
theorem Inv.fpOk {X : Cx} {pins : List (Addr × Obj)} {σ : St} {H H' : Hp} {s : Shared} {b : Addr} (I : Inv X pins σ H s) (hb : s.heap.objs.size ≤ b) (hn : H' b = none) : FpOk X pins H' b := by
  refine ⟨hn, Nat.ne_of_gt (Nat.lt_of_lt_of_le I.lt hb), I.nofs hb, .inr (Nat.le_trans I.sz hb), fun x c e z => ?_, fun p hp z => ?_⟩
  · obtain ⟨v, q⟩ := I.cell x c e
    exact absurd (Nat.lt_of_lt_of_le q.lt (by rw [z]; exact hb)) (Nat.lt_irrefl _)
  · exact absurd (Nat.lt_of_lt_of_le (Heap.lt_size (I.pin p hp).1) (by rw [z]; exact hb)) (Nat.lt_irrefl _)
structure Turn (P : Program) (w : World) (K : PySem.W.Frag) (tg : Expr) (J : It) (fp : List Addr) (it : Addr) (tn : Nat → Heap → Prop) : Prop where
  mem : it ∈ fp
  obj : ∀ i h, tn i h → ∀ b ∈ fp, ∃ o, h.get? b = some o ∧ ∀ v, o.data ≠ .cell v
  keep : ∀ i h h', tn i h → (∀ b ∈ fp, ∀ o, h.get? b = some o → h'.get? b = some o) → tn i h'
  item : ∀ (X : Cx), X.prog = P → X.w = w → X.K = K → X.calm = true → ∀ (i : Nat) (pins : List (Addr × Obj)) (s : Shared) (σ : St) (H : Hp) (E : Value → Shared → Prop), Inv X pins σ H s → (∀ b ∈ fp, FpOk X pins H b) → tn i s.heap → J.go i H →
    wpAny (model P w) X.A (pyNext (.ref it)) (fun r s1 => ∃ u, r = some u ∧
      wpAny (model P w) X.A (letOwnedTupleGo tg (.ref it) u) (fun _ s2 => ∃ x H', Inv X pins σ H' s2 ∧ RelV x u ∧ J.yld i H x H' ∧ tn (i + 1) s2.heap ∧ ∀ b ∈ fp, H' b = none) E s1) E s
  done : ∀ (X : Cx), X.prog = P → X.w = w → X.K = K → X.calm = true → ∀ (i : Nat) (pins : List (Addr × Obj)) (s : Shared) (σ : St) (H : Hp) (E : Value → Shared → Prop), Inv X pins σ H s → (∀ b ∈ fp, FpOk X pins H b) → tn i s.heap → J.stop i H →
    wpAny (model P w) X.A (pyNext (.ref it)) (fun r s1 => r = none ∧ Inv X pins σ H s1) E s
  self : ∀ (A : Around) (i : Nat) (s : Shared) (Q : Value → Shared → Prop) (E : Value → Shared → Prop), tn i s.heap → Q (.ref it) s → wpAny (model P w) A (pyIter (.ref it)) Q E s
abbrev TI := St → Hp → (It → Hp → Prop) → Prop
/-- an iterator has come -/
def PIE (X : Cx) (pins : List (Addr × Obj)) (σ : St) (tg : Expr) (R : It → Hp → Prop) (itv : Value) (s2 : Shared) : Prop :=
  ∃ (it : Addr) (fp : List Addr) (tn : Nat → Heap → Prop) (J : It) (H' : Hp), itv = .ref it ∧ Inv X pins σ H' s2 ∧ Turn X.prog X.w X.K tg J fp it tn ∧ tn 0 s2.heap ∧ (∀ b ∈ fp, FpOk X pins H' b) ∧ R J H'
def PI (X : Cx) (tg iter : Expr) (wi : TI) : Prop :=
  ∀ (pins : List (Addr × Obj)) (s : Shared) (σ : St) (H : Hp) (R : It → Hp → Prop), Inv X pins σ H s → wi σ H R →
    wpAny (model X.prog X.w) X.A (eval iter X.env) (fun v s1 => wpAny (model X.prog X.w) X.A (pyIter v) (PIE X pins σ tg R) X.xe s1) X.xe s

/-- the step ahead of the store is nothing for an iterator that keeps no tuple -/
theorem go_of {M : Model} {A : Around} {E : Value → Shared → Prop} {s : Shared} {tg : Expr} {it : Addr} {u : Value} {o : Obj} {n : String} {vs : Array Value} {Q : Unit → Shared → Prop} (ho : s.heap.get? it = some o) (hc : o.cls = .type n) (hd : o.data = .fields vs)
    (hn : ["enumerate", "zip", "dict_itemiterator", "dict_reverseitemiterator", "odict_iterator", "itertools.zip_longest", "itertools.pairwise"].contains n = false) (hQ : Q () s) : wpAny M A (letOwnedTupleGo tg (.ref it) u) Q E s := by
  unfold letOwnedTupleGo
  cases tg <;> first
    | exact wpAny_pure hQ
    | (cases u <;> first
        | exact wpAny_pure hQ
        | (refine wpAny_bind (wpAny_load ho ?_)
           rw [hc, hd]
           show wpAny M A (if (["enumerate", "zip", "dict_itemiterator", "dict_reverseitemiterator", "odict_iterator", "itertools.zip_longest", "itertools.pairwise"].contains n && vs[0]? == some (rawInt _)) = true then _ else _) Q E s
           rw [if_neg (by intro h; rw [hn, Bool.false_and] at h; cases h)]
           exact wpAny_pure hQ))

/-- the list at a, as it stands at each turn (a loop may append to it) -/
def Itl (K : PySem.W.Frag) (a : Addr) : It :=
  ⟨fun i H => ∃ xs x, SqL K H a xs ∧ xs[i]? = some x, fun i H x H' => H' = H ∧ ∀ xs, SqL K H a xs → xs[i]? = some x, fun i H => ∃ xs, SqL K H a xs ∧ xs.length ≤ i⟩
/-- lo, lo + 1, .. (n of them) -/
def Itr (lo : Int) (n : Nat) : It := ⟨fun i _ => i < n, fun i H x H' => H' = H ∧ x = .int (lo + i), fun i _ => n ≤ i⟩
theorem turn_list {P : Program} {w : World} {K : PySem.W.Frag} {tg : Expr} (a it : Addr) : Turn P w K tg (Itl K a) [it] it (fun i h => h.IsListIter it a i) where
  mem := by simp
  obj := fun i h st b hb => by
    have e : b = it := by simpa using hb
    subst e
    obtain ⟨o, e, c, d⟩ := st
    exact ⟨o, e, fun v z => by rw [d] at z; cases z⟩
  keep := fun i h h' st k => st.at fun o e => k it (by simp) o e
  item := by
    intro X hP hw hK hc i pins s σ H E I hf st hg
    subst hP hw hK
    obtain ⟨xs, x, hq, hx⟩ := hg
    obtain ⟨its, rv, p, hz⟩ := I.list hq
    obtain ⟨u, hu, ru⟩ := rv.get hx
    obtain ⟨f0, f1, f2, f3, f4, f5⟩ := hf it (by simp)
    refine wpAny_pyNext_list_item st p.isList (x := u) (by simpa using hu) fun h' st' sb => ?_
    have I1 : Inv X pins σ H { s with heap := h' } := I.turned (t' := s.toks) (fun b o hb e => (sb.2 b hb).trans e) f0 f1 f3 f4 f5
    obtain ⟨o, e, c, d⟩ := id st'
    exact ⟨u, rfl, go_of (s := { s with heap := h' }) e c d (by decide) ⟨x, H, I1, ru, ⟨rfl, fun ys hy => by rw [I.list_inj hy hq]; exact hx⟩, st', fun b hb => (hf b hb).1⟩⟩
  done := by
    intro X hP hw hK hc i pins s σ H E I hf st hg
    subst hP hw hK
    obtain ⟨xs, hq, hx⟩ := hg
    obtain ⟨its, rv, p, hz⟩ := I.list hq
    obtain ⟨f0, f1, f2, f3, f4, f5⟩ := hf it (by simp)
    have hl := rv.length
    exact wpAny_pyNext_list_end (I.ok.hd hc) st p.isList (by simp; omega) fun h' eb => ⟨rfl, I.turned (t' := s.toks) (fun b o hb e => eb b o hb e) f0 f1 f3 f4 f5⟩
  self := fun _ _ _ _ _ st h => wpAny_pyIter_listiter st h
theorem turn_range {P : Program} {w : World} {K : PySem.W.Frag} {tg : Expr} (it : Addr) (lo : Int) (n : Nat) : Turn P w K tg (Itr lo n) [it] it (fun i h => IsRangeIter h it (lo + (i : Nat) * 1) ((n : Int) - (i : Nat)) 1) where
  mem := by simp
  obj := fun i h st b hb => by
    have e : b = it := by simpa using hb
    subst e
    exact ⟨_, st, fun v z => by
      have z' : Data.fields _ = Data.cell v := z
      cases z'⟩
  keep := fun i h h' st k => k it (by simp) _ st
  item := by
    intro X hP hw hK hc i pins s σ H E I hf st hg
    subst hP hw hK
    obtain ⟨f0, f1, f2, f3, f4, f5⟩ := hf it (by simp)
    have W := Walks.range (prog := X.prog) (w := X.w) (I.ok.hd hc) it lo 1 n
    refine wpAny_with_toks (n := 1) I.tk (W.item i s _ _ hg st fun v h' tk hv st' kk htk => ?_)
    obtain ⟨t, rfl⟩ := hv
    have htk : 0 < tk := htk
    have I1 : Inv X pins σ H { s with heap := h', toks := tk } := I.turned (fun b o hb e => kk b o (by simpa using hb) e) f0 f1 f3 f4 f5
    refine ⟨_, rfl, go_of (s := { s with heap := h', toks := tk }) (n := "range_iterator") st' rfl rfl (by decide) ⟨.int (lo + i), H, I1, ⟨t, ?_⟩, ⟨rfl, rfl⟩, st', fun b hb => (hf b hb).1⟩⟩
    rw [Int.mul_one]
  done := by
    intro X hP hw hK hc i pins s σ H E I hf st hg
    subst hP hw hK
    obtain ⟨f0, f1, f2, f3, f4, f5⟩ := hf it (by simp)
    exact wpAny_pyNext_range_end (I.ok.hd hc) st (by have : n ≤ i := hg; omega) fun h' eb => ⟨rfl, I.turned (t' := s.toks) (fun b o hb e => eb b o hb e) f0 f1 f3 f4 f5⟩
  self := fun _ _ _ _ _ st h => wpAny_pyIter_rangeiter st h
end L2

namespace L2
open PySem PySem.Spec PyProof.Rows
section
variable {X : Cx} {tg : Expr}
def iList (K : PySem.W.Frag) (tl : TE) : TI := fun σ H R => tl σ H fun x H1 => ∃ a, x = .ref a ∧ (∃ xs, SqL K H1 a xs) ∧ R (Itl K a) H1
theorem pi_list {l : Expr} {tl : TE} (hl : PE X l tl) : PI X tg l (iList X.K tl) := by
  intro pins s σ H R I h
  refine thn (hl pins s σ H _ I h) fun v s1 ⟨x, H1, I1, r1, q1⟩ => ?_
  obtain ⟨a, e, ⟨xs, hq⟩, q⟩ := q1
  subst e
  cases r1
  obtain ⟨its, rv, p, hz⟩ := I1.list hq
  refine wpAny_pyIter_list p.isList ?_
  refine ⟨s1.heap.objs.size, [s1.heap.objs.size], _, _, H1, rfl, I1.kept (t' := s1.toks) fun b o e => Heap.get?_push_of_some _ e, turn_list a _, ⟨_, Heap.get?_push_size _ rfl, rfl, rfl⟩, fun b hb => ?_, q⟩
  have e : b = s1.heap.objs.size := by simpa using hb
  subst e
  exact I1.fpOk (Nat.le_refl _) (I1.hok.fresh (Nat.le_refl _))
/-- a range object just made, walked -/
theorem range_it {pins : List (Addr × Obj)} {σ : St} {H : Hp} {s : Shared} {R : It → Hp → Prop} {E : Value → Shared → Prop} {lo hi : Int} {t u v : Tok} {tk : Nat} (htk : 0 < tk) (I : Inv X pins σ H s) (h1 : -(2 ^ 62) ≤ lo) (h2 : lo < 2 ^ 62) (h3 : -(2 ^ 62) ≤ hi) (h4 : hi < 2 ^ 62)
    (q : R (Itr lo (hi - lo).toNat) H) : wpAny (model X.prog X.w) X.A (pyIter (.ref s.heap.objs.size)) (PIE X pins σ tg R) E { s with heap := s.heap.push { cls := .type "range", data := .fields #[.int lo t, .int hi u, .int 1 v] }, toks := tk } := by
  refine wpAny_pyIter_range (IsRange.new ..) (small_one h1 h2 h3 h4) ?_
  have I1 : Inv X pins σ H { s with heap := s.heap.push { cls := .type "range", data := .fields #[.int lo t, .int hi u, .int 1 v] }, toks := tk } := I.kept fun b o e => Heap.get?_push_of_some _ e
  refine ⟨(s.heap.push { cls := .type "range", data := .fields #[.int lo t, .int hi u, .int 1 v] }).objs.size, [(s.heap.push { cls := .type "range", data := .fields #[.int lo t, .int hi u, .int 1 v] }).objs.size], _, _, H, rfl,
    I1.kept (t' := tk) fun b o e => Heap.get?_push_of_some _ e, turn_range _ lo (hi - lo).toNat, ?_, fun b hb => ?_, q⟩
  · have e1 : lo + ((0 : Nat) : Int) * 1 = lo := by simp
    have e2 : (((hi - lo).toNat : Nat) : Int) - ((0 : Nat) : Int) = Builtin.Range.rangeSize lo hi 1 := by rw [rangeSize_one]; split <;> omega
    show IsRangeIter _ _ (lo + ((0 : Nat) : Int) * 1) ((((hi - lo).toNat : Nat) : Int) - ((0 : Nat) : Int)) 1
    rw [e1, e2]
    exact Heap.get?_push_size _ rfl
  · have e : b = (s.heap.push { cls := .type "range", data := .fields #[.int lo t, .int hi u, .int 1 v] }).objs.size := by simpa using hb
    subst e
    exact I1.fpOk (Nat.le_refl _) (I1.hok.fresh (Nat.le_refl _))
def iRng1 (ta : TA) : TI := fun σ H R => ta σ H fun vs H1 => ∃ j : Int, vs = [.int j] ∧ -(2 ^ 62) ≤ j ∧ j < 2 ^ 62 ∧ R (Itr 0 j.toNat) H1
theorem pi_range1 {a : Expr} {ta : TA} {p pos : Pos} (hg : Gl X "range") (hm : X.mg "range" = none) (ha : PA X [a] ta) (hs : starEach [a] X.env = [(false, eval a X.env)] := by rfl) : PI X tg (.Call (.Name "range" p) [a] [] pos) (iRng1 ta) := by
  intro pins s σ H R I h
  refine Call_ (ld_blt I hg hm boot_range (PyProof.Rows.callWith_type1 (thn (ha pos pins s σ H _ I h) fun us s1 ⟨vs, H1, I1, r1, q1⟩ => ?_) hs rfl))
  obtain ⟨j, e, q1, q2, q⟩ := q1
  subst e
  cases r1 with
  | cons r rr =>
    cases rr
    obtain ⟨t, rfl⟩ := r
    exact call_range_1 (range_it (by first | exact I1.tk | exact Nat.succ_pos _) I1 (by omega) (by omega) q1 q2 (by simpa using q))

/-! ### for -/
/-- W: the invariant by the turn and a measure; N: what the body is to reach -/
def tFor (wi : TI) (g : TG) (tb : TS) : TS := fun D σ H => wi σ H fun J H1 => ∃ W : Nat → Nat → St → Hp → Prop, (∃ m, W 0 m σ H1) ∧ ∀ i m σ H, W i m σ H →
  (J.stop i H ∧ D.nx σ H) ∨ (J.go i H ∧ ∃ N : St → Hp → Prop, (∀ σ' H', N σ' H' → ∃ m', m' < m ∧ W (i + 1) m' σ' H') ∧ ∀ x H', J.yld i H x H' → g x σ H' fun σ2 H2 => tb { D with nx := N, ct := N, bk := D.nx } σ2 H2)
/-- the records at fp as they stand -/
def pinsAt (fp : List Addr) (h : Heap) : List (Addr × Obj) := fp.filterMap fun b => (h.get? b).map fun o => (b, o)
theorem mem_pinsAt {fp : List Addr} {h : Heap} {b : Addr} {o : Obj} (hb : b ∈ fp) (e : h.get? b = some o) : (b, o) ∈ pinsAt fp h := List.mem_filterMap.mpr ⟨b, hb, by rw [e]; rfl⟩
theorem of_pinsAt {fp : List Addr} {h : Heap} {p : Addr × Obj} (hp : p ∈ pinsAt fp h) : p.1 ∈ fp ∧ h.get? p.1 = some p.2 := by
  obtain ⟨b, hb, e⟩ := List.mem_filterMap.mp hp
  cases q : h.get? b with
  | none => rw [q] at e; cases e
  | some o =>
    rw [q] at e
    have e' : (b, o) = p := Option.some.inj e
    subst e'
    exact ⟨hb, q⟩
theorem Inv.pinned {pins : List (Addr × Obj)} {σ : St} {H : Hp} {s : Shared} {fp : List Addr} (I : Inv X pins σ H s) (hf : ∀ b ∈ fp, FpOk X pins H b) (ho : ∀ b ∈ fp, ∃ o, s.heap.get? b = some o ∧ ∀ v, o.data ≠ .cell v) : Inv X (pins ++ pinsAt fp s.heap) σ H s :=
  I.pins_of fun p hp => (List.mem_append.mp hp).elim (fun z => I.pin p (List.mem_append_right _ z)) fun z => by
    obtain ⟨hb, e⟩ := of_pinsAt z
    obtain ⟨f0, f1, f2, _⟩ := hf p.1 hb
    obtain ⟨o, e', d⟩ := ho p.1 hb
    rw [e] at e'; cases e'
    exact ⟨e, f0, f1, f2, d⟩
theorem Inv.unpinned {pins pl : List (Addr × Obj)} {σ : St} {H : Hp} {s : Shared} (I : Inv X (pins ++ pl) σ H s) : Inv X pins σ H s := I.pins_of fun p hp => I.pin p (List.mem_append_right _ (List.mem_append_left _ hp))
theorem ps_for {iter : Expr} {body : List Stmt} {wi : TI} {g : TG} {tb : TS} {pos : Pos} (hp : PassesOwn (model X.prog X.w) X.A X.env X.xe) (hc : X.calm = true) (hi : PI X tg iter wi) (hg : PG X tg g) (hb : PSs X body tb)
    (hs : ∀ x, foldedSetIterable iter X.env x = pure x := by intro _; rfl) : PS X (.For tg iter body [] pos) (tFor wi g tb) := by
  intro pins s σ H D I h
  refine wpAny_For (thn (hi pins s σ H _ I h) fun v s1 h1 => thn h1 fun itv s2 h2 => ?_) hs
  obtain ⟨it, fp, tn, J, H2, e, I2, T, st2, f2, W, ⟨m0, w0⟩, turn⟩ := h2
  subst e
  -- what stays true of the iterator's objects through the loop
  have stat : ∀ {H' : Hp}, (∀ b ∈ fp, H' b = none) → ∀ b ∈ fp, FpOk X pins H' b := fun hn b hb => ⟨hn b hb, (f2 b hb).2⟩
  refine codeAny_forLoop_any (fun n s' => ∃ i σ' H', Inv X pins σ' H' s' ∧ tn i s'.heap ∧ (∀ b ∈ fp, H' b = none) ∧ W i n σ' H') ?_ m0 ⟨0, σ, H2, I2, st2, fun b hb => (f2 b hb).1, w0⟩
  rintro n s3 ⟨i, σ3, H3, I3, st3, fr3, w3⟩
  rcases turn i n σ3 H3 w3 with ⟨stop, qn⟩ | ⟨go, N, hN, step⟩
  · refine wpAny_passesOwn hp (thn (T.done X rfl rfl rfl hc i pins s3 σ3 H3 X.xe I3 (stat fr3) st3 stop) fun r s4 ⟨hr, I4⟩ => ?_)
    subst hr
    exact wpAny_execs_nil ⟨σ3, H3, I4, qn⟩
  · refine wpAny_passesOwn hp (thn (T.item X rfl rfl rfl hc i pins s3 σ3 H3 X.xe I3 (stat fr3) st3 go) fun r s4 ⟨u, hr, h4⟩ => ?_)
    subst hr
    refine wpAny_passesOwn hp (thn h4 fun _ s5 ⟨x, H5, I5, r5, y5, st5, fr5⟩ => ?_)
    have I5' := I5.pinned (stat fr5) (T.obj _ _ st5)
    refine wpAny_passesOwn hp (thn (hg _ s5 σ3 H5 x u _ I5' r5 (step x H5 y5)) fun _ s6 ⟨σ6, H6, I6, q6⟩ => ?_)
    refine wpAny_passesOwn hp (thn (hb _ s6 σ6 H6 _ I6 q6) fun f s7 q7 => ?_)
    have again : ∀ {σ7 : St} {H7 : Hp}, Inv X (pins ++ pinsAt fp s5.heap) σ7 H7 s7 → N σ7 H7 → ∃ m, m < n ∧ ∃ i σ' H', Inv X pins σ' H' s7 ∧ tn i s7.heap ∧ (∀ b ∈ fp, H' b = none) ∧ W i m σ' H' := fun {σ7 H7} I7 n7 => by
      obtain ⟨m', hm, w7⟩ := hN σ7 H7 n7
      refine ⟨m', hm, i + 1, σ7, H7, I7.unpinned, T.keep _ _ _ st5 fun b hb o e => (I7.pin (b, o) (List.mem_append_right _ (List.mem_append_right _ (mem_pinsAt hb e)))).1, fun b hb => ?_, w7⟩
      obtain ⟨o, e, d⟩ := T.obj _ _ st5 b hb
      exact (I7.pin (b, o) (List.mem_append_right _ (List.mem_append_right _ (mem_pinsAt hb e)))).2.1
    cases f with
    | next => obtain ⟨σ7, H7, I7, n7⟩ := q7; exact again I7 n7
    | cont => obtain ⟨σ7, H7, I7, n7⟩ := q7; exact again I7 n7
    | brk => obtain ⟨σ7, H7, I7, q7⟩ := q7; exact ⟨σ7, H7, I7.unpinned, q7⟩
    | ret v => obtain ⟨x7, σ7, H7, I7, r7, q7⟩ := q7; exact ⟨x7, σ7, H7, I7.unpinned, r7, q7⟩
end

/-! ### the forms one uses -/
/-- over a list that the body leaves as it is -/
theorem for_list {K : PySem.W.Frag} {a : Addr} {xs : List V} {g : TG} {tb : TS} {D : Ends} {σ : St} {H : Hp} (Pv : Nat → St → Hp → Prop) (h0 : Pv 0 σ H) (hl : ∀ i σ H, i ≤ xs.length → Pv i σ H → SqL K H a xs)
    (hs : ∀ i x σ H, xs[i]? = some x → Pv i σ H → g x σ H fun σ2 H2 => tb { D with nx := Pv (i + 1), ct := Pv (i + 1), bk := D.nx } σ2 H2) (hd : ∀ σ H, Pv xs.length σ H → D.nx σ H) :
    ∃ W : Nat → Nat → St → Hp → Prop, (∃ m, W 0 m σ H) ∧ ∀ i m σ H, W i m σ H →
      ((Itl K a).stop i H ∧ D.nx σ H) ∨ ((Itl K a).go i H ∧ ∃ N : St → Hp → Prop, (∀ σ' H', N σ' H' → ∃ m', m' < m ∧ W (i + 1) m' σ' H') ∧ ∀ x H', (Itl K a).yld i H x H' → g x σ H' fun σ2 H2 => tb { D with nx := N, ct := N, bk := D.nx } σ2 H2) := by
  refine ⟨fun i m σ H => m = xs.length - i ∧ i ≤ xs.length ∧ Pv i σ H, ⟨xs.length, by simp, Nat.zero_le _, h0⟩, ?_⟩
  rintro i m σ H ⟨rfl, hi, p⟩
  have q := hl i σ H hi p
  by_cases hlt : i < xs.length
  · refine .inr ⟨⟨xs, xs[i], q, by simp [hlt]⟩, Pv (i + 1), fun σ' H' p' => ⟨xs.length - (i + 1), by omega, rfl, hlt, p'⟩, fun x H' y => ?_⟩
    obtain ⟨e, y⟩ := y
    subst e
    exact hs i x σ _ (y xs q) p
  · have e : i = xs.length := by omega
    subst e
    exact .inl ⟨⟨xs, q, Nat.le_refl _⟩, hd σ H p⟩
theorem for_range {lo : Int} {n : Nat} {g : TG} {tb : TS} {D : Ends} {σ : St} {H : Hp} (Pv : Nat → St → Hp → Prop) (h0 : Pv 0 σ H)
    (hs : ∀ i σ H, i < n → Pv i σ H → g (.int (lo + i)) σ H fun σ2 H2 => tb { D with nx := Pv (i + 1), ct := Pv (i + 1), bk := D.nx } σ2 H2) (hd : ∀ σ H, Pv n σ H → D.nx σ H) :
    ∃ W : Nat → Nat → St → Hp → Prop, (∃ m, W 0 m σ H) ∧ ∀ i m σ H, W i m σ H →
      ((Itr lo n).stop i H ∧ D.nx σ H) ∨ ((Itr lo n).go i H ∧ ∃ N : St → Hp → Prop, (∀ σ' H', N σ' H' → ∃ m', m' < m ∧ W (i + 1) m' σ' H') ∧ ∀ x H', (Itr lo n).yld i H x H' → g x σ H' fun σ2 H2 => tb { D with nx := N, ct := N, bk := D.nx } σ2 H2) := by
  refine ⟨fun i m σ H => m = n - i ∧ i ≤ n ∧ Pv i σ H, ⟨n, by simp, Nat.zero_le _, h0⟩, ?_⟩
  rintro i m σ H ⟨rfl, hi, p⟩
  by_cases hlt : i < n
  · refine .inr ⟨hlt, Pv (i + 1), fun σ' H' p' => ⟨n - (i + 1), by omega, rfl, hlt, p'⟩, fun x H' y => ?_⟩
    obtain ⟨e, y⟩ := y
    subst e y
    exact hs i σ _ hlt p
  · have e : i = n := by omega
    subst e
    exact .inl ⟨Nat.le_refl _, hd σ H p⟩
end L2

namespace L2
open PySem PySem.Spec PyProof.Rows

abbrev R2 := V → V → Hp → VK → Prop
/-- a two-place operation on values: f is binaryOp op, inplaceOp op or compareOp op -/
def OpR (X : Cx) (f : Value → Value → Sem Value) (r : R2) : Prop :=
  ∀ (pins : List (Addr × Obj)) (s : Shared) (σ : St) (H : Hp) (x y : V) (v u : Value) (Q : VK), Inv X pins σ H s → RelV x v → RelV y u → r x y H Q →
    wpAny (model X.prog X.w) X.A (f v u) (EP X pins σ Q) X.xe s
/-- a one-place operation -/
def UnR (X : Cx) (f : Value → Sem Value) (r : V → Hp → VK → Prop) : Prop :=
  ∀ (pins : List (Addr × Obj)) (s : Shared) (σ : St) (H : Hp) (x : V) (v : Value) (Q : VK), Inv X pins σ H s → RelV x v → r x H Q →
    wpAny (model X.prog X.w) X.A (f v) (EP X pins σ Q) X.xe s
/-- a call of a value that is known (a builtin, a type) with values -/
def CallR (X : Cx) (f : Value) (r : List V → Hp → VK → Prop) : Prop :=
  ∀ (pins : List (Addr × Obj)) (s : Shared) (σ : St) (H : Hp) (xs : List V) (us : List Value) (Q : VK), Inv X pins σ H s → Vals xs us → r xs H Q →
    wpAny (model X.prog X.w) X.A (call f us) (EP X pins σ Q) X.xe s

def tOp (r : R2) (ta tb : TE) : TE := fun σ H Q => ta σ H fun x H1 => tb σ H1 fun y H2 => r x y H2 Q
def tUn (r : V → Hp → VK → Prop) (ta : TE) : TE := fun σ H Q => ta σ H fun x H1 => r x H1 Q
/-- ints in, under C, and a value out -/
def rI (C : Int → Int → Prop) (g : Int → Int → V) : R2 := fun x y H Q => ∃ i j, x = .int i ∧ y = .int j ∧ C i j ∧ Q (g i j) H
def rI0 (g : Int → Int → V) : R2 := fun x y H Q => ∃ i j, x = .int i ∧ y = .int j ∧ Q (g i j) H
def rU (g : Int → V) : V → Hp → VK → Prop := fun x H Q => ∃ i, x = .int i ∧ Q (g i) H

section
variable {X : Cx} {a b c : Expr} {ta tb tc : TE} {pos : Pos}

theorem binT (ha : PE X a ta) (hb : PE X b tb) {pins : List (Addr × Obj)} {s : Shared} {σ : St} {H : Hp} {R : V → V → Hp → Prop} (I : Inv X pins σ H s)
    (h : ta σ H fun x H1 => tb σ H1 fun y H2 => R x y H2) {Q : Value → Shared → Prop} {f : Value → Value → Sem Value}
    (hf : ∀ v u s2 x y H2, Inv X pins σ H2 s2 → RelV x v → RelV y u → R x y H2 → wpAny (model X.prog X.w) X.A (f v u) Q X.xe s2) :
    wpAny (model X.prog X.w) X.A (eval a X.env) (fun v s₁ => wpAny (model X.prog X.w) X.A (eval b X.env) (fun u s₂ => wpAny (model X.prog X.w) X.A (f v u) Q X.xe s₂) X.xe s₁) X.xe s := by
  refine thn (ha pins s σ H _ I h) fun v s1 ⟨x, H1, I1, r1, q1⟩ => ?_
  refine thn (hb pins s1 σ H1 _ I1 q1) fun u s2 ⟨y, H2, I2, r2, q2⟩ => ?_
  exact hf v u s2 x y H2 I2 r1 r2 q2

theorem pe_op {op : Operator} {r : R2} (ho : OpR X (binaryOp op) r) (ha : PE X a ta) (hb : PE X b tb) : PE X (.BinOp a op b pos) (tOp r ta tb) := by
  intro pins s σ H Q I h
  exact wpAny_BinOp (binT ha hb I h fun v u s2 x y H2 I2 rx ry q => ho pins s2 σ H2 x y v u Q I2 rx ry q)
theorem pe_un {op : UnaryOp} {r : V → Hp → VK → Prop} (ho : UnR X (unaryOp op) r) (ha : PE X a ta) : PE X (.UnaryOp op a pos) (tUn r ta) := by
  intro pins s σ H Q I h
  exact UnaryOp_ (thn (ha pins s σ H _ I h) fun v s1 ⟨x, H1, I1, r1, q1⟩ => ho pins s1 σ H1 x v Q I1 r1 q1)

/-! ### ints -/
theorem opI {f : Value → Value → Sem Value} {C : Int → Int → Prop} {g : Int → Int → Int}
    (rule : ∀ (i j : Int) (t u : Tok) (s : Shared) (Q : Value → Shared → Prop) (E : Value → Shared → Prop), C i j → Q (.int (g i j) s.toks) { s with toks := s.toks + 1 } → wpAny (model X.prog X.w) X.A (f (.int i t) (.int j u)) Q E s) :
    OpR X f (rI C fun i j => .int (g i j)) := by
  intro pins s σ H x y v u Q I rx ry h
  obtain ⟨i, j, rfl, rfl, hc, q⟩ := h
  obtain ⟨t, rfl⟩ := rx
  obtain ⟨t', rfl⟩ := ry
  exact rule i j t t' s _ _ hc ⟨.int (g i j), H, I.tok _, ⟨_, rfl⟩, q⟩
theorem opI0 {f : Value → Value → Sem Value} {g : Int → Int → Int}
    (rule : ∀ (i j : Int) (t u : Tok) (s : Shared) (Q : Value → Shared → Prop) (E : Value → Shared → Prop), Q (.int (g i j) s.toks) { s with toks := s.toks + 1 } → wpAny (model X.prog X.w) X.A (f (.int i t) (.int j u)) Q E s) :
    OpR X f (rI0 fun i j => .int (g i j)) := by
  intro pins s σ H x y v u Q I rx ry h
  obtain ⟨i, j, rfl, rfl, q⟩ := h
  obtain ⟨t, rfl⟩ := rx
  obtain ⟨t', rfl⟩ := ry
  exact rule i j t t' s _ _ ⟨.int (g i j), H, I.tok _, ⟨_, rfl⟩, q⟩
theorem opB0 {f : Value → Value → Sem Value} {g : Int → Int → Bool}
    (rule : ∀ (i j : Int) (t u : Tok) (s : Shared) (Q : Value → Shared → Prop) (E : Value → Shared → Prop), Q (.bool (g i j)) s → wpAny (model X.prog X.w) X.A (f (.int i t) (.int j u)) Q E s) :
    OpR X f (rI0 fun i j => .bl (g i j)) := by
  intro pins s σ H x y v u Q I rx ry h
  obtain ⟨i, j, rfl, rfl, q⟩ := h
  obtain ⟨t, rfl⟩ := rx
  obtain ⟨t', rfl⟩ := ry
  exact rule i j t t' s _ _ ⟨.bl (g i j), H, I, rfl, q⟩

def CDiv (i j : Int) : Prop := 0 < j ∧ j < 1073741824
def CMul (i j : Int) : Prop := (-(2 ^ 64) < i ∧ i < 2 ^ 64) ∨ (-(2 ^ 64) < j ∧ j < 2 ^ 64)
theorem CMul.ok {i j : Int} (h : CMul i j) : IntMulOk i j := by
  rcases h with ⟨h1, h2⟩ | ⟨h1, h2⟩
  · exact .of_left (intBits_le_64 h1 h2)
  · exact .of_right (intBits_le_64 h1 h2)

theorem op_add : OpR X (binaryOp .Add) (rI0 fun i j => .int (i + j)) := opI0 fun _ _ _ _ _ _ _ q => add_int q
theorem op_sub : OpR X (binaryOp .Sub) (rI0 fun i j => .int (i - j)) := opI0 fun _ _ _ _ _ _ _ q => sub_int q
theorem op_mul : OpR X (binaryOp .Mult) (rI CMul fun i j => .int (i * j)) := opI fun _ _ _ _ _ _ _ hc q => mul_int q hc.ok
/-- // by a positive divisor -/
theorem op_fdiv : OpR X (binaryOp .FloorDiv) (rI CDiv fun i j => .int (i / j)) := opI fun i j _ _ _ _ _ hc q => by
  have h1 : (0 : Int) < j := hc.1
  have h2 : j < 1073741824 := hc.2
  exact floordiv_int (by omega) (by rw [Int.fdiv_eq_ediv_of_nonneg i (by omega)]; exact q) (.inl (PyProof.noPylong_small (by omega)))
/-- % by a positive divisor of any size -/
theorem op_mod : OpR X (binaryOp .Mod) (rI (fun _ j => 0 < j) fun i j => .int (i % j)) := opI fun i j _ _ _ _ _ hc q => by
  have h1 : (0 : Int) < j := hc
  exact mod_int' (by omega) (by rw [Int.fmod_eq_emod_of_nonneg i (by omega)]; exact q)


theorem unI {f : Value → Sem Value} {g : Int → Int}
    (rule : ∀ (i : Int) (t : Tok) (s : Shared) (Q : Value → Shared → Prop) (E : Value → Shared → Prop), Q (.int (g i) s.toks) { s with toks := s.toks + 1 } → wpAny (model X.prog X.w) X.A (f (.int i t)) Q E s) :
    UnR X f (rU fun i => .int (g i)) := by
  intro pins s σ H x v Q I rx h
  obtain ⟨i, rfl, q⟩ := h
  obtain ⟨t, rfl⟩ := rx
  exact rule i t s _ _ ⟨.int (g i), H, I.tok _, ⟨_, rfl⟩, q⟩
theorem un_neg : UnR X (unaryOp .USub) (rU fun i => .int (-i)) := unI fun _ _ _ _ _ q => neg_int q

/-! ### bools among ints: n += (a < b) -/
end

/-! ### comparisons -/
/-- the scalars that == tells apart as data does -/
def scal : V → V → Bool
  | .non, .non => true | .non, .int _ => true | .int _, .non => true | .non, .bl _ => true | .bl _, .non => true | .non, .str _ => true | .str _, .non => true
  | .int _, .int _ => true | .bl _, .bl _ => true | .str _, .str _ => true | .byt _, .byt _ => true
  | .int _, .str _ => true | .str _, .int _ => true | .bl _, .str _ => true | .str _, .bl _ => true
  | _, _ => false
def rEq : R2 := fun x y H Q => scal x y = true ∧ Q (.bl (decide (x = y))) H
def rNe : R2 := fun x y H Q => scal x y = true ∧ Q (.bl (!decide (x = y))) H

theorem dec_int {i j : Int} : decide (V.int i = V.int j) = (i == j) := by
  rw [Bool.eq_iff_iff]
  simp
theorem dec_bl {i j : Bool} : decide (V.bl i = V.bl j) = (i == j) := by
  rw [Bool.eq_iff_iff]
  simp
theorem dec_str {i j : Str} : decide (V.str i = V.str j) = (i == j) := by
  rw [Bool.eq_iff_iff]
  simp
theorem dec_byt {i j : Array UInt8} : decide (V.byt i = V.byt j) = (i.toList == j.toList) := by
  rw [Bool.eq_iff_iff]
  cases i
  cases j
  simp

section
variable {X : Cx} {a b c : Expr} {ta tb tc : TE} {pos : Pos}
theorem fin_bl {pins : List (Addr × Obj)} {σ : St} {H : Hp} {s : Shared} {Q : VK} {k k' : Bool} (I : Inv X pins σ H s) (q : Q (.bl k) H) (e : k = k') : EP X pins σ Q (.bool k') s := by
  subst e
  exact ⟨.bl k, H, I, rfl, q⟩
theorem op_eq : OpR X (compareOp .Eq) rEq := by
  intro pins s σ H x y v u Q I rx ry h
  obtain ⟨hs, q⟩ := h
  cases x with
  | non =>
    cases rx
    cases y with
    | non => cases ry; exact PySem.EqNone.eq_none_none (fin_bl I q (by simp))
    | bl j => cases ry; exact PySem.EqNone.eq_none_bool (fin_bl I q (by simp))
    | int j => obtain ⟨t', rfl⟩ := ry; exact PySem.EqNone.eq_none_int (fin_bl I q (by simp))
    | str j => obtain ⟨t', rfl⟩ := ry; exact PySem.EqNone.eq_none_str (fin_bl I q (by simp))
    | _ => exact absurd (show false = true from hs) Bool.false_ne_true
  | bl i =>
    cases rx
    cases y with
    | non => cases ry; exact PySem.EqNone.eq_bool_none (fin_bl I q (by simp))
    | bl j => cases ry; exact eq_bool (fin_bl I q dec_bl)
    | str j => obtain ⟨t', rfl⟩ := ry; exact PySem.EqMixed.eq_bool_str (fin_bl I q (by simp))
    | _ => exact absurd (show false = true from hs) Bool.false_ne_true
  | int i =>
    obtain ⟨t, rfl⟩ := rx
    cases y with
    | non => cases ry; exact PySem.EqNone.eq_int_none (fin_bl I q (by simp))
    | int j => obtain ⟨t', rfl⟩ := ry; exact eq_int (fin_bl I q dec_int)
    | str j => obtain ⟨t', rfl⟩ := ry; exact PySem.EqMixed.eq_int_str (fin_bl I q (by simp))
    | _ => exact absurd (show false = true from hs) Bool.false_ne_true
  | str i =>
    obtain ⟨t, rfl⟩ := rx
    cases y with
    | non => cases ry; exact PySem.EqNone.eq_str_none (fin_bl I q (by simp))
    | bl j => cases ry; exact PySem.EqMixed.eq_str_bool (fin_bl I q (by simp))
    | int j => obtain ⟨t', rfl⟩ := ry; exact PySem.EqMixed.eq_str_int (fin_bl I q (by simp))
    | str j => obtain ⟨t', rfl⟩ := ry; exact eq_str (fin_bl I q dec_str)
    | _ => exact absurd (show false = true from hs) Bool.false_ne_true
  | byt i =>
    obtain ⟨t, rfl⟩ := rx
    cases y with
    | byt j => obtain ⟨t', rfl⟩ := ry; exact PySem.W.eq_bytes (fin_bl I q dec_byt)
    | _ => exact absurd (show false = true from hs) Bool.false_ne_true
  | _ => cases y <;> exact absurd (show false = true from hs) Bool.false_ne_true
theorem op_ne : OpR X (compareOp .NotEq) rNe := by
  intro pins s σ H x y v u Q I rx ry h
  obtain ⟨hs, q⟩ := h
  cases x with
  | non =>
    cases rx
    cases y with
    | non => cases ry; exact PySem.EqNone.ne_none_none (fin_bl I q (by simp))
    | bl j => cases ry; exact PySem.EqNone.ne_none_bool (fin_bl I q (by simp))
    | int j => obtain ⟨t', rfl⟩ := ry; exact PySem.EqNone.ne_none_int (fin_bl I q (by simp))
    | str j => obtain ⟨t', rfl⟩ := ry; exact PySem.EqNone.ne_none_str (fin_bl I q (by simp))
    | _ => exact absurd (show false = true from hs) Bool.false_ne_true
  | bl i =>
    cases rx
    cases y with
    | non => cases ry; exact PySem.EqNone.ne_bool_none (fin_bl I q (by simp))
    | bl j => cases ry; exact ne_bool (fin_bl I q (congrArg not dec_bl))
    | str j => obtain ⟨t', rfl⟩ := ry; exact PySem.EqMixed.ne_bool_str (fin_bl I q (by simp))
    | _ => exact absurd (show false = true from hs) Bool.false_ne_true
  | int i =>
    obtain ⟨t, rfl⟩ := rx
    cases y with
    | non => cases ry; exact PySem.EqNone.ne_int_none (fin_bl I q (by simp))
    | int j => obtain ⟨t', rfl⟩ := ry; exact ne_int (fin_bl I q (congrArg not dec_int))
    | str j => obtain ⟨t', rfl⟩ := ry; exact PySem.EqMixed.ne_int_str (fin_bl I q (by simp))
    | _ => exact absurd (show false = true from hs) Bool.false_ne_true
  | str i =>
    obtain ⟨t, rfl⟩ := rx
    cases y with
    | non => cases ry; exact PySem.EqNone.ne_str_none (fin_bl I q (by simp))
    | bl j => cases ry; exact PySem.EqMixed.ne_str_bool (fin_bl I q (by simp))
    | int j => obtain ⟨t', rfl⟩ := ry; exact PySem.EqMixed.ne_str_int (fin_bl I q (by simp))
    | str j => obtain ⟨t', rfl⟩ := ry; exact ne_str (fin_bl I q (congrArg not dec_str))
    | _ => exact absurd (show false = true from hs) Bool.false_ne_true
  | byt i =>
    obtain ⟨t, rfl⟩ := rx
    cases y with
    | byt j => obtain ⟨t', rfl⟩ := ry; exact PySem.W.ne_bytes (fin_bl I q (congrArg not dec_byt))
    | _ => exact absurd (show false = true from hs) Bool.false_ne_true
  | _ => cases y <;> exact absurd (show false = true from hs) Bool.false_ne_true

theorem op_lt : OpR X (compareOp .Lt) (rI0 fun i j => .bl (decide (i < j))) := opB0 fun _ _ _ _ _ _ _ q => lt_int q
theorem op_gt : OpR X (compareOp .Gt) (rI0 fun i j => .bl (decide (j < i))) := opB0 fun _ _ _ _ _ _ _ q => gt_int q
/-- the one string within the other -/
theorem op_in_str : OpR X (compareOp .In) (fun x y H Q => ∃ i j, x = .str i ∧ y = .str j ∧ Q (.bl (!(Builtin.Str.occurrences j i 0 j.length 1).isEmpty)) H) := by
  intro pins s σ H x y v u Q I rx ry h
  obtain ⟨i, j, rfl, rfl, q⟩ := h
  obtain ⟨t, rfl⟩ := rx
  obtain ⟨t', rfl⟩ := ry
  exact in_str (fin_bl I q rfl)




theorem nomark (b : Expr) {op : CmpOp} (h : op ≠ .In := by decide) (h2 : op ≠ .NotIn := by decide) : behindInMarks op b = false := by
  have e1 : (op == CmpOp.In) = false := by cases op <;> first | rfl | exact absurd rfl h
  have e2 : (op == CmpOp.NotIn) = false := by cases op <;> first | rfl | exact absurd rfl h2
  cases b <;> simp [behindInMarks, e1, e2]
/-- a comparison as a value; hm: nomark b, or (for in, not in) by with_unfolding_all rfl -/
theorem pe_cmpR {op : CmpOp} {r : R2} (ho : OpR X (compareOp op) r) (ha : PE X a ta) (hb : PE X b tb) (hm : behindInMarks op b = false) : PE X (.Compare a [op] [b] pos) (tOp r ta tb) := by
  intro pins s σ H Q I h
  exact wpAny_Compare1 (binT ha hb I h fun v u s2 x y H2 I2 rx ry q => ho pins s2 σ H2 x y v u Q I2 rx ry q) hm
/-- a reading of a value as a test -/
def tTest (t : TE) : TT := fun σ H Q => t σ H fun x H' => ∃ k, x = .bl k ∧ Q k H'
theorem pt_cmpR {op : CmpOp} {r : R2} (ho : OpR X (compareOp op) r) (ha : PE X a ta) (hb : PE X b tb) (hm : behindInMarks op b = false) : PT X (.Compare a [op] [b] pos) (tTest (tOp r ta tb)) := by
  intro pins s σ H Q I h
  refine wpAny_isTrue_Compare1 (thn (ha pins s σ H _ I h) fun v s1 ⟨x, H1, I1, r1, q1⟩ => thn (hb pins s1 σ H1 _ I1 q1) fun u s2 ⟨y, H2, I2, r2, q2⟩ =>
    thn (ho pins s2 σ H2 x y v u _ I2 r1 r2 q2) fun c s3 ⟨z, H3, I3, r3, k, e, q3⟩ => ?_) hm
  subst e
  cases r3
  exact wpAny_truthy_bool ⟨H3, I3, q3⟩

/-! ### truth -/
theorem line63 : (sizeLine : Nat) < 2 ^ 63 := by rw [sizeLine_eq]; decide

/-! ### strs and bytes -/
theorem op_add_str : OpR X (binaryOp .Add) (fun x y H Q => ∃ i j, x = .str i ∧ y = .str j ∧ i.length + j.length ≤ sizeLine ∧ Q (.str (i ++ j)) H) := by
  intro pins s σ H x y v u Q I rx ry h
  obtain ⟨i, j, rfl, rfl, hz, q⟩ := h
  obtain ⟨t, rfl⟩ := rx
  obtain ⟨t', rfl⟩ := ry
  exact wpAny_with_toks (n := 1) I.tk (add_str (fun t' tk htk => ⟨.str (i ++ j), H, I.tok _ htk, ⟨_, rfl⟩, q⟩) hz)


/-! ### scalar builtins, by CallR -/
theorem vals1 {x : V} {us : List Value} (r : Vals [x] us) : ∃ u, us = [u] ∧ RelV x u := by
  cases r with
  | cons r1 r2 => cases r2; exact ⟨_, rfl, r1⟩
theorem call_int1 : CallR X (.type "int") (fun xs H Q => (∃ i, xs = [.int i] ∧ Q (.int i) H) ∨ ∃ k, xs = [.bl k] ∧ Q (.int (if k then 1 else 0)) H) := by
  intro pins s σ H xs us Q I r h
  rcases h with ⟨i, rfl, q⟩ | ⟨k, rfl, q⟩
  · obtain ⟨u, rfl, t, rfl⟩ := vals1 r
    exact call_int_int ⟨.int i, H, I, ⟨_, rfl⟩, q⟩
  · obtain ⟨u, rfl, r1⟩ := vals1 r
    cases r1
    exact call_int_bool ⟨.int (if k then 1 else 0), H, I.tok _, ⟨_, rfl⟩, q⟩
end
end L2

namespace L2
open PySem PySem.Spec PyProof.Rows

/-! ### an instance, its attributes a map -/
structure ObjM (h : Heap) (x dx C : Addr) (mA : Str → Option Value) : Prop where
  obj : h.get? x = some (PySem.W.instObj C dx)
  ns : h.Ns1 dx mA
  ne : dx ≠ x

theorem lookIn_ns {h : Heap} {dx : Addr} {mA : Str → Option Value} (n : h.Ns1 dx mA) : ∃ od, h.get? dx = some od ∧ ∀ name, PySem.W.lookIn name od = some (mA name) := by
  obtain ⟨o, es, ep, ho, hd, hk, _, hm⟩ := n
  refine ⟨o, ho, fun name => ?_⟩
  have e := hm name
  unfold nsFind findBy at e
  rw [← Array.find?_toList] at e
  unfold PySem.W.lookIn
  rw [hd]
  dsimp only
  split
  · rename_i y q
    rw [q] at e
    exact congrArg some e
  · rename_i q
    rw [q] at e
    have a : es.toList.any (·.refKey) = false := by
      rw [List.any_eq_false]
      intro y hy
      obtain ⟨z, t, hkey⟩ := hk y (Array.mem_toList_iff.mp hy)
      simp [DictEntry.refKey, hkey]
    have a' : ¬ es.toList.any (·.refKey) = true := by rw [a]; exact Bool.false_ne_true
    rw [if_neg a']
    exact congrArg some e

theorem ObjM.look {h : Heap} {x dx C : Addr} {mA : Str → Option Value} (I : ObjM h x dx C mA) : ∃ od, PySem.W.InstAt h x (PySem.W.instObj C dx) C (some od) ∧ ∀ name, PySem.W.lookIn name od = some (mA name) :=
  let ⟨od, ho, hl⟩ := lookIn_ns I.ns
  ⟨od, ⟨I.obj, rfl, rfl, ho⟩, hl⟩

section
variable {prog : Program} {w : World} {A : Around} {E : Value → Shared → Prop} {s : Shared} {K : PySem.W.Frag} {x dx C f : Addr} {mA : Str → Option Value} {name : Str} {v : Value}

theorem get_map {expr : Bool} {Q : Value → Shared → Prop} (X : K.In s.heap) (I : ObjM s.heap x dx C mA) (hg : PySem.W.plainGet K C name = true) (hh : PySem.W.hasDictIn K C = true)
    (ha : PySem.W.findIn K (.ref C) name = some none) (hv : mA name = some v) (hv' : PySem.W.handedIn v = true) (h : Q v { s with toks := s.toks + 1 }) :
    wpAny (model prog w) A (getAttr (.ref x) name expr) Q E s := by
  obtain ⟨od, J, hl⟩ := I.look
  exact PySem.W.get_value X J (PySem.W.plainGet_of hg).1 (PySem.W.findObj_own hh ha rfl (by rw [hl, hv])) hv' h


theorem get_meth {pl : Sem Bool} {Q : Value × List Value → Shared → Prop} (X : K.In s.heap) (I : ObjM s.heap x dx C mA) (hg : PySem.W.plainGet K C name = true)
    (hf : PySem.W.findIn K (.ref C) name = some (some (.ref f))) (ht : PySem.W.isFn K (.ref f) = true) (hv : mA name = none) (h : Q (.ref f, [.ref x]) s) :
    wpAny (model prog w) A (getMethod (.ref x) name pl) Q E s := by
  obtain ⟨od, J, hl⟩ := I.look
  exact PySem.W.method_fn X J (PySem.W.plainGet_of hg).1 (PySem.W.plainGet_of hg).2 hf (beq_iff_eq.mp ht) (by show (PySem.W.lookIn name od).map (·.isSome) = some false; rw [hl, hv]; rfl) h

theorem set_map {ns : List Str} {Q : Unit → Shared → Prop} (X : K.In s.heap) (I : ObjM s.heap x dx C mA)
    (hs : PySem.W.findIn K (.ref C) "__setattr__" = some (some (.builtin "object.__setattr__"))) (hp : PySem.W.plainOver K C = true) (ht : PySem.W.takerIn K C name = some none) (hh : PySem.W.hasDictIn K C = true)
    (hw : PySem.Within mA ns) (hsz : ns.length ≤ sizeLine)
    (h : ∀ h', ObjM h' x dx C (fun y => if y = name then some v else mA y) → Heap.SameBut dx s.heap h' → Q () { s with heap := h', toks := s.toks + 2 }) :
    wpAny (model prog w) A (setAttr (.ref x) name v) Q E s := by
  obtain ⟨od, J, hl⟩ := I.look
  refine PySem.W.set_plain X J hs (PySem.W.osa_open (s := { s with toks := s.toks + 1 }) (r := none) X J hp ht fun b => ?_)
  obtain ⟨cd, hc, hd'⟩ := PySem.W.any_some hh
  have hx : s.heap.get? x = some ⟨.ref C, some dx, .plain, #[]⟩ := I.obj
  refine wpAny_bind (wpAny_pure (wpAny_bind (wpAny_bind (wpAny_loadPart hx (wpAny_bind (PySem.W.Looks.here (s := { s with toks := s.toks + 1 }) (PySem.W.looks_clsIn X hc) ?_))))))
  rw [hd']
  refine wpAny_pure (a := some dx) (wpAny_bind (wpAny_pure (wpAny_bind ?_)))
  refine wpAny_nsSet1 (s := { s with toks := s.toks + 1 }) I.ns fun h' hn2 hs2 => ?_
  obtain ⟨oD, esD, epD, hoD, hdD, hcD⟩ := hn2.count (PySem.Within.cons name v hw)
  refine wpAny_bind (wpAny_lookBehind hoD (by rw [hdD]; exact pastItsLine_dict (Nat.le_trans hcD (by rw [List.length_cons]; omega))) ?_)
  exact wpAny_pure (h _ ⟨(hs2.2 _ (Ne.symm I.ne)).trans I.obj, hn2, I.ne⟩ hs2)

/-- C(..): the dict at the heap's end, the instance behind it; then its __init__ -/
theorem make_map {R : Result → Shared → Prop} {vs : List Value} {kw : List (Str × Value)} (X : K.In s.heap) (hm : PySem.W.makesIn K C = true)
    (hi : PySem.W.findIn K (.ref C) "__init__" = some (some (.ref f))) (hf : PySem.W.typeIn K (.ref f) = some (.type "function"))
    (h : codeAny (model prog w) (A.under (.builtin "type.__call__" ⟨.ref C :: vs, kw⟩)) (.call (.ref f) ⟨.ref (s.heap.objs.size + 1) :: vs, kw⟩) (PySem.W.InitBack (s.heap.objs.size + 1) R)
      { s with heap := (s.heap.push PySem.W.emptyDict).push (PySem.W.instObj C s.heap.objs.size) }) :
    codeAny (model prog w) A (.call (.ref C) ⟨vs, kw⟩) R s := by
  obtain ⟨hh, g, d, t, os⟩ := s
  exact PySem.W.make_core (PySem.W.makes_of X hm) (PySem.W.looks_findIn X hi) (fun self => PySem.W.bind_fn X self hf) (.inl rfl) h
end

/-! ### the attributes as a list of pairs -/
def putF (f : Str) (v : V) : List (Str × V) → List (Str × V)
  | [] => [(f, v)]
  | (g, x) :: r => if g = f then (g, v) :: r else (g, x) :: putF f v r
theorem lookup_putF (f g : Str) (v : V) : ∀ fs : List (Str × V), (putF f v fs).lookup g = if g = f then some v else fs.lookup g
  | [] => by
    show List.lookup g [(f, v)] = _
    by_cases h : g = f
    · have hb : (g == f) = true := beq_iff_eq.mpr h
      simp only [List.lookup, hb, if_pos h]
    · have hb : (g == f) = false := beq_eq_false_iff_ne.mpr h
      simp only [List.lookup, hb, if_neg h]
  | (k, x) :: r => by
    have ih := lookup_putF f g v r
    rw [show putF f v ((k, x) :: r) = (if k = f then (k, v) :: r else (k, x) :: putF f v r) from rfl]
    by_cases hk : k = f
    · rw [if_pos hk]
      by_cases h : g = k
      · have hb : (g == k) = true := beq_iff_eq.mpr h
        simp only [List.lookup, hb, if_pos (h.trans hk)]
      · have hb : (g == k) = false := beq_eq_false_iff_ne.mpr h
        simp only [List.lookup, hb, if_neg (fun e : g = f => h (e.trans hk.symm))]
    · rw [if_neg hk]
      by_cases h : g = k
      · have hb : (g == k) = true := beq_iff_eq.mpr h
        simp only [List.lookup, hb, if_neg (fun e : g = f => hk (h.symm.trans e))]
      · have hb : (g == k) = false := beq_eq_false_iff_ne.mpr h
        simp only [List.lookup, hb]
        exact ih
theorem keys_putF (f : Str) (v : V) : ∀ fs : List (Str × V), f ∈ (putF f v fs).map (·.1) ∧ ∀ g, g ∈ fs.map (·.1) → g ∈ (putF f v fs).map (·.1)
  | [] => ⟨by simp [putF], fun g h => by simp at h⟩
  | (k, x) :: r => by
    obtain ⟨i1, i2⟩ := keys_putF f v r
    rw [show putF f v ((k, x) :: r) = (if k = f then (k, v) :: r else (k, x) :: putF f v r) from rfl]
    by_cases hk : k = f
    · rw [if_pos hk]
      subst hk
      exact ⟨by simp, fun g h => by simpa using h⟩
    · rw [if_neg hk]
      refine ⟨?_, fun g h => ?_⟩
      · rw [List.map_cons]
        exact List.mem_cons_of_mem _ i1
      · rw [List.map_cons] at h ⊢
        rcases List.mem_cons.mp h with e | e
        · exact List.mem_cons.mpr (.inl e)
        · exact List.mem_cons_of_mem _ (i2 g e)
theorem length_putF (f : Str) (v : V) : ∀ fs : List (Str × V), (putF f v fs).length ≤ fs.length + 1
  | [] => by simp [putF]
  | (k, x) :: r => by
    have ih := length_putF f v r
    rw [show putF f v ((k, x) :: r) = (if k = f then (k, v) :: r else (k, x) :: putF f v r) from rfl]
    by_cases hk : k = f
    · rw [if_pos hk, List.length_cons, List.length_cons]; omega
    · rw [if_neg hk, List.length_cons, List.length_cons]; omega

theorem RelO.some_of {v : V} {o : Option Value} (r : RelO (some v) o) : ∃ u, o = some u ∧ RelV v u := by
  cases o with
  | none => exact (show False from r).elim
  | some u => exact ⟨u, rfl, r⟩
theorem RelO.none_of {o : Option Value} (r : RelO none o) : o = none := by
  cases o with
  | none => rfl
  | some u => exact (show False from r).elim
theorem handed_of {v : V} {u : Value} (r : RelV v u) : PySem.W.handedIn u = true := by
  cases v with
  | non => cases (show u = Value.none from r); rfl
  | bl b => cases (show u = Value.bool b from r); rfl
  | int i => obtain ⟨t, e⟩ := (show ∃ t, u = Value.int i t from r); cases e; rfl
  | str x => obtain ⟨t, e⟩ := (show ∃ t, u = Value.str x t from r); cases e; rfl
  | byt b => obtain ⟨t, e⟩ := (show ∃ t, u = Value.bytes b t from r); cases e; rfl
  | flt b => obtain ⟨t, e⟩ := (show ∃ t, u = Value.float b t from r); cases e; rfl
  | ref a => cases (show u = Value.ref a from r); rfl
  | ty n => cases (show u = Value.type n from r); rfl

section
variable {P : Program} {w : World} {H H' : Hp} {h h' : Heap} {a C dx : Addr} {fs fs' : List (Str × V)}
theorem ins_get (hok : HOk P w H h) (e : H a = some (.ins C dx fs)) : ∃ mA, ObjM h a dx C mA ∧ (∀ f, RelO (fs.lookup f) (mA f)) ∧ PySem.Within mA (fs.map (·.1)) ∧ fs.length ≤ 1000 ∧ H dx = some (.own a) := by
  obtain ⟨d, z, ne, ob, mA, n, r, q⟩ := (show ObjOk P w H h a (.ins C dx fs) from hok a _ e)
  exact ⟨mA, ⟨ob, n, ne⟩, r, q, z, d⟩
end

/-! ### what of the text a class must have -/
structure Cls (K : PySem.W.Frag) (C : Addr) : Prop where
  pg : PySem.W.plainGet K C Str.empty = true
  hd : PySem.W.hasDictIn K C = true
  po : PySem.W.plainOver K C = true
  sa : PySem.W.findIn K (.ref C) "__setattr__" = some (some (.builtin "object.__setattr__"))
theorem Cls.get {K : PySem.W.Frag} {C : Addr} (c : Cls K C) (f : Str) : PySem.W.plainGet K C f = true := c.pg
/-- no class of it has the name -/
def NoAttr (K : PySem.W.Frag) (C : Addr) (f : Str) : Prop := PySem.W.findIn K (.ref C) f = some none
theorem NoAttr.taker {K : PySem.W.Frag} {C : Addr} {f : Str} (n : NoAttr K C f) : PySem.W.takerIn K C f = some none := by
  unfold PySem.W.takerIn
  rw [show PySem.W.findIn K (.ref C) f = some none from n]
  rfl
/-- a method: a plain def of the class or of one above it -/
structure Meth (K : PySem.W.Frag) (C : Addr) (m : Str) (f : Addr) : Prop where
  at_ : PySem.W.findIn K (.ref C) m = some (some (.ref f))
  fn : PySem.W.isFn K (.ref f) = true
  kp : PySem.W.keepIn K (.ref f) = true

section
variable {X : Cx} {pins : List (Addr × Obj)} {σ : St} {H : Hp} {s : Shared} {a C dx : Addr} {fs : List (Str × V)} {f : Str} {v : V} {A : Around} {E : Value → Shared → Prop}

theorem getattr_ok {b : Bool} {Q : Value → Shared → Prop} (I : Inv X pins σ H s) (e : H a = some (.ins C dx fs)) (c : Cls X.K C) (n : NoAttr X.K C f) (l : fs.lookup f = some v)
    (h : ∀ u s', Inv X pins σ H s' → RelV v u → Q u s') : wpAny (model X.prog X.w) A (getAttr (.ref a) f b) Q E s := by
  obtain ⟨mA, O, r, _, _, _⟩ := ins_get I.hok e
  obtain ⟨u, hu, ru⟩ := RelO.some_of (v := v) (o := mA f) (by rw [← l]; exact r f)
  exact get_map I.kIn O (c.get f) c.hd n hu (handed_of ru) (h u _ (I.tok _) ru)


theorem getmeth_ok {m : Str} {g : Addr} {pl : Sem Bool} {Q : Value × List Value → Shared → Prop} (I : Inv X pins σ H s) (e : H a = some (.ins C dx fs)) (c : Cls X.K C) (k : Meth X.K C m g) (l : fs.lookup m = none)
    (h : Q (.ref g, [.ref a]) s) : wpAny (model X.prog X.w) A (getMethod (.ref a) m pl) Q E s := by
  obtain ⟨mA, O, r, _, _, _⟩ := ins_get I.hok e
  have hn : mA m = none := RelO.none_of (by rw [← l]; exact r m)
  exact get_meth I.kIn O (c.get m) k.at_ k.fn hn h

theorem setattr_ok {y : V} {u : Value} {Q : Unit → Shared → Prop} (I : Inv X pins σ H s) (e : H a = some (.ins C dx fs)) (c : Cls X.K C) (n : NoAttr X.K C f) (hl : fs.length < 1000) (ry : RelV y u)
    (h : ∀ s', Inv X pins σ (upd H a (.ins C dx (putF f y fs))) s' → Q () s') : wpAny (model X.prog X.w) A (setAttr (.ref a) f u) Q E s := by
  obtain ⟨mA, O, r, wi, _, ho⟩ := ins_get I.hok e
  have hz : (fs.map (·.1)).length ≤ sizeLine := by rw [List.length_map, sizeLine_eq]; omega
  refine set_map I.kIn O c.sa c.po n.taker c.hd wi hz fun h' O' sb => h _ ?_
  have hd : ∃ o, h'.get? dx = some o := let ⟨o, _, _, e', _⟩ := O'.ns; ⟨o, e'⟩
  refine I.write (x := a) (e := dx) (by rw [e]; exact True.intro) (.inr ho) (fun b q hb z => (sb.2 b hb).trans z) hd ?_
  refine ⟨by rw [upd_ne O.ne]; exact ho, ?_, O.ne, O'.obj, _, O'.ns, fun g => ?_, fun g hg => ?_⟩
  · have := length_putF f y fs; omega
  · show RelO ((putF f y fs).lookup g) (if g = f then some u else mA g)
    rw [lookup_putF]
    by_cases q : g = f
    · rw [if_pos q, if_pos q]; exact ry
    · rw [if_neg q, if_neg q]; exact r g
  · by_cases q : g = f
    · rw [q]; exact (keys_putF f y fs).1
    · refine (keys_putF f y fs).2 g (wi g fun z => hg ?_)
      show (if g = f then some u else mA g) = none
      rw [if_neg q]; exact z

/-- a new instance, tracked, without attributes -/
theorem Inv.made (I : Inv X pins σ H s) : Inv X pins σ (upd (upd H s.heap.objs.size (.own (s.heap.objs.size + 1))) (s.heap.objs.size + 1) (.ins C s.heap.objs.size []))
    { s with heap := (s.heap.push PySem.W.emptyDict).push (PySem.W.instObj C s.heap.objs.size) } := by
  have e1 : (s.heap.push PySem.W.emptyDict).get? s.heap.objs.size = some PySem.W.emptyDict := Heap.get?_push_size s.heap rfl
  have e2 : ((s.heap.push PySem.W.emptyDict).push (PySem.W.instObj C s.heap.objs.size)).get? (s.heap.objs.size + 1) = some (PySem.W.instObj C s.heap.objs.size) := by
    have := Heap.get?_push_size (s.heap.push PySem.W.emptyDict) (o := PySem.W.instObj C s.heap.objs.size) rfl
    rwa [Heap.size_push] at this
  have e3 : (s.heap.push PySem.W.emptyDict).Ns s.heap.objs.size (fun _ => none) := ⟨PySem.W.emptyDict, #[], _, e1, rfl, (fun e he => absurd he (by simp)), fun _ => rfl⟩
  have I1 := I.laid (a := s.heap.objs.size) (o := .own (s.heap.objs.size + 1)) (h' := s.heap.push PySem.W.emptyDict) (t' := s.toks) (fun b u q => Heap.get?_push_of_some _ q) (Nat.le_refl _) ⟨_, e1⟩
  refine I1.laid (a := s.heap.objs.size + 1) (o := .ins C s.heap.objs.size []) (t' := s.toks) (fun b u q => Heap.get?_push_of_some _ q) (Nat.le_of_eq (Heap.size_push _ _)) ?_
  have ne : s.heap.objs.size ≠ s.heap.objs.size + 1 := Nat.ne_of_lt (Nat.lt_succ_self _)
  refine ⟨by rw [upd_ne ne, upd_same], Nat.zero_le _, ne, e2, fun _ => none, (Heap.Ns1.of_empty e3).at fun o q => Heap.get?_push_of_some _ q, fun _ => True.intro, fun y hy => absurd rfl hy⟩

/-- e.f where nothing but the object is asked: through attributeBase (super) and the last hold -/
theorem attr_of {prog : Program} {w : World} {env : Env} {e : Expr} {f : Str} {pos : Pos} {s : Shared} {Q : Value → Shared → Prop} (hb : attributeBase e f env (eval e env) = eval e env)
    (h : wpAny (model prog w) A (eval e env) (fun o s₁ => wpAny (model prog w) A (getAttr o f true) Q E s₁) E s) : wpAny (model prog w) A (eval (.Attribute e f pos) env) Q E s :=
  Attribute_any_ h (by rw [arm_eval_Attribute, hb])
end

/-! ### readings and rules -/
/-- e.f, an attribute of the instance -/
def tFld (K : PySem.W.Frag) (ta : TE) (f : Str) : TE := fun σ H Q => ta σ H fun x H1 => ∃ a C dx fs v, x = .ref a ∧ H1 a = some (.ins C dx fs) ∧ Cls K C ∧ NoAttr K C f ∧ fs.lookup f = some v ∧ Q v H1
/-- e.f = value -/
def sFld (K : PySem.W.Frag) (ta tv : TE) (f : Str) : TS := fun D σ H => tv σ H fun y H1 => ta σ H1 fun x H2 => ∃ a C dx fs, x = .ref a ∧ H2 a = some (.ins C dx fs) ∧ Cls K C ∧ NoAttr K C f ∧ fs.length < 1000 ∧
  D.nx σ (upd H2 a (.ins C dx (putF f y fs)))

section
variable {X : Cx} {o e value : Expr} {f : Str} {pos pos' tpos : Pos} {ta tv : TE}
theorem pe_fld (he : PE X e ta) (hb : attributeBase e f X.env (eval e X.env) = eval e X.env) : PE X (.Attribute e f pos) (tFld X.K ta f) := by
  intro pins s σ H Q I h
  refine attr_of hb (thn (he pins s σ H _ I h) fun u s1 ⟨x, H1, I1, rx, a, C, dx, fs, v, ex, ea, c, n, l, q⟩ => ?_)
  subst ex
  obtain rfl : u = Value.ref a := rx
  exact getattr_ok I1 ea c n l fun u' s2 I2 ru => ⟨v, H1, I2, ru, q⟩
theorem ps_fld (ha : PE X o ta) (hv : PE X value tv) (hs : swapsWith value (some (.Attribute o f pos')) pos.line X.env = pure false) : PS X (.Assign [.Attribute o f pos'] value pos) (sFld X.K ta tv f) := by
  intro pins s σ H D I h
  refine plainObj_wpAny_Assign_Attribute (thn (hv pins s σ H _ I h) fun u s1 ⟨y, H1, I1, ry, q⟩ => thn (ha pins s1 σ H1 _ I1 q) fun ov s2 ⟨x, H2, I2, rx, a, C, dx, fs, ex, ea, c, n, l, q2⟩ => ?_) hs
  subst ex
  obtain rfl : ov = Value.ref a := rx
  exact setattr_ok I2 ea c n l ry fun s3 I3 => ⟨σ, _, I3, q2⟩

end

/-! ### isinstance -/
section
variable {X : Cx} {pins : List (Addr × Obj)} {σ : St} {H : Hp} {s : Shared} {A : Around} {E : Value → Shared → Prop} {Q : Value → Shared → Prop} {c : Value} {b : Bool}
/-- the type of a value, as the fragment's deciders take it; for an instance its class -/
inductive TyOf (K : PySem.W.Frag) (H : Hp) : V → Value → Prop where
  | non : TyOf K H .non (.type "NoneType")
  | bl (x : Bool) : TyOf K H (.bl x) (.type "bool")
  | int (i : Int) : TyOf K H (.int i) (.type "int")
  | str (x : Str) : TyOf K H (.str x) (.type "str")
  | flt (x : UInt64) : TyOf K H (.flt x) (.type "float")
  | lst {a : Addr} {xs : List V} (e : H a = some (.lst xs)) : TyOf K H (.ref a) (.type "list")
  | frz {a : Addr} {o : Obj} {xs : List V} (e : H a = some (.frz o (.lst xs))) : TyOf K H (.ref a) (.type "list")
  | tup {a : Addr} {xs : List V} (e : H a = some (.tup xs)) : TyOf K H (.ref a) (.type "tuple")
  | dK {a : Addr} {kvs : List (Key × V)} (e : H a = some (.dK kvs)) : TyOf K H (.ref a) (.type "dict")
  | dT {a : Addr} {kvs : List (List Key × V)} (e : H a = some (.dT kvs)) : TyOf K H (.ref a) (.type "dict")
  | ins {a C dx : Addr} {fs : List (Str × V)} (e : H a = some (.ins C dx fs)) (cl : Cls K C) (ha : PySem.W.findIn K (.ref C) "__class__" = some (some (.builtin "object.__class__")))
      (hn : PySem.W.specialIn K (.builtin "object.__class__") "__get__" = some (some (.builtin "getset_descriptor.__get__"))) (htk : PySem.W.takesIn K (.builtin "object.__class__") = some true)
      (hm : PySem.W.mroIn K C (.type "object") = some true) : TyOf K H (.ref a) (.ref C)
/-- isinstance(x, c) for one class c, a built-in or an own one: kitOne's answer -/
theorem isinst_ok {x : V} {u t : Value} (I : Inv X pins σ H s) (rx : RelV x u) (ty : TyOf X.K H x t) (e : PySem.W.kitOne X.K t c = some b) (h : ∀ tk, Q (.bool b) { s with toks := tk }) :
    wpAny (model X.prog X.w) A (call (.builtin "isinstance") [u, c]) Q E s := by
  cases ty with
  | non => cases (show u = Value.none from rx); exact PySem.W.kia_one PySem.W.kitx_none I.kIn True.intro e (fun z => nomatch z) h
  | bl y => cases (show u = Value.bool y from rx); exact PySem.W.kia_one PySem.W.kitx_bool I.kIn True.intro e (fun z => nomatch z) h
  | int i => obtain ⟨t, q⟩ := (show ∃ t, u = Value.int i t from rx); cases q; exact PySem.W.kia_one PySem.W.kitx_int I.kIn True.intro e (fun z => nomatch z) h
  | str y => obtain ⟨t, q⟩ := (show ∃ t, u = Value.str y t from rx); cases q; exact PySem.W.kia_one PySem.W.kitx_str I.kIn True.intro e (fun z => nomatch z) h
  | flt y => obtain ⟨t, q⟩ := (show ∃ t, u = Value.float y t from rx); cases q; exact PySem.W.kia_one PySem.W.kitx_float I.kIn True.intro e (fun z => nomatch z) h
  | @lst a xs ea =>
    cases (show u = Value.ref a from rx)
    obtain ⟨_, _, n, _, h1⟩ := (show ObjOk X.prog X.w H s.heap a (.lst xs) from I.hok a _ ea)
    exact PySem.W.kia_one PySem.W.kitx_list I.kIn ⟨_, h1, rfl⟩ e (fun z => nomatch z) h
  | @frz a ob xs ea =>
    cases (show u = Value.ref a from rx)
    obtain ⟨_, _, _, n, _, h1⟩ := (show ObjOk X.prog X.w H s.heap a (.frz ob (.lst xs)) from I.hok a _ ea)
    exact PySem.W.kia_one PySem.W.kitx_list I.kIn ⟨_, h1, rfl⟩ e (fun z => nomatch z) h
  | @tup a xs ea =>
    cases (show u = Value.ref a from rx)
    obtain ⟨_, _, _, p⟩ := (show ObjOk X.prog X.w H s.heap a (.tup xs) from I.hok a _ ea)
    obtain ⟨o, h1, h2, _⟩ := p
    exact PySem.W.kia_one PySem.W.kitx_tuple I.kIn ⟨o, h1, h2⟩ e (fun z => nomatch z) h
  | @dK a kvs ea =>
    cases (show u = Value.ref a from rx)
    obtain ⟨_, _, vs, _, p⟩ := (show ObjOk X.prog X.w H s.heap a (.dK kvs) from I.hok a _ ea)
    obtain ⟨o, es, ep, h1, h2, _⟩ := p
    exact PySem.W.kia_one PySem.W.kitx_dict I.kIn ⟨o, h1, h2.1⟩ e (fun z => nomatch z) h
  | @dT a kvs ea =>
    cases (show u = Value.ref a from rx)
    obtain ⟨_, _, xs, _, o, es, ep, h1, h2, _⟩ := (show ObjOk X.prog X.w H s.heap a (.dT kvs) from I.hok a _ ea)
    exact PySem.W.kia_one PySem.W.kitx_dict I.kIn ⟨o, h1, h2.1⟩ e (fun z => nomatch z) h
  | @ins a C dx fs ea cl ha hn htk hm =>
    cases (show u = Value.ref a from rx)
    obtain ⟨mA, O, _⟩ := ins_get I.hok ea
    obtain ⟨od, J, _⟩ := O.look
    exact PySem.W.kia_one (PySem.W.kitx_own (cl.get _) cl.hd ha hn htk hm) I.kIn J e (fun z => nomatch z) h
end
end L2

namespace L2
open PySem PySem.Spec PyProof.Rows

/-! ### room -/
structure Room (k : Nat) (A : Around) : Prop where
  hd : A.handled = none
  dp : A.depth + 3 * k + 5 < recursionLimit
  un : A.units + 16 * k + 200 < cLine
theorem Room.mono {j k : Nat} {A : Around} (r : Room k A) (h : j ≤ k) : Room j A := ⟨r.hd, by have := r.dp; omega, by have := r.un; omega⟩
theorem Room.deeper {k : Nat} {A : Around} (r : Room (k + 1) A) (env : Env) : Room k (A.deeper env) :=
  ⟨r.hd, by have := r.dp; show A.depth + 1 + 3 * k + 5 < _; omega, by have := r.un; show A.units + 3 + 16 * k + 200 < _; omega⟩
theorem make_depth {A : Around} {C : Addr} {us : List Value} {kw : List (Str × Value)} : (A.under (.builtin "type.__call__" ⟨.ref C :: us, kw⟩)).depth = A.depth + 1 := by
  first | rfl | simp [Around.under, Code.weight, Code.isCreation, Code.isGuard, Code.isCaller, Code.frames, Code.isFrame, guardIds]
theorem make_units {A : Around} {C : Addr} {us : List Value} {kw : List (Str × Value)} : (A.under (.builtin "type.__call__" ⟨.ref C :: us, kw⟩)).units = A.units + 1 := by
  first | rfl | simp [Around.under, Code.cUnits, Code.frames, Code.isFrame]
theorem Room.make {k : Nat} {A : Around} (r : Room (k + 1) A) (C : Addr) (us : List Value) (kw : List (Str × Value)) : Room k (A.under (.builtin "type.__call__" ⟨.ref C :: us, kw⟩)) :=
  ⟨r.hd, by have := r.dp; rw [make_depth]; omega, by have := r.un; rw [make_units]; omega⟩
theorem Room.depth {k : Nat} {A : Around} (r : Room k A) : A.depth < recursionLimit := by have := r.dp; omega

/-! ### argument lists and displays -/
def tNil : TA := fun _ H Q => Q [] H
def tCons (ta : TE) (tr : TA) : TA := fun σ H Q => ta σ H fun x H1 => tr σ H1 fun xs H2 => Q (x :: xs) H2
section
variable {X : Cx} {e : Expr} {es : List Expr} {te : TE} {t : TA} {pos : Pos}
theorem pa_nil : PA X [] tNil := fun _ _ _ _ H Q I h => Calls.spliced_nil ⟨[], H, I, .nil, h⟩
theorem pa_cons (ha : PE X e te) (hr : PA X es t) (hs : starEach (e :: es) X.env = (false, eval e X.env) :: starEach es X.env := by rfl) : PA X (e :: es) (tCons te t) := by
  intro pos pins s σ H Q I h
  rw [hs]
  show wpAny _ _ (spliced ((false, eval e X.env) :: backTo pos (starEach es X.env))) _ _ s
  refine Calls.spliced_cons (thn (ha pins s σ H _ I h) fun u s1 ⟨x, H1, I1, r1, q1⟩ => ?_)
  exact thn (hr pos pins s1 σ H1 _ I1 q1) fun us s2 ⟨xs, H2, I2, r2, q2⟩ => ⟨x :: xs, H2, I2, .cons r1 r2, q2⟩

/-- a tuple, a list of written items -/
def tTup (t : TA) : TE := fun σ H Q => t σ H fun xs H1 => xs.length ≤ sizeLine ∧ ∀ p, H1 p = none → Q (.ref p) (upd H1 p (.tup xs))
def tLst (t : TA) : TE := fun σ H Q => t σ H fun xs H1 => xs.length ≤ sizeLine ∧ ∀ p, H1 p = none → Q (.ref p) (upd H1 p (.lst xs))
theorem pe_tup {x1} (h : PA X es t) : PE X (.Tuple es x1 pos) (tTup t) := by
  intro pins s σ H Q I hq
  refine wpAny_Tuple_spliced (thn (h pos pins s σ H _ I hq) fun us s1 ⟨xs, H1, I1, r, z, q⟩ => ⟨by rw [← r.length]; exact z, ?_⟩)
  have hf : H1 s1.heap.objs.size = none := I1.hok.fresh (Nat.le_refl _)
  refine ⟨.ref s1.heap.objs.size, upd H1 s1.heap.objs.size (.tup xs), I1.laid (t' := s1.toks) (fun b u e => Heap.get?_push_of_some _ e) (Nat.le_refl _) ?_, rfl, q _ hf⟩
  exact ⟨z, us, r, ⟨_, Heap.get?_push_size _ rfl, rfl, _, rfl⟩⟩
theorem pe_lst (h : PA X es t) : PE X (.List es pos) (tLst t) := by
  intro pins s σ H Q I hq
  refine wpAny_List_spliced (thn (h pos pins s σ H _ I hq) fun us s1 ⟨xs, H1, I1, r, z, q⟩ => ⟨by rw [← r.length]; exact z, ?_⟩)
  have hf : H1 s1.heap.objs.size = none := I1.hok.fresh (Nat.le_refl _)
  refine ⟨.ref s1.heap.objs.size, upd H1 s1.heap.objs.size (.lst xs), I1.laid (t' := s1.toks) (fun b u e => Heap.get?_push_of_some _ e) (Nat.le_refl _) ?_, rfl, q _ hf⟩
  exact ⟨z, us, 0, r, Heap.get?_push_size _ rfl⟩
end

/-! ### what a def promises -/
/-- a def's promise: the bound arguments in the parameters' order, the heap, the wanted end, the wanted exception -/
abbrev Sp := List V → Hp → VK → XK → Prop
/-- how an exception lies behind a call (file 08 gives it): the callers' frames, abstract heap and state ahead of the call, the wish, the exception, the state -/
abbrev CXT := List Env → Hp → Shared → XK → Value → Shared → Prop

/-- the state at a call -/
structure Env0 (P : Program) (w : World) (K : PySem.W.Frag) (mg : Str → Option Value) (base : Heap) (A : Around) (outer : List Env) (s : Shared) (H : Hp) : Prop where
  frames : A.frames = some outer
  mod : Mod K mg base
  bs : ∀ b o, base.get? b = some o → s.heap.get? b = some o ∧ H b = none
  bsz : base.objs.size ≤ s.heap.objs.size
  funs : s.heap.FunFrames base outer
  frf : ∀ b ∈ frs outer, H b = none
  hok : HOk P w H s.heap
  bare : AllBare s.gens
  tk : 0 < s.toks
/-- a call's end -/
def CE (outer : List Env) (P : Program) (w : World) (H : Hp) (s : Shared) (Q : VK) (u : Value) (s' : Shared) : Prop :=
  ∃ v H', s'.os = s.os ∧ AllBare s'.gens ∧ Un (frs outer) [] H H' s.heap s'.heap ∧ HOk P w H' s'.heap ∧ 0 < s'.toks ∧ RelV v u ∧ Q v H'
def CR (CX : CXT) (outer : List Env) (P : Program) (w : World) (H : Hp) (s : Shared) (Q : VK) (E : XK) (r : Result) (s' : Shared) : Prop :=
  match r with
  | .ok (.ret u) => CE outer P w H s Q u s'
  | .ok _ => False
  | .error e => CX outer H s E e s'
structure FnOk (P : Program) (w : World) (K : PySem.W.Frag) (mg : Str → Option Value) (base : Heap) (CX : CXT) (k : Nat) (f : Addr) (fd : FuncData) (ps : List Str) (sp : Sp) : Prop where
  len : ∀ vs H Q E, sp vs H Q E → vs.length = ps.length
  run : ∀ (A : Around) (outer : List Env) (s : Shared) (H : Hp) (args : Args) (us : List Value) (vs : List V) (Q : VK) (E : XK), Room k A → Env0 P w K mg base A outer s H → BindsTo s fd args (ps.zip us) → Vals vs us → sp vs H Q E →
    codeAny (model P w) A (.call (.ref f) args) (CR CX outer P w H s Q E) s
theorem FnOk.mono {P : Program} {w : World} {K : PySem.W.Frag} {mg : Str → Option Value} {base : Heap} {CX : CXT} {j k : Nat} {f : Addr} {fd : FuncData} {ps : List Str} {sp : Sp} (F : FnOk P w K mg base CX j f fd ps sp) (h : j ≤ k) :
    FnOk P w K mg base CX k f fd ps sp := ⟨F.len, fun A outer s H args us vs Q E hr => F.run A outer s H args us vs Q E (hr.mono h)⟩

theorem Env0.make {P : Program} {w : World} {K : PySem.W.Frag} {mg : Str → Option Value} {base : Heap} {A : Around} {outer : List Env} {s : Shared} {H : Hp} (e : Env0 P w K mg base A outer s H) (C : Addr) (us : List Value) (kw : List (Str × Value)) :
    Env0 P w K mg base (A.under (.builtin "type.__call__" ⟨.ref C :: us, kw⟩)) outer s H := ⟨by first | exact e.frames | (simpa [Around.under, Code.envs, Code.isFrame, pushEnvs] using e.frames), e.mod, e.bs, e.bsz, e.funs, e.frf, e.hok, e.bare, e.tk⟩

section
variable {X : Cx} {pins : List (Addr × Obj)} {σ : St} {H : Hp} {s s' : Shared}
/-- from a body: what a callee wants -/
theorem Inv.env0 (I : Inv X pins σ H s) : Env0 X.prog X.w X.K X.mg X.base X.A X.stack s H :=
  ⟨I.ok.frames, I.ok.mod, I.bs, Nat.le_trans I.ok.bsz I.sz, I.stack, I.stkFree, I.hok, I.bare, I.tk⟩
/-- behind a call -/
theorem Inv.after {Q : VK} {u : Value} (I : Inv X pins σ H s) (h : CE X.stack X.prog X.w H s Q u s') : EP X pins σ Q u s' := by
  obtain ⟨v, H', os, bare, un, hok, tk', r, q⟩ := h
  obtain ⟨hh, g, d, t, os'⟩ := s'
  obtain rfl : os' = s.os := os
  exact ⟨v, H', I.call (h' := hh) (g' := g) (d' := d) (t' := t) (ch := []) un hok bare (fun b z => absurd z (by simp)) tk', r, q⟩
end

/-! ### calls -/
/-- f(..): the written arguments, then the defaults dvs; E: what is wanted of an exception -/
def tCall (sp : Sp) (dvs : List V) (E : XK) (t : TA) : TE := fun σ H Q => t σ H fun vs H1 => sp (vs ++ dvs) H1 Q E
/-- C(..): a new instance and its dict, then __init__ -/
def tMake (C : Addr) (sp : Sp) (dvs : List V) (E : XK) (t : TA) : TE := fun σ H Q => t σ H fun vs H1 => ∀ x dx, H1 x = none → H1 dx = none → dx ≠ x →
  sp (.ref x :: (vs ++ dvs)) (upd (upd H1 dx (.own x)) x (.ins C dx [])) (fun v H2 => v = .non ∧ Q (.ref x) H2) E

/-- how the parameters are bound: us the positional arguments, kw the keywords' values by name, ds the defaults that fill up -/
def Binds (K : PySem.W.Frag) (fd : FuncData) (ps : List Str) (ds : List Value) : Prop :=
  ∀ (s : Shared) (us : List Value), K.In s.heap → (us ++ ds).length = ps.length → BindsTo s fd ⟨us, []⟩ (ps.zip (us ++ ds))
/-- every parameter is given -/
theorem Binds.all {K : PySem.W.Frag} {fd : FuncData} {ps : List Str} (h : ∀ us : List Value, us.length = ps.length → bindArgs fd ⟨us, []⟩ = pure (ps.zip us)) : Binds K fd ps [] := fun s us _ hl => by
  rw [List.append_nil] at hl ⊢
  exact .of_eq (h us hl)

/-- an exception of a callee reaches what this body wants of exceptions -/
def Passes (CX : CXT) (X : Cx) (E : XK) : Prop := ∀ (pins : List (Addr × Obj)) (σ : St) (H : Hp) (s : Shared) (e : Value) (s' : Shared), Inv X pins σ H s → CX X.stack H s E e s' → X.xe e s'

section
variable {X : Cx} {CX : CXT} {k : Nat} {f C : Addr} {fd : FuncData} {ps : List Str} {sp : Sp} {dvs : List V} {ds : List Value} {E : XK} {x m : Str} {p pos apos : Pos} {e o : Expr} {es : List Expr} {ta : TE} {t : TA}

/-- the callee runs -/
theorem run_fn {pins : List (Addr × Obj)} {σ : St} {H : Hp} {s : Shared} {Q : VK} {us : List Value} {vs : List V} (F : FnOk X.prog X.w X.K X.mg X.base CX k f fd ps sp) (hr : Room k X.A) (hb : Binds X.K fd ps ds) (hd : Vals dvs ds) (hx : Passes CX X E)
    (I : Inv X pins σ H s) (r : Vals vs us) (h : sp (vs ++ dvs) H Q E) : wpAny (model X.prog X.w) X.A (call (.ref f) us) (EP X pins σ Q) X.xe s := by
  have r2 : Vals (vs ++ dvs) (us ++ ds) := r.append hd
  have hl : (us ++ ds).length = ps.length := by rw [← r2.length]; exact F.len _ _ _ _ h
  refine wpAny_call (codeAny_mono (F.run X.A X.stack s H ⟨us, []⟩ (us ++ ds) (vs ++ dvs) Q E hr I.env0 (hb s us I.kIn hl) r2 h) fun r s' hq => ?_)
  cases r with
  | error e => exact hx pins σ H s e s' I hq
  | ok fl =>
    cases fl with
    | ret u => exact I.after hq
    | next => exact False.elim hq
    | brk => exact False.elim hq
    | cont => exact False.elim hq

theorem pe_call (F : FnOk X.prog X.w X.K X.mg X.base CX k f fd ps sp) (hr : Room k X.A) (hg : Gl X x) (hm : X.mg x = some (.ref f)) (hk : PySem.W.keepIn X.K (.ref f) = true) (hb : Binds X.K fd ps ds) (hd : Vals dvs ds) (hx : Passes CX X E)
    (ha : PA X (e :: es) t) (hdb : (x == ("__debug__" : Str)) = false := by decide) (he : starEach (e :: es) X.env = (false, eval e X.env) :: starEach es X.env := by rfl) (hpl : (backTo pos (starEach es X.env)).any (·.1) = false := by rfl) :
    PE X (.Call (.Name x p) (e :: es) [] pos) (tCall sp dvs E t) := by
  intro pins s σ H Q I h
  refine wpAny_Call_Name_kw (ld_glob I hg hm ?_ hdb)
  refine PySem.W.callWith_K (h₀ := X.base) I.ok.mod.kin hk (thn (ha pos pins s σ H _ I h) fun us s1 ⟨vs, H1, I1, r, q⟩ => ⟨I1.kIn, ?_⟩) he hpl
  exact run_fn F hr hb hd hx I1 r q


/-- what a class must have to be made -/
structure Mk (K : PySem.W.Frag) (C f : Addr) : Prop where
  makes : PySem.W.makesIn K C = true
  init : PySem.W.findIn K (.ref C) "__init__" = some (some (.ref f))
  fn : PySem.W.isFn K (.ref f) = true
  kp : PySem.W.keepIn K (.ref C) = true

theorem run_make {pins : List (Addr × Obj)} {σ : St} {H : Hp} {s : Shared} {Q : VK} {us : List Value} {vs : List V} (M : Mk X.K C f) (F : FnOk X.prog X.w X.K X.mg X.base CX k f fd ps sp) (hr : Room (k + 1) X.A) (hb : Binds X.K fd ps ds) (hd : Vals dvs ds)
    (hx : Passes CX X E) (I : Inv X pins σ H s) (r : Vals vs us)
    (h : ∀ x dx, H x = none → H dx = none → dx ≠ x → sp (.ref x :: (vs ++ dvs)) (upd (upd H dx (.own x)) x (.ins C dx [])) (fun v H2 => v = .non ∧ Q (.ref x) H2) E) :
    wpAny (model X.prog X.w) X.A (call (.ref C) us) (EP X pins σ Q) X.xe s := by
  have hq := h (s.heap.objs.size + 1) s.heap.objs.size (I.hok.fresh (Nat.le_succ _)) (I.hok.fresh (Nat.le_refl _)) (Nat.ne_of_lt (Nat.lt_succ_self _))
  have I2 := Inv.made (C := C) I
  have r2 : Vals (V.ref (s.heap.objs.size + 1) :: (vs ++ dvs)) (Value.ref (s.heap.objs.size + 1) :: (us ++ ds)) := .cons rfl (r.append hd)
  have hl : (Value.ref (s.heap.objs.size + 1) :: us ++ ds).length = ps.length := by
    have e := r2.length
    rw [F.len _ _ _ _ hq] at e
    exact e.symm
  refine wpAny_call (make_map (f := f) I.kIn M.makes M.init (beq_iff_eq.mp M.fn) (codeAny_mono (F.run _ X.stack _ _ ⟨Value.ref (s.heap.objs.size + 1) :: us, []⟩ (Value.ref (s.heap.objs.size + 1) :: (us ++ ds)) _ _ E (hr.make C us [])
    (I2.env0.make C us []) (hb _ (Value.ref (s.heap.objs.size + 1) :: us) I2.kIn hl) r2 hq) fun r s' hq' => ?_))
  cases r with
  | error e => exact hx pins σ _ _ e s' I2 hq'
  | ok fl =>
    cases fl with
    | ret u =>
      obtain ⟨v, H', I3, rv, ev, q3⟩ := I2.after hq'
      subst ev
      exact ⟨rv, ⟨V.ref (s.heap.objs.size + 1), H', I3, rfl, q3⟩⟩
    | next => exact False.elim hq'
    | brk => exact False.elim hq'
    | cont => exact False.elim hq'
theorem pe_make (M : Mk X.K C f) (F : FnOk X.prog X.w X.K X.mg X.base CX k f fd ps sp) (hr : Room (k + 1) X.A) (hg : Gl X x) (hm : X.mg x = some (.ref C)) (hb : Binds X.K fd ps ds) (hd : Vals dvs ds) (hx : Passes CX X E)
    (ha : PA X (e :: es) t) (hdb : (x == ("__debug__" : Str)) = false := by decide) (he : starEach (e :: es) X.env = (false, eval e X.env) :: starEach es X.env := by rfl) (hpl : (backTo pos (starEach es X.env)).any (·.1) = false := by rfl) :
    PE X (.Call (.Name x p) (e :: es) [] pos) (tMake C sp dvs E t) := by
  intro pins s σ H Q I h
  refine wpAny_Call_Name_kw (ld_glob I hg hm ?_ hdb)
  refine PySem.W.callWith_K (h₀ := X.base) I.ok.mod.kin M.kp (thn (ha pos pins s σ H _ I h) fun us s1 ⟨vs, H1, I1, r, q⟩ => ⟨I1.kIn, ?_⟩) he hpl
  exact run_make M F hr hb hd hx I1 r q
end

/-! ### keywords -/
section
variable {X : Cx} {CX : CXT} {k : Nat} {f C : Addr} {fd : FuncData} {ps ks : List Str} {sp : Sp} {E : XK} {x m : Str} {p pos apos kpos : Pos} {e o : Expr} {es : List Expr} {kws : List Keyword} {te ta : TE} {t tk : TA} {nm : Option Str}

variable {g : List Value → List Value → List Value} {gV : List V → List V → List V}
end

/-! ### a def's body keeps its promise -/
/-- names: the parameters first -/
structure FnScope (N P : List Str) (sc : Scope) : Prop where
  kind : sc.kind = .function
  co : sc.isCoroutine = false
  gen : sc.isGenerator = false
  nd : N.Nodup
  pre : N.take P.length = P
  par : ∀ x ∈ P, sc.names.lookup x = some .local ∨ sc.names.lookup x = some .cell
  nofree : ∀ y ∈ sc.names, y.2 ≠ .free

theorem bindL_out {kindOf : Str → Option NameKind} {x : Str} : ∀ {binds : List (Str × Value)} {m : Str → Option Value}, (∀ v, (x, v) ∉ binds) → bindL kindOf binds m x = m x
  | [], _, _ => rfl
  | (n, v) :: r, m, h => by
    unfold bindL
    rw [bindL_out fun w hw => h w (List.mem_cons_of_mem _ hw)]
    split
    · have : x ≠ n := by rintro rfl; exact h v List.mem_cons_self
      simp [this]
    · rfl
theorem bindC_out {kindOf : Str → Option NameKind} {x : Str} : ∀ {binds : List (Str × Value)} {m : Str → Option Value}, (∀ v, (x, v) ∉ binds) → bindC kindOf binds m x = m x
  | [], _, _ => rfl
  | (n, v) :: r, m, h => by
    unfold bindC
    rw [bindC_out fun w hw => h w (List.mem_cons_of_mem _ hw)]
    split
    · rfl
    · have : x ≠ n := by rintro rfl; exact h v List.mem_cons_self
      simp [this]
theorem bindL_get {kindOf : Str → Option NameKind} {x : Str} {v : Value} : ∀ {P : List Str} {vs : List Value} {i : Nat} {m : Str → Option Value}, P.Nodup → P[i]? = some x → vs[i]? = some v → kindOf x = some .local →
    bindL kindOf (P.zip vs) m x = some v
  | [], _, _, _, _, h, _, _ => by simp at h
  | _ :: _, [], _, _, _, _, h, _ => by simp at h
  | p :: P, w :: vs, 0, m, nd, h1, h2, hk => by
    simp at h1 h2; subst h1; subst h2
    show bindL kindOf ((p, w) :: P.zip vs) m p = _
    unfold bindL
    rw [bindL_out fun v hv => (List.nodup_cons.mp nd).1 (List.of_mem_zip hv).1, if_pos hk]
    simp
  | p :: P, w :: vs, i + 1, m, nd, h1, h2, hk => by
    show bindL kindOf ((p, w) :: P.zip vs) m x = _
    unfold bindL
    exact bindL_get (i := i) (List.nodup_cons.mp nd).2 (by simpa using h1) (by simpa using h2) hk
theorem bindC_get {kindOf : Str → Option NameKind} {x : Str} {v : Value} : ∀ {P : List Str} {vs : List Value} {i : Nat} {m : Str → Option Value}, P.Nodup → P[i]? = some x → vs[i]? = some v → kindOf x ≠ some .local →
    bindC kindOf (P.zip vs) m x = some v
  | [], _, _, _, _, h, _, _ => by simp at h
  | _ :: _, [], _, _, _, _, h, _ => by simp at h
  | p :: P, w :: vs, 0, m, nd, h1, h2, hk => by
    simp at h1 h2; subst h1; subst h2
    show bindC kindOf ((p, w) :: P.zip vs) m p = _
    unfold bindC
    rw [bindC_out fun v hv => (List.nodup_cons.mp nd).1 (List.of_mem_zip hv).1, if_neg hk]
    simp
  | p :: P, w :: vs, i + 1, m, nd, h1, h2, hk => by
    show bindC kindOf ((p, w) :: P.zip vs) m x = _
    unfold bindC
    exact bindC_get (i := i) (List.nodup_cons.mp nd).2 (by simpa using h1) (by simpa using h2) hk

/-- the names' values at the entry -/
def start (N : List Str) (vs : List V) : St := vs.map some ++ List.replicate (N.length - vs.length) none

/-- the context of a def's body, at its entry; an exception leaves the frame, then lies as CX says -/
def cxOf (CX : CXT) (P : Program) (w : World) (K : PySem.W.Frag) (mg : Str → Option Value) (base : Heap) (N : List Str) (qual : Str) (scope : Scope) (f : Addr) (cd : Value) (A : Around) (outer : List Env) (s : Shared) (H : Hp) (E : XK) : Cx where
  prog := P
  w := w
  K := K
  mg := mg
  base := base
  A := A.deeper (envOfC qual scope s.heap.objs.size f cd)
  N := N
  s₀ := s
  H₀ := H
  env := envOfC qual scope s.heap.objs.size f cd
  outer := outer
  stack := envOfC qual scope s.heap.objs.size f cd :: outer
  ex := []
  calm := true
  fn := fun _ => true
  pn := []
  xe := fun e s' => wpAny (model P w) (A.deeper (envOfC qual scope s.heap.objs.size f cd)) (leaving (envOfC qual scope s.heap.objs.size f cd) e) (fun _ s'' => CX outer H s E e s'') (fun e' s'' => CX outer H s E e' s'') s'

theorem cell_has {sc : Scope} {n : Nat} {x : Str} (h : sc.names.lookup x = some .cell) : ∃ c, (cellsFrom n sc.names []).lookup x = some c := by
  have q := PySem.W.cellsFrom_some sc.names n [] (.inl h)
  exact Option.isSome_iff_exists.mp q

theorem inv_start {CX : CXT} {P : Program} {w : World} {K : PySem.W.Frag} {mg : Str → Option Value} {base : Heap} {N ps : List Str} {qual : Str} {scope : Scope} {f : Addr} {cd : Value} {A : Around} {outer : List Env} {s s1 : Shared} {H : Hp} {E : XK} {us : List Value} {vs : List V}
    (S : FnScope N ps scope) (hd : A.handled = none) (e0 : Env0 P w K mg base A outer s H) (hl : vs.length = ps.length) (r : Vals vs us) (htk : 0 < s1.toks)
    (x : InCallC s s.heap.objs.size (bindL (envOfC qual scope s.heap.objs.size f cd).kindOf (ps.zip us) fun _ => none) (cellsFrom (s.heap.objs.size + 1) scope.names []) (bindC (envOfC qual scope s.heap.objs.size f cd).kindOf (ps.zip us) fun _ => none) s1) :
    Inv (cxOf CX P w K mg base N qual scope f cd A outer s H E) [] (start N vs) H s1 := by
  have hpl : ps.length ≤ N.length := by have := congrArg List.length S.pre; rw [List.length_take] at this; omega
  obtain ⟨h1, tk, rfl, hk⟩ := x.done
  have noA : ∀ b : Addr, b ∉ (cxOf CX P w K mg base N qual scope f cd A outer s H E).ex := fun b z => absurd (show b ∈ ([] : List Addr) from z) (by simp)
  refine ⟨⟨e0.mod, S.kind, rfl, rfl, Nat.le_refl _, fun y z c h1 h2 => ?_, fun y hy => ?_, fun y c _ h => ?_, fun _ => hd, Around.frames_deeper e0.frames, .inr ⟨rfl, rfl⟩, fun b z => absurd z (noA b), e0.bs, e0.bsz, fun b _ _ => noA b, fun b z => absurd z (noA b), e0.funs, e0.frf⟩,
    rfl, e0.bare, Un.kept hk, ⟨_, x.toInCall.ns, fun i y v h1 h2 h3 => ?_⟩, fun y c h => ⟨_, x.cell y c h⟩, e0.hok.fresh (Nat.le_refl _), fun y c h => ?_, fun p hp => absurd (show p ∈ ([] : List (Addr × Obj)) from hp) (by simp), e0.hok.kept hk, ?_, htk⟩
  · exact name_of_addr x.apart (PySem.mem_of_lookup h1) (PySem.mem_of_lookup h2)
  · have hy : scope.names.lookup y = some .cell ∨ scope.names.lookup y = some .free := hy
    rcases hy with hy | hy
    · exact cell_has hy
    · exact absurd rfl (S.nofree _ (PySem.mem_of_lookup hy))
  · exact Nat.le_of_lt (x.above y c (PySem.mem_of_lookup h))
  · have hi : i < vs.length := by
      unfold start at h2
      by_cases hi : i < vs.length
      · exact hi
      · rw [List.getElem?_append_right (by simpa using hi)] at h2
        rw [List.getElem?_replicate] at h2
        split at h2 <;> cases h2
    have ha : vs[i]? = some v := by
      unfold start at h2
      rw [List.getElem?_append_left (by simpa using hi), List.getElem?_map] at h2
      cases e : vs[i]? with
      | none => rw [e] at h2; cases h2
      | some a => rw [e] at h2; cases h2; rfl
    obtain ⟨u, hu, rv⟩ := r.get ha
    have hp : ps[i]? = some y := by
      rw [← S.pre, List.getElem?_take_of_lt (by omega)]; exact h1
    have ndP : ps.Nodup := by rw [← S.pre]; exact S.nd.sublist (List.take_sublist _ _)
    refine ⟨u, rv, ?_⟩
    rcases S.par y (List.mem_of_getElem? hp) with k | k
    · exact .inl ⟨k, bindL_get ndP hp hu k⟩
    · obtain ⟨c, e⟩ := cell_has (n := s.heap.objs.size + 1) k
      refine .inr ⟨.inl k, c, e, ?_⟩
      have q := x.cell y c e
      rw [bindC_get ndP hp hu (by show scope.names.lookup y ≠ _; rw [k]; decide)] at q
      exact q
  · exact e0.hok.fresh (Nat.le_of_lt (x.above y c (PySem.mem_of_lookup h)))
  · unfold start
    show _ = N.length
    rw [List.length_append, List.length_map, List.length_replicate]
    omega

/-- THE RULE: a def (or a method) of the text, by its body. The body's reading t is chosen for each entry; it is run at the parameters' values -/
theorem fn_of {CX : CXT} {P : Program} {w : World} {K : PySem.W.Frag} {mg : Str → Option Value} {base : Heap} {k : Nat} {f : Addr} {name qual : Str} {params : Arguments} {body : List Stmt} {scope : Scope} {dV kV doc pm cdv ct oc : Value} {an od : Option Addr}
    {osl : Array (Option Value)} {N ps : List Str} {sp : Sp} (lk : K.lookup f = some ⟨oc, od, .func (PySem.W.fnOf name qual params body scope dV kV doc pm an cdv ct), osl⟩) (hcd : PySem.W.codeIn K cdv qual = true) (S : FnScope N ps scope)
    (len : ∀ vs H Q E, sp vs H Q E → vs.length = ps.length)
    (hbody : ∀ (A : Around) (outer : List Env) (s : Shared) (H : Hp) (vs : List V) (Q : VK) (E : XK), Room k (A.deeper (envOfC qual scope s.heap.objs.size f cdv)) → sp vs H Q E →
      ∃ t, PSs (cxOf CX P w K mg base N qual scope f cdv A outer s H E) body t ∧ t { nx := fun _ H' => Q .non H', rt := Q } (start N vs) H) :
    FnOk P w K mg base CX (k + 1) f (PySem.W.fnOf name qual params body scope dV kV doc pm an cdv ct) ps sp := by
  refine ⟨len, fun A outer s H args us vs Q E hr e0 hb r hsp => ?_⟩
  have hl := len _ _ _ _ hsp
  have KX : K.In s.heap := e0.mod.kin.keeps fun b o e => (e0.bs b o e).1
  have lim : s.heap.NoLimit := e0.mod.nolimit.keeps fun b o e => (e0.bs b o e).1
  have hkind : ∀ y ∈ ps.zip us, scope.names.lookup y.1 = some .local ∨ (scope.names.lookup y.1 = some .cell ∧ ((cellsFrom (s.heap.objs.size + 1) scope.names []).lookup y.1).isSome = true) := fun ⟨n, v⟩ hy => by
    rcases S.par n (List.of_mem_zip hy).1 with q | q
    · exact .inl q
    · exact .inr ⟨q, PySem.W.cellsFrom_some _ _ _ (.inl q)⟩
  refine codeAny_call_function hr.depth (KX _ _ lk) rfl S.co S.gen rfl (PySem.W.codeRec_of KX hcd) (hb _ _ _ _ ?_)
  refine wpAny_with_toks (n := 1) e0.tk (wpAny_newFunctionEnv_cells S.kind hkind fun env he s1 x htk => ?_)
  subst he
  refine ⟨lim.keeps x.toInCall.keep, codeAny_func ?_⟩
  obtain ⟨t, ht, hq⟩ := hbody A outer s H vs Q E (hr.deeper _) hsp
  have I : Inv (cxOf CX P w K mg base N qual scope f cdv A outer s H E) [] (start N vs) H s1 := inv_start S hr.hd e0 hl r htk x
  refine wpAny_mono (ht [] s1 (start N vs) H _ I hq) (fun fl s' hs => ?_) fun e s' hs => hs
  have fin : ∀ {σ' : St} {H' : Hp} {v : V} {u : Value}, Inv (cxOf CX P w K mg base N qual scope f cdv A outer s H E) [] σ' H' s' → RelV v u → Q v H' → CE outer P w H s Q u s' :=
    fun {σ' H' v u} J rv q => ⟨v, H', J.os, J.bare, J.base, J.hok, J.tk, rv, q⟩
  cases fl with
  | ret u =>
    obtain ⟨v, σ', H', J, rv, q⟩ := hs
    exact fin J rv q
  | next =>
    obtain ⟨σ', H', J, q⟩ := hs
    exact fin (v := V.non) (u := Value.none) J rfl q
  | brk =>
    obtain ⟨_, _, _, q⟩ := hs
    exact False.elim q
  | cont =>
    obtain ⟨_, _, _, q⟩ := hs
    exact False.elim q
end L2

namespace L2
open PySem PySem.Spec PyProof.Rows
section
variable {X : Cx} {x : Str} {p pos : Pos} {e : Expr} {es : List Expr} {t : TA} {id T : String} {r : List V → Hp → VK → Prop}

def tCB (r : List V → Hp → VK → Prop) (t : TA) : TE := fun σ H Q => t σ H fun vs H1 => r vs H1 Q
/-- f(e, ..), f a built-in function -/
theorem pe_callB (hc : CallR X (.builtin id) r) (hg : Gl X x) (hm : X.mg x = none) (hv : bootBuiltins x = some (.builtin id)) (ha : PA X (e :: es) t) (hn : x ≠ "__name__" := by decide) (hdb : (x == ("__debug__" : Str)) = false := by decide)
    (he : starEach (e :: es) X.env = (false, eval e X.env) :: starEach es X.env := by rfl) (hpl : (backTo pos (starEach es X.env)).any (·.1) = false := by rfl) : PE X (.Call (.Name x p) (e :: es) [] pos) (tCB r t) := by
  intro pins s σ H Q I h
  refine wpAny_Call_Name_kw (ld_blt I hg hm hv ?_ hn hdb)
  exact PyProof.Rows.callWith_builtin1 (thn (ha pos pins s σ H _ I h) fun us s1 ⟨vs, H1, I1, r1, q1⟩ => hc pins s1 σ H1 vs us Q I1 r1 q1) he hpl
/-- T(e, ..), T a built-in type -/
theorem pe_callTy (hc : CallR X (.type T) r) (hg : Gl X x) (hm : X.mg x = none) (hv : bootBuiltins x = some (.type T)) (ha : PA X (e :: es) t) (hn : x ≠ "__name__" := by decide) (hdb : (x == ("__debug__" : Str)) = false := by decide)
    (he : starEach (e :: es) X.env = (false, eval e X.env) :: starEach es X.env := by rfl) (hpl : (backTo pos (starEach es X.env)).any (·.1) = false := by rfl) : PE X (.Call (.Name x p) (e :: es) [] pos) (tCB r t) := by
  intro pins s σ H Q I h
  refine wpAny_Call_Name_kw (ld_blt I hg hm hv ?_ hn hdb)
  exact PyProof.Rows.callWith_type1 (thn (ha pos pins s σ H _ I h) fun us s1 ⟨vs, H1, I1, r1, q1⟩ => hc pins s1 σ H1 vs us Q I1 r1 q1) he hpl
end
end L2

namespace HT
open PySem PyProof.Rows



section
open PySem.SeqAt
open PySem.AutoSeq1 (wpAny_loadPart')
open PySem.MeetsSeq PySem.MeetsSeq2 PySem.MeetsSeq3

end

section
variable {prog : Program} {w : World} {A : Around} {E : Value → Shared → Prop} {s : Shared}



/-! ### t[a:b], not the whole -/
/-- a slice's bound as a place among n (d where it is left out) -/
def sIx (n d : Nat) : Option Int → Nat
  | none => d
  | some v => if v < 0 then (v + (n : Int)).toNat else min v.toNat n
theorem sIx_none (n d : Nat) : sIx n d none = d := rfl
theorem sIx_nat (n d k : Nat) : sIx n d (some (k : Int)) = min k n := by
  show (if (k : Int) < 0 then ((k : Int) + (n : Int)).toNat else min (k : Int).toNat n) = min k n
  rw [if_neg (by omega), Int.toNat_natCast]

end
end HT

namespace L2
open PySem PySem.Spec PyProof.Rows

/-! ### the parts of a slice -/
abbrev TO := St → Hp → (Option Int → Hp → Prop) → Prop
/-- a slice's part (left out, or an int) -/
def PO (X : Cx) (e : Option Expr) (t : TO) : Prop :=
  ∀ (pins : List (Addr × Obj)) (s : Shared) (σ : St) (H : Hp) (Q : Option Int → Hp → Prop), Inv X pins σ H s → t σ H Q →
    wpAny (model X.prog X.w) X.A (evalPart e X.env) (fun u s' => ∃ o H', Inv X pins σ H' s' ∧ IsPart u o ∧ Q o H') X.xe s
def tNoPart : TO := fun _ H Q => Q none H
def tPart (t : TE) : TO := fun σ H Q => t σ H fun x H1 => ∃ i, x = .int i ∧ Q (some i) H1


section
variable {X : Cx} {e : Expr} {te : TE} {lo hi : Option Expr} {tl th : TO} {pos p2 : Pos}

theorem po_none : PO X none tNoPart := by
  intro pins s σ H Q I h
  rw [evalPart_none]
  exact wpAny_pure ⟨none, H, I, .none, h⟩
theorem po_some (h : PE X e te) : PO X (some e) (tPart te) := by
  intro pins s σ H Q I hw
  rw [evalPart_some]
  refine thn (h pins s σ H _ I hw) fun u s1 ⟨x, H1, I1, r1, q1⟩ => ?_
  obtain ⟨i, rfl, q⟩ := q1
  obtain ⟨t, rfl⟩ := r1
  exact ⟨some i, H1, I1, .int i t, q⟩

/-- what a slice of a value is, by values: the slice object stands at sl -/
def SlR (X : Cx) (r : V → Option Int → Option Int → Hp → VK → Prop) : Prop :=
  ∀ (pins : List (Addr × Obj)) (s : Shared) (σ : St) (H : Hp) (x : V) (v vl vu : Value) (lo hi : Option Int) (sl : Addr) (Q : VK), Inv X pins σ H s → RelV x v → s.heap.IsSliceOf sl vl vu .none → IsPart vl lo → IsPart vu hi → r x lo hi H Q →
    ∃ T id, typeLookup (.type T) "__getitem__" = pure (some (.builtin id)) ∧ s.TypeIs v T ∧ wpAny (model X.prog X.w) X.A (getItem v (.ref sl)) (EP X pins σ Q) X.xe s
def tSl (r : V → Option Int → Option Int → Hp → VK → Prop) (te : TE) (tl th : TO) : TE := fun σ H Q => te σ H fun x H1 => tl σ H1 fun l H2 => th σ H2 fun u H3 => r x l u H3 Q
/-- a[lo:hi], any a -/
theorem pe_slice {r : V → Option Int → Option Int → Hp → VK → Prop} (hr : SlR X r) (he : PE X e te) (hl : PO X lo tl) (hu : PO X hi th) : PE X (.Subscript e (.Slice lo hi none p2) pos) (tSl r te tl th) := by
  intro pins s σ H Q I h
  refine Subscript_ (thn (he pins s σ H _ I h) fun v s1 ⟨x, H1, I1, r1, q1⟩ => ?_)
  refine wpAny_Slice (thn (hl pins s1 σ H1 _ I1 q1) fun vl s2 ⟨l, H2, I2, pl, q2⟩ => thn (hu pins s2 σ H2 _ I2 q2) fun vu s3 ⟨u, H3, I3, pu, q3⟩ => ?_)
  rw [evalPart_none]
  refine wpAny_pure ?_
  have I4 : Inv X pins σ H3 { s3 with heap := s3.heap.push { cls := .type "slice", data := .fields #[vl, vu, .none] } } := I3.kept (t' := s3.toks) fun b ob q => Heap.get?_push_of_some _ q
  obtain ⟨T, id, hT, ht, hg⟩ := hr pins { s3 with heap := s3.heap.push { cls := .type "slice", data := .fields #[vl, vu, .none] } } σ H3 x v vl vu l u s3.heap.objs.size Q I4 r1 (Heap.IsSliceOf.new ..) pl pu q3
  show wpAny (model X.prog X.w) X.A (subscriptTail e (.Slice lo hi none p2) v (.ref s3.heap.objs.size)) (EP X pins σ Q) X.xe { s3 with heap := s3.heap.push { cls := .type "slice", data := .fields #[vl, vu, .none] } }
  exact tail_any (ops := [.ref s3.heap.objs.size, v]) ht hT hg (by with_unfolding_all rfl)

/-- the items of xs[lo:hi] -/
def cutV (xs : List V) (lo hi : Option Int) : List V := (xs.drop (HT.sIx xs.length 0 lo)).take (HT.sIx xs.length xs.length hi - HT.sIx xs.length 0 lo)
theorem cutV_length (xs : List V) (lo hi : Option Int) : (cutV xs lo hi).length ≤ xs.length := by
  unfold cutV
  rw [List.length_take, List.length_drop]
  omega

/-! ### t < u, t + u -/
end
end L2

namespace L2
open PySem PySem.Spec PyProof.Rows

/-! ### places -/
/-- the place that an index of any sign means -/
def ixN (n : Nat) (i : Int) : Option Nat := if 0 ≤ i then (if i < n then some i.toNat else none) else if -(n : Int) ≤ i then some (i + n).toNat else none
def atI {α : Type} (xs : List α) (i : Int) : Option α := (ixN xs.length i).bind fun j => xs[j]?
theorem ixN_seq {n : Nat} {i : Int} {j : Nat} (h : ixN n i = some j) : seqIndex? i n = some j ∧ j < n ∧ -(n : Int) ≤ i ∧ i < n := by
  unfold ixN at h
  by_cases h0 : 0 ≤ i
  · rw [if_pos h0] at h
    by_cases h1 : i < n
    · rw [if_pos h1] at h
      have e : i.toNat = j := Option.some.inj h
      exact ⟨by rw [seqIndex_of h0 h1, e], by omega, by omega, h1⟩
    · rw [if_neg h1] at h; cases h
  · rw [if_neg h0] at h
    by_cases h1 : -(n : Int) ≤ i
    · rw [if_pos h1] at h
      have e : (i + n).toNat = j := Option.some.inj h
      exact ⟨by rw [seqIndex_neg (by omega) h1, e], by omega, h1, by omega⟩
    · rw [if_neg h1] at h; cases h
theorem atI_get {α : Type} {xs : List α} {i : Int} {v : α} (h : atI xs i = some v) : ∃ j, seqIndex? i xs.length = some j ∧ xs[j]? = some v ∧ j < xs.length ∧ -(xs.length : Int) ≤ i ∧ i < xs.length := by
  unfold atI at h
  cases e : ixN xs.length i with
  | none => rw [e] at h; cases h
  | some j =>
    rw [e] at h
    obtain ⟨h1, h2, h3, h4⟩ := ixN_seq e
    exact ⟨j, h1, h, h2, h3, h4⟩
theorem atI_nat {α : Type} {xs : List α} {j : Nat} {v : α} (h : xs[j]? = some v) : atI xs (j : Int) = some v := by
  have hj : j < xs.length := (List.getElem?_eq_some_iff.mp h).1
  have e : ixN xs.length (j : Int) = some j := by
    unfold ixN
    rw [if_pos (by omega), if_pos (by omega)]; simp
  unfold atI; rw [e]; exact h
theorem atI_last {α : Type} (xs : List α) (v : α) : atI (xs ++ [v]) (-1) = some v := by
  have hl : (xs ++ [v]).length = xs.length + 1 := by simp
  have e : ixN (xs ++ [v]).length (-1) = some xs.length := by
    unfold ixN
    rw [hl, if_neg (by decide), if_pos (by omega)]
    congr 1
    omega
  unfold atI
  rw [e]
  show (xs ++ [v])[xs.length]? = some v
  simp

/-! ### what may be subscripted -/
/-- what stands as an index of a plain subscript -/
def PlainIx (b : Expr) : Prop := ∀ o i, subscripted b false o i = operate [o, i] (getItem o i)
/-- a subscript by values -/
def IxR (X : Cx) (r : R2) : Prop :=
  ∀ (value slice : Expr) (pins : List (Addr × Obj)) (s : Shared) (σ : St) (H : Hp) (x y : V) (v u : Value) (Q : VK), Inv X pins σ H s → RelV x v → RelV y u → r x y H Q →
    subscripted slice false v u = operate [v, u] (getItem v u) → wpAny (model X.prog X.w) X.A (subscriptTail value slice v u) (EP X pins σ Q) X.xe s
/-- a call of a builtin's method by values: the receiver, the arguments -/
def MtR (X : Cx) (id : String) (r : V → List V → Hp → VK → Prop) : Prop :=
  ∀ (pins : List (Addr × Obj)) (s : Shared) (σ : St) (H : Hp) (x : V) (xs : List V) (v : Value) (us : List Value) (Q : VK), Inv X pins σ H s → RelV x v → Vals xs us → r x xs H Q →
    wpAny (model X.prog X.w) X.A (call (.builtin id) (v :: us)) (EP X pins σ Q) X.xe s
section
variable {X : Cx} {a b : Expr} {ta tb : TE} {pos : Pos}
/-- a[b] -/
theorem pe_ix {r : R2} (hr : IxR X r) (ha : PE X a ta) (hb : PE X b tb) (hs : PlainIx b) : PE X (.Subscript a b pos) (tOp r ta tb) := by
  intro pins s σ H Q I h
  exact Subscript_ (binT ha hb I h fun v u s2 x y H2 I2 rx ry q => hr a b pins s2 σ H2 x y v u Q I2 rx ry q (hs _ _))

def rIxL (K : PySem.W.Frag) : R2 := fun x y H Q => ∃ p xs i v, x = .ref p ∧ y = .int i ∧ SqL K H p xs ∧ atI xs i = some v ∧ Q v H
def rIxT (K : PySem.W.Frag) : R2 := fun x y H Q => ∃ p xs i v, x = .ref p ∧ y = .int i ∧ SqT K H p xs ∧ atI xs i = some v ∧ Q v H
def rIxS : R2 := fun x y H Q => ∃ z i c, x = .str z ∧ y = .int i ∧ z.length ≤ sizeLine ∧ atI z.cps.toList i = some c ∧ Q (.str ⟨#[c]⟩) H
theorem ix_list : IxR X (rIxL X.K) := by
  intro value slice pins s σ H x y v u Q I rx ry h hs
  obtain ⟨p, xs, i, z, rfl, rfl, hq, he, q⟩ := h
  cases rx
  obtain ⟨t, rfl⟩ := ry
  obtain ⟨its, r, pl, hz⟩ := I.list hq
  obtain ⟨j, h1, h2, h3, h4, h5⟩ := atI_get he
  obtain ⟨w, ew, rw'⟩ := r.get h2
  have hl := r.length
  have hn := line63
  have fin : EP X pins σ Q w s := ⟨z, H, I, rw', q⟩
  by_cases h0 : 0 ≤ i
  · have hj : i.toNat = j := by
      rw [seqIndex_of h0 h5] at h1
      exact Option.some.inj h1
    exact item_listR pl.isList h0 (by omega) (by rw [hj]; simpa using ew) fin hs
  · have hj : (i + (its.toArray.size : Int)).toNat = j := by
      rw [seqIndex_neg (by omega) h4] at h1
      rw [List.size_toArray, ← hl]
      exact Option.some.inj h1
    exact subscriptTail_builtinR (x := w) pl.isList.typeIs slot_list_getitem.lookup
      (wpAny_getItem_list_neg (Q := fun r s' => r = w ∧ EP X pins σ Q r s') pl.isList (by omega) (by rw [List.size_toArray] <;> omega) (by omega) (by rw [hj]; simpa using ew) ⟨rfl, fin⟩) hs
theorem ix_tup : IxR X (rIxT X.K) := by
  intro value slice pins s σ H x y v u Q I rx ry h hs
  obtain ⟨p, xs, i, z, rfl, rfl, hq, he, q⟩ := h
  cases rx
  obtain ⟨t, rfl⟩ := ry
  obtain ⟨its, r, pl, hz⟩ := I.tuple hq
  obtain ⟨j, h1, h2, h3, h4, h5⟩ := atI_get he
  obtain ⟨w, ew, rw'⟩ := r.get h2
  have hl := r.length
  have hn := line63
  have fin : EP X pins σ Q w s := ⟨z, H, I, rw', q⟩
  exact subscriptTail_builtinR (x := w) pl.typeIs slot_tuple_getitem.lookup
    (getItem_tuple (j := j) (Q := fun r s' => r = w ∧ EP X pins σ Q r s') pl (by omega) (by omega) (by rw [List.size_toArray, ← hl]; exact h1) (by simpa using ew) ⟨rfl, fin⟩) hs
theorem ix_str : IxR X rIxS := by
  intro value slice pins s σ H x y v u Q I rx ry h hs
  obtain ⟨z, i, c, rfl, rfl, hz, he, q⟩ := h
  obtain ⟨t, rfl⟩ := rx
  obtain ⟨t', rfl⟩ := ry
  obtain ⟨j, h1, h2, h3, h4, h5⟩ := atI_get he
  have hl : z.cps.toList.length = z.length := by simp [Str.length]
  rw [hl] at h1 h4 h5
  have hn := line63
  exact tail_any (typeIs_str s z t) slot_str_getitem.lookup (getItem_str (c := c) (by
    have e1 : decide (i < -(2 ^ 63 : Int)) = false := decide_eq_false (by omega)
    have e2 : decide (i ≥ 2 ^ 63) = false := decide_eq_false (by omega)
    rw [e1, e2, Bool.or_false]) (by rw [h1]; simpa using h2) ⟨.str ⟨#[c]⟩, H, I.tok _, ⟨_, rfl⟩, q⟩) hs

/-! ### xs[i] = v, any sign -/
/-- the list's object behind a store -/
theorem mapSeq_set (its : List Value) (n j : Nat) (u : Value) : Obj.mapSeq (·.setIfInBounds j u) { cls := .type "list", data := .seq its.toArray n } = { cls := .type "list", data := .seq (its.set j u).toArray n } := by
  simp [Obj.mapSeq]
theorem Inv.lst {pins : List (Addr × Obj)} {σ : St} {H : Hp} {s : Shared} {p : Addr} {xs : List V} (I : Inv X pins σ H s) (h : H p = some (.lst xs)) :
    ∃ (its : List Value) (n : Nat), Vals xs its ∧ s.heap.get? p = some { cls := .type "list", data := .seq its.toArray n } ∧ xs.length ≤ sizeLine := by
  obtain ⟨z, its, n, r, e⟩ := I.hok p _ h
  exact ⟨its, n, r, e, z⟩
/-- the list at p is written by an update of its object -/
theorem Inv.lstUpd {pins : List (Addr × Obj)} {σ : St} {H : Hp} {s : Shared} {p : Addr} {xs ys : List V} {its its' : List Value} {n n' : Nat} {f : Obj → Obj} (I : Inv X pins σ H s) (h : H p = some (.lst xs))
    (ho : s.heap.get? p = some { cls := .type "list", data := .seq its.toArray n }) (hf : f { cls := .type "list", data := .seq its.toArray n } = { cls := .type "list", data := .seq its'.toArray n' }) (r : Vals ys its') (hz : ys.length ≤ sizeLine) (t : Nat) (ht : 0 < t := by first | assumption | exact Nat.succ_pos _ | (apply Inv.tk; assumption)) :
    Inv X pins σ (upd H p (.lst ys)) { s with heap := s.heap.update p f, toks := t } := by
  have e : (s.heap.update p f).get? p = some { cls := .type "list", data := .seq its'.toArray n' } := by
    rw [Heap.get?_update_self f ho (by rw [hf] <;> rfl), hf]
  refine I.write (x := p) (e := p) (by rw [h]; trivial) (.inl rfl) (fun b u hb q => (Heap.get?_update_other _ _ (Ne.symm hb)).trans q) ⟨_, e⟩ ?_
  exact ⟨hz, its', n', r, e⟩
def rSetL : V → V → V → Hp → (Hp → Prop) → Prop := fun o i v H Q => ∃ p xs k j, o = .ref p ∧ i = .int k ∧ H p = some (.lst xs) ∧ ixN xs.length k = some j ∧ Q (upd H p (.lst (xs.set j v)))
theorem set_list : PSet X rSetL := by
  intro pins s σ H o i v ov iv u Q I ro ri rv h
  obtain ⟨p, xs, k, j, rfl, rfl, hp, hj, q⟩ := h
  cases ro
  obtain ⟨t, rfl⟩ := ri
  obtain ⟨its, n, r, ho, hz⟩ := I.lst hp
  obtain ⟨h1, h2, h3, h4⟩ := ixN_seq hj
  have hl := r.length
  have hn := line63
  have I' : Inv X pins σ (upd H p (.lst (xs.set j v))) { s with heap := s.heap.update p (Obj.mapSeq (·.setIfInBounds j u)) } :=
    I.lstUpd hp ho (mapSeq_set its n j u) (r.set rv j) (by rw [List.length_set]; exact hz) s.toks
  by_cases h0 : 0 ≤ k
  · have hk : k.toNat = j := by
      rw [seqIndex_of h0 h4] at h1
      exact Option.some.inj h1
    exact PySem.W.ki_setAt ho h0 (by omega) (by rw [List.size_toArray, ← hl]; exact h4) (by rw [hk]; exact ⟨_, I', q⟩)
  · have hk : (k + (its.toArray.size : Int)).toNat = j := by
      rw [seqIndex_neg (by omega) h3] at h1
      rw [List.size_toArray, ← hl]
      exact Option.some.inj h1
    exact PySem.W.ki_setBack ho (by omega) (by rw [List.size_toArray, ← hl]; exact h3) (by omega) (by rw [hk]; exact ⟨_, I', q⟩)

/-! ### slices -/
theorem slice_bounds (lo hi : Option Int) (n : Nat) : (sliceBounds lo hi none n).1 = ((HT.sIx n 0 lo : Nat) : Int) ∧ (sliceBounds lo hi none n).2.1 = ((HT.sIx n n hi : Nat) : Int) ∧ (sliceBounds lo hi none n).2.2 = 1 := by
  refine ⟨?_, ?_, rfl⟩
  · cases lo with
    | none => simp [sliceBounds, HT.sIx]
    | some i =>
      simp only [sliceBounds, HT.sIx, Option.getD_none, show (1 : Int) > 0 by decide, if_true]
      by_cases h : i < 0
      · simp only [h, if_true] <;> omega
      · simp only [h, if_false] <;> omega
  · cases hi with
    | none => simp [sliceBounds, HT.sIx]
    | some i =>
      simp only [sliceBounds, HT.sIx, Option.getD_none, show (1 : Int) > 0 by decide, if_true]
      by_cases h : i < 0
      · simp only [h, if_true] <;> omega
      · simp only [h, if_false] <;> omega
theorem slicePick_cut (its : List Value) (lo hi : Option Int) : slicePick its.toArray lo hi none = ((its.drop (HT.sIx its.length 0 lo)).take (HT.sIx its.length its.length hi - HT.sIx its.length 0 lo)).toArray := by
  obtain ⟨h1, h2, h3⟩ := slice_bounds lo hi its.toArray.size
  unfold slicePick
  rw [h1, h2, h3]
  simp only [sliceRange_one, pick_run, List.size_toArray] <;> rfl
/-- xs[lo:hi] of a list: a new list -/
def rSlL (K : PySem.W.Frag) : V → Option Int → Option Int → Hp → VK → Prop := fun x lo hi H Q => ∃ a xs, x = .ref a ∧ SqL K H a xs ∧ ∀ p, H p = none → Q (.ref p) (upd H p (.lst (cutV xs lo hi)))
theorem sl_list : SlR X (rSlL X.K) := by
  intro pins s σ H x v vl vu lo hi sl Q I rx hs pl pu h
  obtain ⟨a, xs, rfl, hx, q⟩ := h
  cases rx
  obtain ⟨its, r, ht, hz⟩ := I.list hx
  have hlen := r.length
  refine ⟨"list", _, slot_list_getitem.lookup, ht.isList.typeIs, ?_⟩
  refine wpAny_getItem_list_slice ht.isList hs pl pu .none (by simp) ?_ (by rw [List.size_toArray] <;> omega)
  rw [slicePick_cut, ← hlen]
  refine ⟨.ref s.heap.objs.size, _, I.laid (t' := s.toks) (o := .lst (cutV xs lo hi)) (fun b ob q => Heap.get?_push_of_some _ q) (Nat.le_refl _) ?_, rfl, q _ (I.hok.fresh (Nat.le_refl _))⟩
  exact ⟨Nat.le_trans (cutV_length xs lo hi) hz, _, 0, (r.drop (HT.sIx xs.length 0 lo)).take (HT.sIx xs.length xs.length hi - HT.sIx xs.length 0 lo), Heap.get?_push_size _ rfl⟩

/-! ### in, not in: flat items -/

/-! ### len, list(x), tuple(x) of any list or tuple that is read -/
theorem call_len_seq : CallR X (.builtin "len") (fun xs H Q => ∃ p ys, xs = [.ref p] ∧ (SqL X.K H p ys ∨ SqT X.K H p ys) ∧ Q (.int ys.length) H) := by
  intro pins s σ H xs us Q I r h
  obtain ⟨p, ys, rfl, hq, q⟩ := h
  obtain ⟨u, rfl, rx⟩ := vals1 r
  cases rx
  have hn := line63
  rcases hq with hq | hq
  · obtain ⟨its, r', pl, hz⟩ := I.list hq
    have hlen := r'.length
    exact Calls.call_len_list pl.isList (by simp only [List.size_toArray] <;> omega) ⟨.int ys.length, H, I.tok _, ⟨s.toks + 1, by rw [List.size_toArray, hlen]⟩, q⟩
  · obtain ⟨its, r', pl, hz⟩ := I.tuple hq
    have hlen := r'.length
    exact len_tuple pl (by simp only [List.size_toArray] <;> omega) ⟨.int ys.length, H, I.tok _, ⟨s.toks + 1, by rw [List.size_toArray, hlen]⟩, q⟩
theorem call_len_str : CallR X (.builtin "len") (fun xs H Q => ∃ z, xs = [.str z] ∧ z.length ≤ sizeLine ∧ Q (.int z.length) H) := by
  intro pins s σ H xs us Q I r h
  obtain ⟨z, rfl, hz, q⟩ := h
  obtain ⟨u, rfl, t, rfl⟩ := vals1 r
  have hn := line63
  exact len_str (by omega) ⟨.int z.length, H, I.tok _, ⟨_, rfl⟩, q⟩
theorem call_list_of : CallR X (.type "list") (fun xs H Q => ∃ p ys, xs = [.ref p] ∧ (SqL X.K H p ys ∨ SqT X.K H p ys) ∧ ∀ l, H l = none → Q (.ref l) (upd H l (.lst ys))) := by
  intro pins s σ H xs us Q I r h
  obtain ⟨p, ys, rfl, hq, q⟩ := h
  obtain ⟨u, rfl, rx⟩ := vals1 r
  cases rx
  have fin : ∀ (its : List Value), Vals ys its → ys.length ≤ sizeLine → ∀ (h' : Heap) (c' : Nat), (∀ b o', s.heap.get? b = some o' → h'.get? b = some o') →
      h'.get? s.heap.objs.size = some { cls := .type "list", dict := none, data := .seq its.toArray c', slots := #[] } → EP X pins σ Q (.ref s.heap.objs.size) { s with heap := h' } := fun its r' hz h' c' kp e =>
    ⟨.ref s.heap.objs.size, _, I.laid (t' := s.toks) kp (Nat.le_refl _) (show ObjOk X.prog X.w _ h' _ (.lst ys) from ⟨hz, its, c', r', e⟩), rfl, q _ (I.hok.fresh (Nat.le_refl _))⟩
  rcases hq with hq | hq
  · obtain ⟨its, r', pl, hz⟩ := I.list hq
    have hlen := r'.length
    obtain ⟨o, ho, hc, n, hd⟩ := pl.isList
    exact call_list_seq p (.inl rfl) ho hc hd (fun h' c' kp e => fin its r' hz h' c' kp e) (by simp only [List.size_toArray] <;> omega)
  · obtain ⟨its, r', pl, hz⟩ := I.tuple hq
    have hlen := r'.length
    obtain ⟨o, ho, hc, n, hd⟩ := pl
    exact call_list_seq p (.inr rfl) ho hc hd (fun h' c' kp e => fin its r' hz h' c' kp e) (by simp only [List.size_toArray] <;> omega)

/-! ### the call of a builtin's method: o.m(..) -/
/-- the value is of that builtin type -/
def tyV (K : PySem.W.Frag) (T : String) (x : V) (H : Hp) : Prop := match x with
  | .str _ => T = "str"
  | .int _ => T = "int"
  | .ref p => (T = "list" ∧ ∃ xs, SqL K H p xs) ∨ (T = "tuple" ∧ ∃ o, K.lookup p = some o ∧ o.cls = .type "tuple" ∧ o.dict = none) ∨
      (T = "dict" ∧ ((∃ kvs, H p = some (.dK kvs)) ∨ ∃ kvs, H p = some (.dT kvs))) ∨ (T = "set" ∧ ∃ S n, H p = some (.set S n))
  | _ => False
theorem tyV_is {pins : List (Addr × Obj)} {σ : St} {H : Hp} {s : Shared} {T : String} {x : V} {v : Value} (I : Inv X pins σ H s) (r : RelV x v) (ty : tyV X.K T x H) :
    s.TypeIs v T ∧ ∀ a, v = .ref a → ∃ ob, s.heap.get? a = some ob ∧ ob.dict = none := by
  cases x with
  | str z =>
    obtain ⟨t, rfl⟩ := r
    cases (show T = "str" from ty)
    exact ⟨typeIs_str s z t, fun _ e => nomatch e⟩
  | int i =>
    obtain ⟨t, rfl⟩ := r
    cases (show T = "int" from ty)
    exact ⟨typeIs_int s i t, fun _ e => nomatch e⟩
  | ref p =>
    cases r
    rcases ty with ⟨rfl, xs, hq⟩ | ⟨rfl, o, hk, hc, hd⟩ | ⟨rfl, hk⟩ | ⟨rfl, S, n, hk⟩
    · obtain ⟨its, _, pl, _⟩ := I.list hq
      refine ⟨pl.isList.typeIs, fun a e => ?_⟩
      cases e
      obtain ⟨o, n, e, c, hd, _⟩ := pl
      exact ⟨o, e, hd⟩
    · refine ⟨⟨o, I.kIn p o hk, hc⟩, fun a e => ?_⟩
      cases e
      exact ⟨o, I.kIn _ o hk, hd⟩
    · have z : ∃ o, s.heap.get? p = some o ∧ o.ExactDict := by
        rcases hk with ⟨kvs, hk⟩ | ⟨kvs, hk⟩
        · obtain ⟨_, _, _, _, o, _, _, e, ex, _⟩ := I.hok p _ hk
          exact ⟨o, e, ex⟩
        · obtain ⟨_, _, _, _, o, _, _, e, ex, _⟩ := I.hok p _ hk
          exact ⟨o, e, ex⟩
      obtain ⟨o, e, ex⟩ := z
      refine ⟨⟨o, e, ex.1⟩, fun a e2 => ?_⟩
      cases e2
      exact ⟨o, e, ex.2.1⟩
    · obtain ⟨o, _, _, _, e, ex, _⟩ := I.hok p _ hk
      refine ⟨⟨o, e, ex.1⟩, fun a e2 => ?_⟩
      cases e2
      exact ⟨o, e, ex.2.1⟩
  | _ => exact False.elim ty
def tBM0 (K : PySem.W.Frag) (T : String) (r : V → List V → Hp → VK → Prop) (to : TE) : TE := fun σ H Q => to σ H fun x H1 => tyV K T x H1 ∧ r x [] H1 Q
def tBM (K : PySem.W.Frag) (T : String) (r : V → List V → Hp → VK → Prop) (to : TE) (t : TA) : TE := fun σ H Q => to σ H fun x H1 => tyV K T x H1 ∧ t σ H1 fun xs H2 => r x xs H2 Q
variable {o e : Expr} {es : List Expr} {to : TE} {t : TA} {name : Str} {apos cpos : Pos} {T id : String} {r : V → List V → Hp → VK → Prop}
theorem pe_bm0 (pa : PlainAttrs T) (slot : Slot T name id) (hty : typeOf (.builtin id) = pure (.type "method_descriptor")) (hm : MtR X id r) (ho : PE X o to)
    (hbase : attributeBase o name X.env (eval o X.env) = eval o X.env := by rfl) (hline : (apos.endLine == cpos.line) = true := by rfl) : PE X (.Call (.Attribute o name apos) [] [] cpos) (tBM0 X.K T r to) := by
  intro pins s σ H Q I h
  refine wpAny_Call_method0_late hbase hline (thn (ho pins s σ H _ I h) fun v s1 ⟨x, H1, I1, r1, ty, q1⟩ => ?_)
  obtain ⟨h1, h2⟩ := tyV_is I1 r1 ty
  exact ⟨T, id, pa, slot, hty, h1, h2, Calls.callWith_builtin rfl (PySem.evalArgs_none (hm pins s1 σ H1 x [] v [] Q I1 r1 .nil q1))⟩
theorem pe_bm (pa : PlainAttrs T) (slot : Slot T name id) (hty : typeOf (.builtin id) = pure (.type "method_descriptor")) (hm : MtR X id r) (ho : PE X o to) (ha : PA X (e :: es) t)
    (hbase : attributeBase o name X.env (eval o X.env) = eval o X.env := by rfl)
    (hfew : ((backTo cpos (starEach (e :: es) X.env)).all (fun x => !x.1) && (backToKw cpos (keywordEach [] X.env)).all (fun x => x.1.isSome)
      && decide ((e :: es).length + ([] : List Keyword).length + (if ([] : List Keyword).isEmpty then 0 else 1) < 30)) = true := by rfl)
    (hline : (apos.endLine == cpos.line) = true := by rfl) (hs : starEach (e :: es) X.env = (false, eval e X.env) :: starEach es X.env := by rfl) (hplain : (backTo cpos (starEach es X.env)).any (·.1) = false := by rfl) :
    PE X (.Call (.Attribute o name apos) (e :: es) [] cpos) (tBM X.K T r to t) := by
  intro pins s σ H Q I h
  refine wpAny_Call_method_late hbase hfew hline rfl (thn (ho pins s σ H _ I h) fun v s1 ⟨x, H1, I1, r1, ty, q1⟩ => ?_)
  obtain ⟨h1, h2⟩ := tyV_is I1 r1 ty
  refine ⟨T, id, pa, slot, hty, h1, h2, ?_⟩
  have hA := ha cpos pins s1 σ H1 _ I1 q1
  rw [hs] at hA ⊢
  refine Calls.callWith_builtin (by show (false || (backTo cpos (starEach es X.env)).any (·.1)) = false; rw [hplain] <;> rfl) (Calls.evalArgs_plain ?_)
  exact thn hA fun us s2 ⟨vs, H2, I2, r2, q2⟩ => hm pins s2 σ H2 x vs v us Q I2 r1 r2 q2
/- xs.append(e), list.index on a module's tuple .. are MtR facts of 06m -/
end
end L2

namespace L2
open PySem PySem.Spec PyProof.Rows

def MtM (X : Cx) (id : String) (r : V → List V → Hp → VK → Prop) : Prop :=
  ∀ (pins : List (Addr × Obj)) (s : Shared) (σ : St) (H : Hp) (x : V) (xs : List V) (v : Value) (us : List Value) (Q : VK), Inv X pins σ H s → RelV x v → Vals xs us → r x xs H Q →
    wpAny (model X.prog X.w) X.A (call (.builtin id) (v :: us)) (EP X pins σ Q) X.xe s

/-! ### lists of values -/
theorem Vals.one : ∀ {x : V} {us : List Value}, Vals [x] us → ∃ u, us = [u] ∧ RelV x u
  | _, _, .cons r .nil => ⟨_, rfl, r⟩
theorem Vals.two : ∀ {x y : V} {us : List Value}, Vals [x, y] us → ∃ u v, us = [u, v] ∧ RelV x u ∧ RelV y v
  | _, _, _, .cons r (.cons q .nil) => ⟨_, _, rfl, r, q⟩
theorem Vals.zero : ∀ {us : List Value}, Vals [] us → us = []
  | _, .nil => rfl
theorem Vals.dropLast {xs : List V} {us : List Value} (h : Vals xs us) : Vals xs.dropLast us.dropLast := by
  induction h with
  | nil => exact .nil
  | cons r t ih =>
    cases t with
    | nil => exact .nil
    | cons q t' => exact .cons r ih
theorem Vals.rep {xs : List V} {us : List Value} (h : Vals xs us) : ∀ k : Nat, Vals (List.replicate k xs).flatten (List.replicate k us).flatten
  | 0 => .nil
  | k + 1 => by
    rw [List.replicate_succ, List.replicate_succ, List.flatten_cons, List.flatten_cons]
    exact Vals.append h (Vals.rep h k)
theorem erase_last {α : Type} (l : List α) : l.eraseIdx (l.length - 1) = l.dropLast := by
  induction l with
  | nil => rfl
  | cons a r ih =>
    cases r with
    | nil => rfl
    | cons b r =>
      have e : (a :: b :: r).length - 1 = ((b :: r).length - 1) + 1 := by
        have h1 : (a :: b :: r).length = r.length + 2 := rfl
        have h2 : (b :: r).length = r.length + 1 := rfl
        omega
      rw [e, List.eraseIdx_cons_succ, ih]
      all_goals rfl
theorem foldl_rep (its : List Value) : ∀ (k : Nat) (acc : List Value),
    List.foldl (fun x1 x2 => x1 ++ x2) acc.toArray (List.replicate k its.toArray) = (acc ++ (List.replicate k its).flatten).toArray
  | 0, acc => by simp
  | k + 1, acc => by
    have e : acc.toArray ++ its.toArray = (acc ++ its).toArray := by simp
    have e2 : (acc ++ its) ++ (List.replicate k its).flatten = acc ++ (List.replicate (k + 1) its).flatten := by
      rw [List.replicate_succ, List.flatten_cons, List.append_assoc]
    rw [← e2, ← foldl_rep its k (acc ++ its), ← e, List.replicate_succ, List.foldl_cons]

section
variable {X : Cx} {pins : List (Addr × Obj)} {σ : St} {H : Hp} {s : Shared} {l b : Addr} {xs ys zs : List V}

/-! ### the two steps: a tracked list is rewritten, a new list is laid -/
theorem Inv.lset {its its' : List Value} {n : Nat} {f : Array Value → Array Value} {t' : Nat} (I : Inv X pins σ H s) (hH : H l = some (.lst xs))
    (e : s.heap.get? l = some { cls := .type "list", data := .seq its.toArray n }) (hf : f its.toArray = its'.toArray) (hv : Vals ys its') (hz : ys.length ≤ sizeLine) (ht : 0 < t' := by first | assumption | exact Nat.succ_pos _ | (apply Inv.tk; assumption)) :
    Inv X pins σ (upd H l (.lst ys)) { s with heap := s.heap.update l (Obj.mapSeq f), toks := t' } := by
  have q := PySem.IsL.update e f
  rw [hf] at q
  refine I.write (x := l) (e := l) (by rw [hH]; exact trivial) (.inl rfl) (fun b' u hb hu => (Heap.get?_update_other s.heap (Obj.mapSeq f) (Ne.symm hb)).trans hu) ⟨_, q⟩ ?_
  exact ⟨hz, its', _, hv, q⟩
theorem Inv.lnew {its : List Value} {t' : Nat} (I : Inv X pins σ H s) (hv : Vals ys its) (hz : ys.length ≤ sizeLine) (ht : 0 < t' := by first | assumption | exact Nat.succ_pos _ | (apply Inv.tk; assumption)) :
    Inv X pins σ (upd H s.heap.objs.size (.lst ys)) { s with heap := s.heap.push { cls := .type "list", data := .seq its.toArray }, toks := t' } :=
  I.laid (fun _ _ q => Heap.get?_push_of_some _ q) (Nat.le_refl _) ⟨hz, its, 0, hv, Heap.get?_push_size _ rfl⟩
theorem Inv.fresh (I : Inv X pins σ H s) : H s.heap.objs.size = none := I.hok.fresh (Nat.le_refl _)
theorem Inv.lstM (I : Inv X pins σ H s) (hH : H l = some (.lst xs)) : xs.length ≤ sizeLine ∧ ∃ (its : List Value) (n : Nat), Vals xs its ∧ xs.length = its.length ∧ s.heap.get? l = some { cls := .type "list", data := .seq its.toArray n } := by
  obtain ⟨z, its, n, r, e⟩ := I.hok l _ hH
  exact ⟨z, its, n, r, r.length, e⟩

theorem notLongL {n : Nat} (h : n ≤ sizeLine) : Builtin.List.listTooLong n = false := by
  unfold Builtin.List.listTooLong
  exact decide_eq_false (by omega)
end

section
variable {X : Cx}

/-! ### methods -/
def rAppend : V → List V → Hp → VK → Prop := fun x vs H Q => ∃ l xs y, x = .ref l ∧ vs = [y] ∧ H l = some (.lst xs) ∧ xs.length < sizeLine ∧ Q .non (upd H l (.lst (xs ++ [y])))
theorem mt_append : MtM X "list.append" rAppend := by
  intro pins s σ H x vs v us Q I rx rv h
  obtain ⟨l, xs, y, rfl, rfl, hH, hz, q⟩ := h
  cases rx
  obtain ⟨u, rfl, ru⟩ := rv.one
  obtain ⟨z, its, n, r, hl, e⟩ := I.lstM hH
  refine call_meets F.slot_list_append ⟨_, e, rfl⟩ F.entry_list_append (F.args_list_append_2 _ _) (PySem.list_append l its.toArray n u (by rw [List.size_toArray]; omega)) ⟨e, ?_⟩
  refine ⟨.non, _, I.lset (its' := its ++ [u]) hH e (by simp) (r.append (.cons ru .nil)) ?_, rfl, q⟩
  rw [List.length_append, List.length_singleton]
  omega

def rExtend : V → List V → Hp → VK → Prop := fun x vs H Q => ∃ l b xs zs, x = .ref l ∧ vs = [.ref b] ∧ H l = some (.lst xs) ∧ H b = some (.lst zs) ∧ xs.length + zs.length ≤ sizeLine ∧ Q .non (upd H l (.lst (xs ++ zs)))
theorem mt_extend : MtM X "list.extend" rExtend := by
  intro pins s σ H x vs v us Q I rx rv h
  obtain ⟨l, b, xs, zs, rfl, rfl, hH, hB, hz, q⟩ := h
  cases rx
  obtain ⟨u, rfl, ru⟩ := rv.one
  cases ru
  obtain ⟨z, its, n, r, hl, e⟩ := I.lstM hH
  obtain ⟨z2, its2, n2, r2, hl2, e2⟩ := I.lstM hB
  have hsz : its.toArray.size + its2.toArray.size ≤ sizeLine := by rw [List.size_toArray, List.size_toArray]; omega
  have hlong : ¬ (!its.toArray.isEmpty && Builtin.List.listTooLong (its.toArray.size + its2.toArray.size)) = true := by
    rw [notLongL hsz, Bool.and_false]
    exact Bool.false_ne_true
  refine call_meets F.slot_list_extend ⟨_, e, rfl⟩ F.entry_list_extend (F.args_list_extend_2 _ _)
    (AutoSeq1.list_extend_list_list_0 l its.toArray n b its2.toArray n2 hlong (by rw [List.size_toArray]; omega) (by omega)) ⟨e, e2, ?_⟩
  refine ⟨.non, _, I.lset (its' := its ++ its2) hH e (by simp) (r.append r2) ?_, rfl, q⟩
  rw [List.length_append]
  omega

def rPop : V → List V → Hp → VK → Prop := fun x vs H Q => ∃ l xs y, x = .ref l ∧ vs = [] ∧ H l = some (.lst xs) ∧ xs[xs.length - 1]? = some y ∧ Q y (upd H l (.lst xs.dropLast))
theorem mt_pop : MtM X "list.pop" rPop := by
  intro pins s σ H x vs v us Q I rx rv h
  obtain ⟨l, xs, y, rfl, rfl, hH, hy, q⟩ := h
  cases rx
  have hus := rv.zero
  subst hus
  obtain ⟨z, its, n, r, hl, e⟩ := I.lstM hH
  obtain ⟨u, hu, ru⟩ := r.get hy
  have hy' : its.toArray[its.toArray.size - 1]? = some u := by
    show its.toArray[its.length - 1]? = some u
    rw [← Array.getElem?_toList, ← hl]
    exact hu
  refine call_meets F.slot_list_pop ⟨_, e, rfl⟩ F.entry_list_pop (F.args_list_pop_1 _) (MeetsSeq.list_pop_last l its.toArray n u hy' (by rw [List.size_toArray]; omega)) ⟨e, ?_⟩
  refine ⟨y, _, I.lset (its' := its.dropLast) hH e ?_ r.dropLast ?_, ru, q⟩
  · show its.toArray.eraseIdxIfInBounds (its.toArray.size - 1) = its.dropLast.toArray
    rw [List.size_toArray, List.eraseIdxIfInBounds_toArray, erase_last]
  · rw [List.length_dropLast]
    omega




/-! ### list + list, list += list, list * int -/
def rCat : R2 := fun x y H Q => ∃ l b xs zs, x = .ref l ∧ y = .ref b ∧ H l = some (.lst xs) ∧ H b = some (.lst zs) ∧ xs.length + zs.length ≤ sizeLine ∧ ∀ p, H p = none → Q (.ref p) (upd H p (.lst (xs ++ zs)))
theorem op_cat : OpR X (binaryOp .Add) rCat := by
  intro pins s σ H x y v u Q I rx ry h
  obtain ⟨l, b, xs, zs, rfl, rfl, hH, hB, hz, q⟩ := h
  cases rx
  cases ry
  obtain ⟨z, its, n, r, hl, e⟩ := I.lstM hH
  obtain ⟨z2, its2, n2, r2, hl2, e2⟩ := I.lstM hB
  refine PySem.P.add_list e e2 ?_ (by rw [List.size_toArray, List.size_toArray]; omega)
  have ea : its.toArray ++ its2.toArray = (its ++ its2).toArray := by simp
  rw [ea]
  exact ⟨.ref _, _, I.lnew (t' := s.toks) (r.append r2) (by rw [List.length_append]; omega), rfl, q _ I.fresh⟩
/-- a list times an int (a negative one is nothing) -/
def rRep : R2 := fun x y H Q => ∃ l k xs, x = .ref l ∧ y = .int k ∧ H l = some (.lst xs) ∧ -(2 ^ 63) ≤ k ∧ k < 2 ^ 63 ∧ xs.length * k.toNat ≤ sizeLine ∧
  ∀ p, H p = none → Q (.ref p) (upd H p (.lst (List.replicate k.toNat xs).flatten))
theorem len_rep {α : Type} (xs : List α) (k : Nat) : (List.replicate k xs).flatten.length = k * xs.length := by
  induction k with
  | zero => simp
  | succ k ih => rw [List.replicate_succ, List.flatten_cons, List.length_append, ih, Nat.succ_mul, Nat.add_comm]
theorem op_rep : OpR X (binaryOp .Mult) rRep := by
  intro pins s σ H x y v u Q I rx ry h
  obtain ⟨l, k, xs, rfl, rfl, hH, h1, h2, hz, q⟩ := h
  cases rx
  obtain ⟨t, rfl⟩ := ry
  obtain ⟨z, its, n, r, hl, e⟩ := I.lstM hH
  have hlen : its.toArray.size * k.toNat ≤ sizeLine := by rw [List.size_toArray, ← hl]; exact hz
  have hcap : ¬ its.toArray.size * k.toNat > (2 ^ 63 - 1) / 8 := by
    have : (sizeLine : Nat) ≤ (2 ^ 63 - 1) / 8 := by decide
    omega
  have hfit : ¬ (!Builtin.List.listFitsIndex k) = true := by
    rw [fitsIndex_both h1 h2]
    exact Bool.false_ne_true
  have hlong : ¬ Builtin.List.listTooLong (its.toArray.size * k.toNat) = true := by
    rw [notLongL hlen]
    exact Bool.false_ne_true
  have hnew : List.foldl (fun x1 x2 => x1 ++ x2) #[] (List.replicate (if its.toArray.isEmpty = true then 0 else k.toNat) its.toArray) = (List.replicate k.toNat its).flatten.toArray := by
    have f0 : ∀ m : Nat, List.foldl (fun x1 x2 => x1 ++ x2) #[] (List.replicate m its.toArray) = (List.replicate m its).flatten.toArray := fun m => by
      have := foldl_rep its m []
      rw [List.nil_append] at this
      exact this
    rw [f0]
    cases its with
    | nil => simp
    | cons a r' => rw [if_neg (by simp)]
  refine wpAny_binaryOp_repeat_ref (T := "list") (U := "int") (by decide) ⟨_, e, rfl⟩ (fun s' => typeIs_int s' k t) noFill_list_mul F.fills_int_mul F.slot_int_rmul repeat_list F.slot_int_index.lookup
    (call_meets F.slot_int_rmul (typeIs_int s k t) F.entry_int_rmul (F.args_int_rmul_2 _ _) (int___rmul___int_list k t l its.toArray n)
      ⟨e, rfl, ⟨_, e, rfl⟩, call_meets F.slot_list_mul ⟨_, e, rfl⟩ F.entry_list_mul (F.args_list_mul_2 _ _) (AutoListH.list___mul___list_int_3 l its.toArray n k t hfit hcap hlong) ⟨e, ?_⟩⟩)
  rw [hnew]
  exact ⟨.ref _, _, I.lnew (t' := s.toks) (r.rep k.toNat) (by rw [len_rep, Nat.mul_comm]; exact hz), rfl, q _ I.fresh⟩

/-! ### del xs[i] -/
end

/-! ### xs[a:b] = ys -/
section
variable {prog : Program} {w : World} {A : Around} {E : Value → Shared → Prop} {s : Shared}
set_option maxRecDepth 100000 in
end

section
variable {X : Cx}
end
end L2

namespace Att
open PySem PySem.W PySem.Calls PyProof.Rows

/-! ### the script -/



/-! ### the attachment: holds_open's last premise (the goal 'hc' behind k_head) from a wpAny of the law's body -/



/-! ### rules over ANY heap (no ledger) from facts about the written part K: the library's own take a ledger (News) for what they write -/
section
variable {prog : Program} {w : World} {A : Around} {E : Value → Shared → Prop} {s : Shared} {K : Frag}





/-! the whole heap as the ledger: makes every rule that writes through a ledger a rule over any heap -/

end
end Att

namespace L2
open PySem PySem.Spec PyProof.Rows

theorem vals_ints : ∀ {vs : List Value} {ns : List Int}, IntsAre vs ns → Vals (ns.map V.int) vs
  | _, _, .nil => .nil
  | _, _, .cons n t h => .cons ⟨t, rfl⟩ (vals_ints h)

/-- nothing is tracked but the script, known to the object (or it is an object of the module) -/
def Only (H : Hp) : Prop := ∀ b, H b = none ∨ ∃ o xs, H b = some (.frz o (.lst xs))

/-- THE HEAD: the law's promise, at the heap behind the top. F, the promise of the law's def, may use that base is part of the heap (so K.In base, base.Ns mainGlobals mg stand in Mod) -/
theorem law_call {P : Program} {w : World} {K : PySem.W.Frag} {mg mb : Str → Option Value} {CX : CXT} {k : Nat} {fa a : Addr} {fd : FuncData} {x : Str} {sp : Sp} {s₁ : Shared} {vs : List Value} {ns : List Int}
    (KX : K.In s₁.heap) (hns : s₁.heap.Ns mainGlobals mg) (hb : s₁.heap.Ns builtinsNs mb) (hbb : ∀ x : Str, x ≠ "__name__" → mb x = bootBuiltins x) (hlim : s₁.heap.NoLimit) (hg : s₁.gens = #[]) (htk : 0 < s₁.toks)
    (ha : s₁.heap.get? a = some { cls := .type "list", data := .seq vs.toArray }) (hi : IntsAre vs ns) (hl : ns.length ≤ sizeLine) (hr : Room k callerA)
    (F : ∀ base : Heap, K.In base → base.Ns mainGlobals mg → FnOk P w K mg base CX k fa fd [x] sp) (hbind : ∀ (s : Shared) (u : Value), BindsTo s fd ⟨[u], []⟩ [(x, u)])
    (hsp : ∀ H : Hp, Only H → SqL K H a (ns.map V.int) → sp [.ref a] H (fun v _ => v = .bl true) fun _ _ _ => False)
    (hCX : ∀ H e s', CX [] H s₁ (fun _ _ _ => False) e s' → False) :
    codeAny (model P w) callerA (.call (.ref fa) ⟨[.ref a], []⟩) (fun r s' => r = .ok (.ret (.bool true)) ∧ OldK s₁.heap s'.heap ∧ s'.os = s₁.os ∧ AllBare s'.gens) s₁ := by
  have rv := vals_ints hi
  have lenV := hi.length
  -- from an abstract heap in which nothing but the script may be tracked
  have core : ∀ H : Hp, Only H → SqL K H a (ns.map V.int) → HOk P w H s₁.heap → (∀ b, H b ≠ none → b = a) → (H a ≠ none → K.lookup a = none) →
      codeAny (model P w) callerA (.call (.ref fa) ⟨[.ref a], []⟩) (fun r s' => r = .ok (.ret (.bool true)) ∧ OldK s₁.heap s'.heap ∧ s'.os = s₁.os ∧ AllBare s'.gens) s₁ := by
    intro H hO hS hok hA hK
    have base_of : ∀ {b : Addr} {o : Obj}, s₁.heap.get? b = some o → H b = none → (hidT s₁.heap H).get? b = some o := fun e n => hidT_get e n
    have noA : ∀ {b : Addr} {o : Obj} {es : Array DictEntry} {ep : Nat}, s₁.heap.get? b = some o → o.data = .dict es ep → H b = none := fun {b o es ep} e d => by
      cases q : H b with
      | none => rfl
      | some u =>
        have e' : b = a := hA b (by rw [q]; simp)
        subst e'
        rw [ha] at e; cases e
        have d' : Data.seq vs.toArray _ = Data.dict es ep := d
        cases d'
    have nsK : ∀ {b : Addr} {m : Str → Option Value}, s₁.heap.Ns b m → (hidT s₁.heap H).Ns b m := fun {b m} ⟨o, es, ep, e, d, r⟩ => ⟨o, es, ep, base_of e (noA e d), d, r⟩
    have hKb : K.In (hidT s₁.heap H) := fun b o e => base_of (KX b o e) (by
      cases q : H b with
      | none => rfl
      | some u =>
        have e' : b = a := hA b (by rw [q]; simp)
        subst e'
        rw [hK (by rw [q]; simp)] at e; cases e)
    have hM : Mod K mg (hidT s₁.heap H) := ⟨hKb, nsK hns, ⟨mb, nsK hb, hbb⟩, let ⟨mc, h1, h2⟩ := hlim; ⟨mc, nsK h1, h2⟩⟩
    have e0 : Env0 P w K mg (hidT s₁.heap H) callerA [] s₁ H := ⟨rfl, hM, fun b o e => of_hidT e, Nat.le_of_eq (hidT_size _ _), trivial, fun b hb => absurd (show b ∈ ([] : List Addr) from hb) (by simp), hok, .of_eq hg, htk⟩
    refine codeAny_mono ((F _ hKb (nsK hns)).run callerA [] s₁ H ⟨[.ref a], []⟩ [.ref a] [.ref a] _ _ hr e0 (hbind s₁ (.ref a)) (.cons rfl .nil) (hsp H hO hS)) fun r s' h => ?_
    cases r with
    | error e => exact (hCX H e s' h).elim
    | ok fl =>
      cases fl with
      | next => exact False.elim h
      | brk => exact False.elim h
      | cont => exact False.elim h
      | ret u =>
        obtain ⟨v, H', os, bare, un, hok', _, r', q⟩ := h
        have q' : v = .bl true := q
        subst q'
        obtain rfl : u = Value.bool true := r'
        refine ⟨rfl, OldK.of_keep fun b o e => ?_, os, bare⟩
        cases q : H b with
        | none => exact un.keep b o e q (by intro z; exact absurd (show b ∈ ([] : List Addr) from z) (by simp)) (by simp)
        | some u =>
          rcases hO b with z | ⟨ob, xs, z⟩
          · rw [q] at z; cases z
          · have z2 := un.frzs b ob _ z
            obtain ⟨e1, _⟩ := hok b _ z
            obtain ⟨e2, _⟩ := hok' b _ z2
            rw [e] at e1; cases e1
            exact e2
  cases hk : K.lookup a with
  | some o =>
    -- the script is one of the module's own objects
    have e := KX a o hk
    rw [ha] at e
    cases e
    refine core (fun _ => none) (fun _ => .inl rfl) (.inr ⟨_, vs.toArray, _, hk, rfl, rfl, rfl, by rw [List.size_toArray, lenV]; exact hl, by simpa using rv⟩) (fun b u z => by have z' : (none : Option HO) = some u := z; cases z') (fun b z => absurd rfl z) fun z => absurd rfl z
  | none =>
    refine core (fun b => if b = a then some (.frz { cls := .type "list", data := .seq vs.toArray } (.lst (ns.map V.int))) else none) (fun b => ?_) (.inl (.inr ⟨{ cls := .type "list", data := .seq vs.toArray }, if_pos rfl⟩)) (fun b u z => ?_) (fun b z => ?_) fun _ => hk
    · by_cases hb : b = a
      · exact .inr ⟨_, _, if_pos hb⟩
      · exact .inl (if_neg hb)
    · by_cases hb : b = a
      · have z' := (if_pos hb).symm.trans z
        cases z'
        subst hb
        exact ⟨ha, by rw [List.length_map]; exact hl, vs, _, rv, ha⟩
      · have z' := (if_neg hb).symm.trans z
        cases z'
    · by_cases hb : b = a
      · exact hb
      · exact absurd (if_neg hb) z
end L2

namespace L2
open PySem PySem.Spec PyProof.Rows

abbrev KOf {K : PySem.W.Frag} {h : Heap} (_ : K.In h) : PySem.W.Frag := K

end L2



/-! SHORT WORDS over the layer: a def of the text, its body, what a loop and a test want. -/
namespace L2
open PySem PySem.Spec PyProof.Rows

/-! ### the text by places -/
def defArgs (s : Stmt) : Arguments := match s with
  | .FunctionDef _ a _ _ _ _ _ _ _ _ => a
  | _ => { posonlyargs := [], args := [], vararg := none, kwonlyargs := [], kw_defaults := [], kwarg := none, defaults := [] }
def defBody (s : Stmt) : List Stmt := match s with
  | .FunctionDef _ _ b _ _ _ _ _ _ _ => b
  | _ => []
def defScope (s : Stmt) : Scope := match s with
  | .FunctionDef _ _ _ _ _ _ sc _ _ _ => sc
  | _ => { kind := .function, names := [], isGenerator := false, isCoroutine := false }

/-! ### no exception leaves a def -/
abbrev CX0 : CXT := fun _ _ _ _ _ _ => False
abbrev E0 : XK := fun _ _ _ => False
theorem pass0 {X : Cx} : Passes CX0 X E0 := fun _ _ _ _ _ _ _ h => h.elim

/-! ### a def (or method) of the text as it stands behind the top -/
structure Fun (K : PySem.W.Frag) (x qual : Str) (st : Stmt) (f : Addr) (fd : FuncData) : Prop where
  ex : ∃ (oc : Value) (od : Option Addr) (kV doc pm : Value) (an : Option Addr) (cdv ct : Value) (osl : Array (Option Value)),
    fd = PySem.W.fnOf x qual (defArgs st) (defBody st) (defScope st) .none kV doc pm an cdv ct ∧ K.lookup f = some ⟨oc, od, .func fd, osl⟩ ∧ PySem.W.codeIn K cdv qual = true
  kp : PySem.W.keepIn K (.ref f) = true
section
variable {P : Program} {w : World} {K : PySem.W.Frag} {mg : Str → Option Value} {base : Heap}
/-- THE RULE for a def: its body as a term of rules, and the reading of that term -/
theorem Fun.ok {x qual : Str} {st : Stmt} {f : Addr} {fd : FuncData} {N ps : List Str} {k : Nat} {sp : Sp} (F : Fun K x qual st f fd) (S : FnScope N ps (defScope st)) (len : ∀ vs H Q E, sp vs H Q E → vs.length = ps.length)
    (hbody : ∀ (cdv : Value) (A : Around) (outer : List Env) (s : Shared) (H : Hp) (vs : List V) (Q : VK) (E : XK), Room k (A.deeper (envOfC qual (defScope st) s.heap.objs.size f cdv)) → sp vs H Q E →
      ∃ t, PSs (cxOf CX0 P w K mg base N qual (defScope st) f cdv A outer s H E).nox (defBody st) t ∧ t { nx := fun _ H' => Q .non H', rt := Q } (start N vs) H) : FnOk P w K mg base CX0 (k + 1) f fd ps sp := by
  obtain ⟨oc, od, kV, doc, pm, an, cdv, ct, osl, rfl, lk, hcd⟩ := F.ex
  refine fn_of lk hcd S len fun A outer s H vs Q E hr hsp => ?_
  obtain ⟨t, h, q⟩ := hbody cdv A outer s H vs Q E hr hsp
  exact ⟨t, h.nox, q⟩
/-- how its arguments bind (no defaults): h is «fun _ _ _ _ _ _ us hl => match us, hl with | [_, _], _ => rfl», one _ a parameter -/
theorem Fun.binds {x qual : Str} {st : Stmt} {f : Addr} {fd : FuncData} {ps : List Str} (F : Fun K x qual st f fd)
    (h : ∀ (kV doc pm : Value) (an : Option Addr) (cdv ct : Value) (us : List Value), us.length = ps.length → bindArgs (PySem.W.fnOf x qual (defArgs st) (defBody st) (defScope st) .none kV doc pm an cdv ct) ⟨us, []⟩ = pure (ps.zip us)) : Binds K fd ps [] := by
  obtain ⟨oc, od, kV, doc, pm, an, cdv, ct, osl, rfl, lk, hcd⟩ := F.ex
  exact .all (h kV doc pm an cdv ct)
theorem fun_mk {x qual : Str} {st : Stmt} {f : Addr} {oc : Value} {od an : Option Addr} {osl : Array (Option Value)} {kV doc pm cdv ct : Value} (l : K.lookup f = some ⟨oc, od, .func (PySem.W.fnOf x qual (defArgs st) (defBody st) (defScope st) .none kV doc pm an cdv ct), osl⟩)
    (c : PySem.W.codeIn K cdv qual = true) (k : PySem.W.keepIn K (.ref f) = true) : Fun K x qual st f (PySem.W.fnOf x qual (defArgs st) (defBody st) (defScope st) .none kV doc pm an cdv ct) := ⟨⟨oc, od, kV, doc, pm, an, cdv, ct, osl, rfl, l, c⟩, k⟩
end

/-! ### expressions in short: the name that stands in the i-th slot -/
section
variable {X : Cx}
theorem pv (i : Nat) {x : Str} {pos : Pos} (hN : X.N[i]? = some x := by rfl) (hv : Vis X.env.scope x := by first | exact Or.inl rfl | exact Or.inr (Or.inl rfl) | exact Or.inr (Or.inr rfl)) (hd : (x == ("__debug__" : Str)) = false := by decide)
    (hcd : (x == ("__classdict__" : Str)) = false := by decide) : PE X (.Name x pos) (tVar i) := pe_var hN hv hd hcd
end

/-! ### tests -/
theorem iteF {A B : Prop} (h : B) : if false = true then A else B := by
  rw [if_neg Bool.false_ne_true]
  exact h
theorem iteT {A B : Prop} (h : A) : if true = true then A else B := by
  rw [if_pos rfl]
  exact h
theorem ite2 {c A B : Prop} [Decidable c] (h1 : c → A) (h2 : ¬ c → B) : if c then A else B := by
  by_cases h : c
  · rw [if_pos h]
    exact h1 h
  · rw [if_neg h]
    exact h2 h

/-! ### heaps -/
/-- all that was tracked is as it was -/
def Same (H H' : Hp) : Prop := ∀ b o, H b = some o → H' b = some o
theorem Same.refl (H : Hp) : Same H H := fun _ _ h => h
theorem Same.trans {H H1 H2 : Hp} (a : Same H H1) (b : Same H1 H2) : Same H H2 := fun c o h => b c o (a c o h)
theorem Same.free {H H' : Hp} (e : Same H H') {l : Addr} (h : H' l = Option.none) : H l = Option.none := by
  cases q : H l with
  | none => rfl
  | some o =>
    rw [e l o q] at h
    cases h
theorem Same.seq {K : PySem.W.Frag} {H H' : Hp} {a : Addr} {xs : List V} (e : Same H H') (h : SqL K H a xs) : SqL K H' a xs := by
  rcases h with (h | ⟨o, h⟩) | h
  · exact .inl (.inl (e _ _ h))
  · exact .inl (.inr ⟨o, e _ _ h⟩)
  · exact .inr h

end L2

set_option Elab.async false
set_option linter.all false
set_option maxRecDepth 100000
/-! A list comprehension of one clause, no exception leaving it. -/
namespace L2
open PySem PySem.Spec PyProof.Rows

def CellsIn (env : Env) : List (Str × Addr) → Prop
  | [] => True
  | p :: r => env.cells.lookup p.1 = some p.2 ∧ CellsIn env r
theorem CellsIn.look {env : Env} : ∀ {cl : List (Str × Addr)}, CellsIn env cl → ∀ x c, cl.lookup x = some c → env.cells.lookup x = some c
  | [], _, x, c, e => by simp at e
  | p :: r, h, x, c, e => by
    obtain ⟨n, a⟩ := p
    rw [List.lookup_cons] at e
    cases q : x == n with
    | true =>
      rw [q] at e
      have q' : x = n := eq_of_beq q
      subst q'
      cases e
      exact h.1
    | false =>
      rw [q] at e
      exact h.2.look x c e

/-- the comprehension's own context -/
abbrev compX (X : Cx) (scope : Scope) (cl : List (Str × Addr)) (C : Addr) (N' : List Str) (fp : List Addr) (s : Shared) (H : Hp) : Cx :=
  { X with N := N', s₀ := s, H₀ := H, env := compEnvC scope cl C X.env, outer := X.stack, ex := fp, fn := fun _ => false, pn := [], xe := fun _ _ => False }
/-- its slots: own names, none yet; then those of the outer frame that it reads -/
def nfS (k : Nat) (fr : List Nat) (σ : St) : St := List.replicate k none ++ fr.map fun j => (σ[j]?).join
/-- what is asked of the block's names: own: its targets; fr: the outer slots of the names that it reads -/
structure CompN (X : Cx) (scope : Scope) (cl : List (Str × Addr)) (own : List Str) (fr : List Nat) (N' : List Str) : Prop where
  kind : scope.kind = .function
  cells : CellsIn X.env cl
  has : ∀ x, ((relabel scope X.env).names.lookup x = some .cell ∨ (relabel scope X.env).names.lookup x = some .free) → ∃ c, cl.lookup x = some c
  nd : N'.Nodup
  len : N'.length = own.length + fr.length
  free : ∀ (i : Nat) (j : Nat), fr[i]? = some j → ∃ x, X.N[j]? = some x ∧ N'[own.length + i]? = some x ∧ (X.env.kindOf x = some .cell ∨ X.env.kindOf x = some .free) ∧
    ((relabel scope X.env).names.lookup x = some .cell ∨ (relabel scope X.env).names.lookup x = some .free)

section
variable {X : Cx} {pins : List (Addr × Obj)} {σ : St} {H : Hp} {s s4 : Shared} {scope : Scope} {cl : List (Str × Addr)} {own : List Str} {fr : List Nat} {N' : List Str} {fp : List Addr} {C : Addr} {H4 : Hp}
theorem comp_ok (I : Inv X pins σ H s) (Z : CompN X scope cl own fr N') (hC : s.heap.objs.size ≤ C) (hf : ∀ b ∈ fp, FpOk X pins H b) (ho : ∀ b ∈ fp, ∃ o, s.heap.get? b = some o ∧ ∀ v, o.data ≠ .cell v) : (compX X scope cl C N' fp s H).Ok where
  mod := I.ok.mod
  kind := Z.kind
  glob := I.ok.glob
  blt := I.ok.blt
  above := hC
  inj := fun x y c h1 h2 => I.ok.inj x y c (Z.cells.look x c h1) (Z.cells.look y c h2)
  has := fun x h => Z.has x h
  cab := fun x c h _ => Bool.noConfusion h
  hd := I.ok.hd
  frames := I.ok.frames
  stk := .inl rfl
  exf := fun b hb => by
    obtain ⟨o, e, _⟩ := ho b hb
    refine ⟨Nat.ne_of_lt (Nat.lt_of_lt_of_le (Heap.lt_size e) hC), fun x c h => ?_⟩
    exact (hf b hb).2.2.2.2.1 x c (Z.cells.look x c h)
  bs := I.bs
  bsz := Nat.le_trans I.ok.bsz I.sz
  noex := fun b o e hb => by
    rcases (hf b hb).2.2.2.1 with z | z
    · exact I.ok.noex b o e z
    · exact absurd (Nat.lt_of_lt_of_le (Heap.lt_size e) (Nat.le_trans I.ok.bsz z)) (Nat.lt_irrefl _)
  exfs := fun b hb z => by
    rcases List.mem_cons.mp (I.stkSub b z) with e | e
    · exact (hf b hb).2.1 e
    · exact (hf b hb).2.2.1 e
  funs := I.stack
  frf := I.stkFree

theorem comp_inv (I : Inv X pins σ H s) (Z : CompN X scope cl own fr N') (hC : s.heap.objs.size ≤ C) (hf : ∀ b ∈ fp, FpOk X pins H b) (ho : ∀ b ∈ fp, ∃ o, s.heap.get? b = some o ∧ ∀ v, o.data ≠ .cell v)
    (os : s4.os = s.os) (bare : AllBare s4.gens) (un : Un (frs X.stack) fp H H4 s.heap s4.heap) (ns : ∃ m, s4.heap.Ns C m) (kc : ∀ x c v, X.env.cells.lookup x = some c → s.heap.IsCell c v → s4.heap.IsCell c v)
    (fr4 : H4 C = none) (hok : HOk X.prog X.w H4 s4.heap) (tk : 0 < s4.toks) : Inv (compX X scope cl C N' fp s H) [] (nfS own.length fr σ) H4 s4 where
  ok := comp_ok I Z hC hf ho
  os := os
  bare := bare
  base := un
  loc := by
    obtain ⟨m, hm⟩ := ns
    refine ⟨m, hm, fun i x v h1 h2 h3 => ?_⟩
    unfold nfS at h2
    by_cases hi : i < own.length
    · rw [List.getElem?_append_left (by simpa using hi), List.getElem?_replicate, if_pos hi] at h2
      cases h2
    · rw [List.getElem?_append_right (by simpa using hi), List.length_replicate, List.getElem?_map] at h2
      cases q : fr[i - own.length]? with
      | none => rw [q] at h2; cases h2
      | some j =>
        rw [q] at h2
        have h2' : (σ[j]?).join = some v := Option.some.inj h2
        obtain ⟨y, e1, e2, e3, e4⟩ := Z.free _ j q
        have ei : own.length + (i - own.length) = i := by omega
        rw [ei] at e2
        have h1' : N'[i]? = some x := h1
        rw [e2] at h1'
        cases h1'
        have hs : σ[j]? = some (some v) := by
          cases r : σ[j]? with
          | none => rw [r] at h2'; cases h2'
          | some w => rw [r] at h2'; cases w with
            | none => cases h2'
            | some w => cases h2'; rfl
        obtain ⟨m0, _, hl⟩ := I.loc
        have vis : Vis X.env.scope x := e3.elim (fun z => .inr (.inl z)) fun z => .inr (.inr z)
        obtain ⟨u, ru, lk⟩ := hl j x v e1 hs vis
        refine ⟨u, ru, ?_⟩
        rcases lk with ⟨k, _⟩ | ⟨_, c, ec, hc⟩
        · rcases e3 with z | z <;> (rw [k] at z; cases z)
        · obtain ⟨c', ec'⟩ := Z.has x e4
          have := Z.cells.look x c' ec'
          rw [ec] at this
          cases this
          exact .inr ⟨e4, c, ec', kc x c _ ec hc⟩
  cell := fun x c e => by
    have e' := Z.cells.look x c e
    obtain ⟨v, hv⟩ := I.cell x c e'
    exact ⟨v, kc x c v e' hv⟩
  free := fr4
  freeC := fun x c e => by
    have e' := Z.cells.look x c e
    obtain ⟨v, o, hv, _⟩ := I.cell x c e'
    refine un.free c o hv (I.freeC x c e') fun hb => ?_
    exact (hf c hb).2.2.2.2.1 x c e' rfl
  pin := fun p hp => absurd (show p ∈ ([] : List (Addr × Obj)) from hp) (by simp)
  hok := hok
  len := by
    show (nfS own.length fr σ).length = N'.length
    unfold nfS
    rw [List.length_append, List.length_replicate, List.length_map, Z.len]
  tk := tk

/-- behind the block: the outer invariant again -/
theorem comp_out {σ' : St} (I : Inv X pins σ H s) (hf : ∀ b ∈ fp, FpOk X pins H b) {pins' : List (Addr × Obj)} (J : Inv (compX X scope cl C N' fp s H) pins' σ' H4 s4) : Inv X pins σ H4 s4 :=
  I.call' J.os J.base J.hok J.bare (fun b hb => ⟨(hf b hb).2.2.2.1, (hf b hb).2.1, (hf b hb).2.2.2.2.1, (hf b hb).2.2.2.2.2⟩) J.tk
theorem comp_gone {C : Addr} {h' : Heap} (I0 : Inv X pins σ H s) (hC : s.heap.objs.size ≤ C) {σ' : St} (I : Inv X pins σ' H4 s4) (fr4 : H4 C = none) (hs : Heap.SameBut C s4.heap h') : Inv X pins σ' H4 { s4 with heap := h' } := by
  refine I.turned (t' := s4.toks) (it := C) (fun b o hb e => (hs.2 b hb).trans e) fr4 ?_ (.inr (Nat.le_trans I0.sz hC)) ?_ ?_
  · exact Nat.ne_of_gt (Nat.lt_of_lt_of_le I0.lt hC)
  · intro x c e z
    obtain ⟨v, q⟩ := I0.cell x c e
    exact absurd (Nat.lt_of_lt_of_le q.lt (by rw [z]; exact hC)) (Nat.lt_irrefl _)
  · intro p hp z
    exact absurd (Nat.lt_of_lt_of_le (Heap.lt_size (I0.pin p hp).1) (by rw [z]; exact hC)) (Nat.lt_irrefl _)
end

/-! ### the loop of the block -/
/-- the tests of the clause -/
def PTs (X : Cx) (ifs : List Expr) (t : TT) : Prop :=
  ∀ (pins : List (Addr × Obj)) (s : Shared) (σ : St) (H : Hp) (Q : Bool → Hp → Prop), Inv X pins σ H s → t σ H Q →
    wpAny (model X.prog X.w) X.A (forIn ifs true fun c r => if r = true then do let ok ← isTrue c X.env (eval c X.env); pure (ForInStep.yield ok) else pure (ForInStep.yield r)) (TP X pins σ Q) X.xe s
def tYes : TT := fun _ H Q => Q true H
theorem pts_nil {X : Cx} : PTs X [] tYes := fun _ _ _ H _ I h => wpAny_tests_nil ⟨H, I, h⟩
theorem pts_one {X : Cx} {c : Expr} {t : TT} (h : PT X c t) : PTs X [c] t := fun pins s σ H Q I q => wpAny_tests_one (h pins s σ H Q I q)

section
variable {prog : Program} {w : World} {A : Around} {R : Result → Shared → Prop} {s : Shared}
theorem compLoop_any {elt target iter : Expr} {ifs : List Expr} {scope : Scope} {pos : Pos} {it acc : Value} {env : Env} (I : Nat → Shared → Prop)
    (turn : ∀ n s, I n s → wpAny (model prog w) A (pyNext it) (fun r s₁ => match r with
      | none => R (.ok .next) s₁
      | some v => wpAny (model prog w) A (letOwnedTupleGo target it v) (fun _ s₂ => wpAny (model prog w) A (assign target env v) (fun _ s₂ =>
          wpAny (model prog w) A (forIn ifs true fun c r => if r = true then do let ok ← isTrue c env (eval c env); pure (ForInStep.yield ok) else pure (ForInStep.yield r)) (fun ok s₃ =>
            if ok = true then wpAny (model prog w) A (eval elt env) (fun x s₄ =>
              wpAny (model prog w) A (call (.builtin "list.append") [acc, x]) (fun _ s₅ => ∃ m, m < n ∧ I m s₅) (fun _ _ => False) s₄) (fun _ _ => False) s₃
            else ∃ m, m < n ∧ I m s₃) (fun _ _ => False) s₂) (fun _ _ => False) s₂) (fun _ _ => False) s₁) (fun _ _ => False) s)
    (n : Nat) (h : I n s) :
    codeAny (model prog w) A (.compLoop (.ListComp elt [⟨target, iter, ifs, 0⟩] scope pos) 0 it acc env) R s := by
  have no : ∀ {E : Value → Shared → Prop} (e : Value) (s' : Shared), (fun _ _ => False : Value → Shared → Prop) e s' → E e s' := fun _ _ z => False.elim z
  refine codeAny_loop rfl I (fun n s hI => ?_) n h
  show wpAny _ A ((compTurn (.ListComp elt [⟨target, iter, ifs, 0⟩] scope pos) 0 it acc env).onRaise (fun x => do noteFrame x env; theTreesLotGoes x)) _ _ s
  refine wpAny_noted ?_
  rw [compTurn_list]
  refine wpAny_bind (wpAny_standAt (wpAny_bind (wpAny_mono (turn n s hI) (fun r s₁ h₁ => ?_) no)))
  cases r with
  | none => exact wpAny_pure h₁
  | some v =>
    refine wpAny_bind (wpAny_mono h₁ (fun _ s₂ h₂ => ?_) no)
    refine wpAny_bind (wpAny_mono h₂ (fun _ s₂ h₂ => wpAny_bind (wpAny_mono h₂ (fun ok s₃ h₃ => ?_) no)) no)
    cases ok with
    | false => exact wpAny_pure ⟨rfl, h₃⟩
    | true =>
      exact wpAny_bind (wpAny_bind (wpAny_mono h₃ (fun x s₄ h₄ => wpAny_bind (wpAny_mono h₄ (fun _ s₅ h₅ => wpAny_pure (wpAny_pure ⟨rfl, h₅⟩)) no)) no))
end

/-- the frame's slots behind a turn still hold what the block reads -/
def nfLe (k : Nat) (fr : List Nat) (σ σ2 : St) : Prop := σ2.length = (nfS k fr σ).length ∧ ∀ (i : Nat) (v : V), (nfS k fr σ)[i]? = some (some v) → σ2[i]? = some (some v)
theorem nfLe.refl (k : Nat) (fr : List Nat) (σ : St) : nfLe k fr σ (nfS k fr σ) := ⟨rfl, fun _ _ h => h⟩
theorem nfLe.set {k : Nat} {fr : List Nat} {σ σ2 : St} {i : Nat} (h : nfLe k fr σ σ2) (hi : i < k) (x : Option V) : nfLe k fr σ (σ2.set i x) := by
  refine ⟨by rw [List.length_set]; exact h.1, fun j v e => ?_⟩
  by_cases hj : i = j
  · subst hj
    unfold nfS at e
    rw [List.getElem?_append_left (by simpa using hi), List.getElem?_replicate, if_pos hi] at e
    cases e
  · rw [List.getElem?_set_ne hj]
    exact h.2 j v e
/-- the reading of [elt for target in iter if ..] -/
def rLC (k : Nat) (fr : List Nat) (g : TG) (tt : TT) (te : TE) (σ : St) (J : It) (H1 : Hp) (Q : Addr → Hp → Prop) : Prop :=
  ∀ D, H1 D = none → ∃ W : Nat → Nat → List V → Hp → Prop, (∃ m, W 0 m [] (upd H1 D (.lst []))) ∧ ∀ i m acc H, W i m acc H → H D = some (.lst acc) ∧
    ((J.stop i H ∧ Q D H) ∨ (J.go i H ∧ ∀ x H', J.yld i H x H' → g x (nfS k fr σ) H' fun σ2 H2 => nfLe k fr σ σ2 ∧ tt σ2 H2 fun b H3 =>
      if b = true then te σ2 H3 fun y H4 => H4 D = some (.lst acc) ∧ acc.length < sizeLine ∧ ∃ m', m' < m ∧ W (i + 1) m' (acc ++ [y]) (upd H4 D (.lst (acc ++ [y])))
      else ∃ m', m' < m ∧ W (i + 1) m' acc H3))
def tLC (wi : TI) (k : Nat) (fr : List Nat) (g : TG) (tt : TT) (te : TE) : TE := fun σ H Q => wi σ H fun J H1 => rLC k fr g tt te σ J H1 fun D H' => Q (.ref D) H'

section
variable {X : Cx} {scope : Scope} {cl : List (Str × Addr)} {own : List Str} {fr : List Nat} {N' : List Str} {tg iter elt : Expr} {ifs : List Expr} {wi : TI} {g : TG} {tt : TT} {te : TE} {pos : Pos}

/-- an iterator that may be walked in the contexts Cm -/
structure TurnP (Cm : Cx → Prop) (P : Program) (w : World) (K : PySem.W.Frag) (tg : Expr) (J : It) (fp : List Addr) (it : Addr) (tn : Nat → Heap → Prop) : Prop where
  obj : ∀ i h, tn i h → ∀ b ∈ fp, ∃ o, h.get? b = some o ∧ ∀ v, o.data ≠ .cell v
  keep : ∀ i h h', tn i h → (∀ b ∈ fp, ∀ o, h.get? b = some o → h'.get? b = some o) → tn i h'
  item : ∀ (X : Cx), X.prog = P → X.w = w → X.K = K → Cm X → ∀ (i : Nat) (pins : List (Addr × Obj)) (s : Shared) (σ : St) (H : Hp) (E : Value → Shared → Prop), Inv X pins σ H s → (∀ b ∈ fp, FpOk X pins H b) → tn i s.heap → J.go i H →
    wpAny (model P w) X.A (pyNext (.ref it)) (fun r s1 => ∃ u, r = some u ∧
      wpAny (model P w) X.A (letOwnedTupleGo tg (.ref it) u) (fun _ s2 => ∃ x H', Inv X pins σ H' s2 ∧ RelV x u ∧ J.yld i H x H' ∧ tn (i + 1) s2.heap ∧ ∀ b ∈ fp, H' b = none) E s1) E s
  done : ∀ (X : Cx), X.prog = P → X.w = w → X.K = K → Cm X → ∀ (i : Nat) (pins : List (Addr × Obj)) (s : Shared) (σ : St) (H : Hp) (E : Value → Shared → Prop), Inv X pins σ H s → (∀ b ∈ fp, FpOk X pins H b) → tn i s.heap → J.stop i H →
    wpAny (model P w) X.A (pyNext (.ref it)) (fun r s1 => r = none ∧ Inv X pins σ H s1) E s
  self : ∀ (A : Around) (i : Nat) (s : Shared) (Q : Value → Shared → Prop) (E : Value → Shared → Prop), tn i s.heap → Q (.ref it) s → wpAny (model P w) A (pyIter (.ref it)) Q E s
theorem Turn.toP {P : Program} {w : World} {K : PySem.W.Frag} {tg : Expr} {J : It} {fp : List Addr} {it : Addr} {tn : Nat → Heap → Prop} (T : Turn P w K tg J fp it tn) : TurnP (fun X => X.calm = true) P w K tg J fp it tn := ⟨T.obj, T.keep, T.item, T.done, T.self⟩
/-- the block from its iterator on: RR is what is wanted behind it -/
theorem comp_block {pins : List (Addr × Obj)} {σ : St} {H : Hp} {s : Shared} {it : Addr} {fp : List Addr} {tn : Nat → Heap → Prop} {J : It} {Q : Addr → Hp → Prop} {RR : Value → Addr → Result → Shared → Prop} {E : Value → Shared → Prop}
    {Cm : Cx → Prop} (hc : ∀ C, Cm (compX X scope cl C N' fp s H)) (Z : CompN X scope cl own fr N') (hcell : ∀ y ∈ scope.names, y.2 ≠ .cell)
    (hg : ∀ C, PG (compX X scope cl C N' fp s H) tg g) (ht : ∀ C, PTs (compX X scope cl C N' fp s H) ifs tt) (he : ∀ C, PE (compX X scope cl C N' fp s H) elt te)
    (I : Inv X pins σ H s) (T : TurnP Cm X.prog X.w X.K tg J fp it tn) (st : tn 0 s.heap) (hf : ∀ b ∈ fp, FpOk X pins H b) (q : rLC own.length fr g tt te σ J H Q)
    (hRR : ∀ D C s' H' , s.heap.objs.size ≤ C → (∃ m, s'.heap.Ns C m) → H' C = none → Inv X pins σ H' s' → Q D H' → RR (.ref D) C (.ok .next) s') :
    wpAny (model X.prog X.w) X.A (newList []) (fun acc s₃ => wpAny (model X.prog X.w) X.A (newFunctionEnv scope X.env.globals cl [] X.env.qual none .none (some X.env)) (fun cenv s₄ =>
      codeAny (model X.prog X.w) X.A (.compStart (.ListComp elt [⟨tg, iter, ifs, 0⟩] scope pos) 0 (.ref it) acc { cenv with scope := relabel scope X.env }) (RR acc cenv.locals) s₄) E s₃) E s := by
  refine wpAny_newObj_type (wpAny_newFunctionEnv hcell (by intro y hy; simp at hy) (fun h₁ hns₁ hsb₁ => ?_) Z.kind)
  dsimp only at hns₁ hsb₁ ⊢
  generalize hH2 : s.heap.push { cls := .type "list", dict := none, data := .seq ([] : List Value).toArray } = H2 at hns₁ hsb₁ ⊢
  have hC : H2.objs.size = s.heap.objs.size + 1 := by rw [← hH2, Heap.size_push]
  have hCle : s.heap.objs.size ≤ H2.objs.size := by rw [hC]; exact Nat.le_succ _
  have hDC : s.heap.objs.size ≠ H2.objs.size := by rw [hC]; exact Nat.ne_of_lt (Nat.lt_succ_self _)
  have old : ∀ b o, s.heap.get? b = some o → h₁.get? b = some o := fun b o e =>
    hsb₁.extBut b o (Nat.ne_of_lt (Nat.lt_of_lt_of_le (Heap.lt_size e) hCle)) (Heap.get?_push_of_some _ (hH2 ▸ Heap.get?_push_of_some _ e))
  have hD : h₁.get? s.heap.objs.size = some { cls := .type "list", dict := none, data := .seq ([] : List Value).toArray } :=
    hsb₁.extBut _ _ hDC (Heap.get?_push_of_some _ (hH2 ▸ Heap.get?_push_size _ rfl))
  have ho := T.obj _ _ st
  have frD : H s.heap.objs.size = none := I.hok.fresh (Nat.le_refl _)
  have frC : H H2.objs.size = none := I.hok.fresh hCle
  obtain ⟨W, ⟨m0, w0⟩, turn⟩ := q s.heap.objs.size frD
  have hok1 : HOk X.prog X.w (upd H s.heap.objs.size (.lst [])) h₁ := I.hok.laid old (Nat.le_refl _) ⟨Nat.zero_le _, [], 0, .nil, hD⟩
  have un1 : Un (frs X.stack) fp H (upd H s.heap.objs.size (.lst [])) s.heap h₁ := Un.laid old (Nat.le_refl _) frD
  have C1 : upd H s.heap.objs.size (.lst []) H2.objs.size = none := by rw [upd_ne (Ne.symm hDC)]; exact frC
  have fpD : ∀ b ∈ fp, b ≠ s.heap.objs.size := fun b hb z => by
    obtain ⟨o, e, _⟩ := ho b hb
    exact absurd (Heap.lt_size e) (by rw [z]; exact Nat.lt_irrefl _)
  have J0 : ∀ t, 0 < t → Inv (compX X scope cl H2.objs.size N' fp s H) [] (nfS own.length fr σ) (upd H s.heap.objs.size (.lst [])) { s with heap := h₁, toks := t } := fun t ht =>
    comp_inv I Z hCle hf ho rfl I.bare un1 ⟨_, hns₁⟩ (fun x c v e ⟨o, e1, e2⟩ => ⟨o, old c o e1, e2⟩) C1 hok1 ht
  have st1 : tn 0 h₁ := T.keep _ _ _ st fun b _ o e => old b o e
  have loop : ∀ s₃ : Shared, s₃ = { s with heap := h₁, toks := s.toks + ([] : List (Str × Value)).length } →
      codeAny (model X.prog X.w) X.A (.compLoop (.ListComp elt [⟨tg, iter, ifs, 0⟩] scope pos) 0 (.ref it) (.ref s.heap.objs.size) (compEnvC scope cl H2.objs.size X.env)) (RR (.ref s.heap.objs.size) H2.objs.size) s₃ := by
    rintro s₃ rfl
    generalize hX : compX X scope cl H2.objs.size N' fp s H = X' at J0
    have hg' : PG X' tg g := by rw [← hX]; exact hg _
    have ht' : PTs X' ifs tt := by rw [← hX]; exact ht _
    have he' : PE X' elt te := by rw [← hX]; exact he _
    have eP : X'.prog = X.prog := by rw [← hX]
    have eW : X'.w = X.w := by rw [← hX]
    have eK : X'.K = X.K := by rw [← hX]
    have eA : X'.A = X.A := by rw [← hX]
    have eE : X'.env = compEnvC scope cl H2.objs.size X.env := by rw [← hX]
    have eX : X'.xe = fun _ _ => False := by rw [← hX]
    have eC : Cm X' := by rw [← hX]; exact hc _
    have fpX : ∀ {H' : Hp}, (∀ b ∈ fp, H' b = none) → ∀ b ∈ fp, FpOk X' [] H' b := fun hn b hb => by
      rw [← hX]
      have ok := comp_ok I Z hCle hf ho
      refine ⟨hn b hb, (ok.exf b hb).1, ok.exfs b hb, .inl hb, (ok.exf b hb).2, fun p hp => absurd (show p ∈ ([] : List (Addr × Obj)) from hp) (by simp)⟩
    refine compLoop_any (fun n s' => ∃ i acc H', Inv X' [] (nfS own.length fr σ) H' s' ∧ tn i s'.heap ∧ (∀ b ∈ fp, H' b = none) ∧ W i n acc H') ?_ m0 ⟨0, [], _, J0 _ (by have := I.tk; omega), st1, fun b hb => by rw [upd_ne (fpD b hb)]; exact (hf b hb).1, w0⟩
    rintro n s3 ⟨i, acc, H3, I3, st3, fr3, w3⟩
    obtain ⟨hDa, turn3⟩ := turn i n acc H3 w3
    rcases turn3 with ⟨stop, qn⟩ | ⟨go, step⟩
    · have := T.done X' eP eW eK eC i [] s3 _ H3 (fun _ _ => False) I3 (fpX fr3) st3 stop
      rw [eA] at this
      refine thn this fun r s4 ⟨hr, I4⟩ => ?_
      subst hr
      show RR _ _ _ _
      have I4' : Inv (compX X scope cl H2.objs.size N' fp s H) [] (nfS own.length fr σ) H3 s4 := by rw [hX]; exact I4
      obtain ⟨m, hm, _⟩ := I4'.loc
      exact hRR _ _ s4 H3 hCle ⟨m, hm⟩ I4'.free (comp_out I hf I4') qn
    · have := T.item X' eP eW eK eC i [] s3 _ H3 (fun _ _ => False) I3 (fpX fr3) st3 go
      rw [eA] at this
      refine thn this fun r s4 ⟨u, hr, h4⟩ => ?_
      subst hr
      show wpAny _ _ (letOwnedTupleGo tg (.ref it) u) _ _ s4
      refine thn h4 fun _ s5 ⟨x, H5, I5, r5, y5, st5, fr5⟩ => ?_
      have I5' := I5.pinned (fpX fr5) (T.obj _ _ st5)
      have back : ∀ {σ7 : St} {H7 : Hp} {s7 : Shared}, Inv X' ([] ++ pinsAt fp s5.heap) σ7 H7 s7 → tn (i + 1) s7.heap ∧ ∀ b ∈ fp, H7 b = none := fun {σ7 H7 s7} I7 => by
        refine ⟨T.keep _ _ _ st5 fun b hb o e => (I7.pin (b, o) (List.mem_append_right _ (List.mem_append_right _ (mem_pinsAt hb e)))).1, fun b hb => ?_⟩
        obtain ⟨o, e, d⟩ := T.obj _ _ st5 b hb
        exact (I7.pin (b, o) (List.mem_append_right _ (List.mem_append_right _ (mem_pinsAt hb e)))).2.1
      have g5 := hg' _ s5 _ H5 x u _ I5' r5 (step x H5 y5)
      rw [eP, eW, eA, eE, eX] at g5
      refine thn g5 fun _ s6 ⟨σ6, H6, I6, nf6, q6⟩ => ?_
      have t6 := ht' _ s6 σ6 H6 _ I6 q6
      rw [eP, eW, eA, eE, eX] at t6
      refine thn t6 fun ok s7 ⟨H7, I7, q7⟩ => ?_
      have again : ∀ {H8 : Hp} {s8 : Shared} {acc8 : List V}, Inv X' ([] ++ pinsAt fp s5.heap) σ6 H8 s8 → (∃ m', m' < n ∧ W (i + 1) m' acc8 H8) →
          ∃ m, m < n ∧ ∃ i acc H', Inv X' [] (nfS own.length fr σ) H' s8 ∧ tn i s8.heap ∧ (∀ b ∈ fp, H' b = none) ∧ W i m acc H' := fun {H8 s8 acc8} I8 ⟨m', hm, w8⟩ =>
        ⟨m', hm, i + 1, acc8, H8, I8.unpinned.weak nf6.1.symm nf6.2, (back I8).1, (back I8).2, w8⟩
      cases ok with
      | false =>
        have q7' : ∃ m', m' < n ∧ W (i + 1) m' acc H7 := by rw [if_neg Bool.false_ne_true] at q7; exact q7
        show if false = true then _ else _
        rw [if_neg Bool.false_ne_true]
        exact again I7 q7'
      | true =>
        rw [if_pos rfl] at q7
        show if true = true then _ else _
        rw [if_pos rfl]
        have e7 := he' _ s7 σ6 H7 _ I7 q7
        rw [eP, eW, eA, eE, eX] at e7
        refine thn e7 fun yv s8 ⟨y, H8, I8, r8, hD8, hz8, m', hm, w8⟩ => ?_
        have a8 := mt_append _ s8 σ6 H8 (.ref s.heap.objs.size) [y] (.ref s.heap.objs.size) [yv] (fun _ H9 => H9 = upd H8 s.heap.objs.size (.lst (acc ++ [y]))) I8 rfl (.cons r8 .nil) ⟨_, acc, y, rfl, rfl, hD8, hz8, rfl⟩
        rw [eP, eW, eA, eX] at a8
        refine thn a8 fun _ s9 ⟨_, H9, I9, _, e9⟩ => ?_
        subst e9
        exact again I9 ⟨m', hm, w8⟩
  exact codeAny_compStart_list (loop _ rfl) (T.self _ 0 _ _ _ st1 (loop _ rfl))

theorem pe_lc (hc : X.calm = true) (Z : CompN X scope cl own fr N') (hcell : ∀ y ∈ scope.names, y.2 ≠ .cell) (hnames : ∀ x ∈ scope.names, x.2 = .local → scope.names.lookup x.1 = some .local) (hclos : closureFor scope X.env = pure cl)
    (hi : PI X tg iter wi) (hg : ∀ C fp s H, PG (compX X scope cl C N' fp s H) tg g) (ht : ∀ C fp s H, PTs (compX X scope cl C N' fp s H) ifs tt) (he : ∀ C fp s H, PE (compX X scope cl C N' fp s H) elt te)
    (hs : ∀ x, foldedSetIterable iter X.env x = pure x := by intro _; rfl) : PE X (.ListComp elt [⟨tg, iter, ifs, 0⟩] scope pos) (tLC wi own.length fr g tt te) := by
  intro pins s σ H Q I h
  rw [eval_ListComp]
  refine wpAny_comprehension_free (use := none) rfl hs hclos Z.kind hnames (thn (hi pins s σ H _ I h) fun v s1 h1 => thn h1 fun itv s2 h2 => ?_)
  obtain ⟨it, fp, tn, J, H2, e, I2, T, st2, f2, q2⟩ := h2
  subst e
  refine comp_block (Cm := fun X => X.calm = true) (fun _ => hc) Z hcell (fun C => hg C _ _ _) (fun C => ht C _ _ _) (fun C => he C _ _ _) I2 T.toP st2 f2 q2 (RR := fun acc C => compPost (model X.prog X.w) X.A X.xe none (EP X pins σ Q) acc C) fun D C s' H' hC ⟨m, hm⟩ fC I' q' => ?_
  exact ⟨m, hm, fun h' hs' => ⟨.ref D, H', comp_gone I2 hC I' fC hs', rfl, q'⟩⟩
/-- x = [..], x a plain local name, on one row: the stores are exchanged -/
def tSetLC (i : Nat) (wi : TI) (k : Nat) (fr : List Nat) (g : TG) (tt : TT) (te : TE) : TS := fun D σ H => wi σ H fun J H1 => rLC k fr g tt te σ J H1 fun a H' => D.nx (σ.set i (some (.ref a))) H'
end
end L2

set_option Elab.async false
set_option linter.all false
set_option maxRecDepth 100000
/-! Rules for texts over the layer. -/
namespace L2
open PySem PySem.Spec PyProof.Rows
open Builtin Builtin.Str

section
variable {X : Cx}

theorem vals_str : ∀ {ys : List Str} {us : List Value}, Vals (ys.map V.str) us → ∃ l : List (Str × Tok), us = strValues l ∧ l.map (·.1) = ys
  | [], us, r => by
    rw [List.map_nil] at r
    cases r
    exact ⟨[], rfl, rfl⟩
  | y :: ys, us, r => by
    rw [List.map_cons] at r
    cases r with
    | cons r1 r2 =>
      obtain ⟨t, e⟩ := r1
      obtain ⟨l, e1, e2⟩ := vals_str r2
      subst e
      subst e1
      exact ⟨(y, t) :: l, rfl, by rw [List.map_cons, e2]⟩

/-! ### split -/

/-! ### join -/
def rJoin (K : PySem.W.Frag) : V → List V → Hp → VK → Prop := fun x vs H Q => ∃ z a ys, x = .str z ∧ vs = [.ref a] ∧ SqL K H a (ys.map V.str) ∧ (ys.map (·.length)).sum + ys.length * z.length ≤ sizeLine ∧ Q (.str (Txt.join z ys)) H
theorem join_fold (z : Str) : ∀ (ys : List Str) (n : Nat), ys.foldl (fun (n : Nat) (s : Str) => n + s.length + z.length) n = n + ((ys.map (·.length)).sum + ys.length * z.length)
  | [], n => by simp
  | y :: ys, n => by
    rw [List.foldl_cons, join_fold z ys, List.map_cons, List.sum_cons, List.length_cons, Nat.succ_mul]
    omega
theorem mt_join : MtR X "str.join" (rJoin X.K) := by
  intro pins s σ H x vs v us Q I rx rv h
  obtain ⟨z, a, ys, rfl, rfl, hq, hz, q⟩ := h
  obtain ⟨t, rfl⟩ := rx
  obtain ⟨u, rfl, ru⟩ := rv.one
  cases ru
  obtain ⟨its, r, pl, hn⟩ := I.list hq
  obtain ⟨l, rfl, e⟩ := vals_str r
  refine wpAny_with_toks (n := 1) I.tk (SC.join (texts := ys) pl.isList e ?_ fun t' k htk => ⟨.str (Txt.join z ys), H, I.tok _ htk, ⟨_, rfl⟩, q⟩)
  unfold JoinOk tooLong
  rw [← Array.foldl_toList, List.toList_toArray, join_fold, Nat.zero_add]
  simpa using hz

/-! ### strip, startswith, find, lower -/
def rS2 (f : Str → Str → V) : V → List V → Hp → VK → Prop := fun x vs H Q => ∃ z y, x = .str z ∧ vs = [.str y] ∧ z.length ≤ sizeLine ∧ Q (f z y) H
theorem mt_rstrip : MtR X "str.rstrip" (rS2 fun z y => .str (Txt.rstripChars z y)) := by
  intro pins s σ H x vs v us Q I rx rv h
  obtain ⟨z, y, rfl, rfl, hz, q⟩ := h
  obtain ⟨t, rfl⟩ := rx
  obtain ⟨u, rfl, t2, rfl⟩ := rv.one
  exact wpAny_with_toks (n := 1) I.tk (SC.rstripChars (fun t' k htk => ⟨.str _, H, I.tok _ htk, ⟨_, rfl⟩, q⟩) hz)
theorem mt_lstrip : MtR X "str.lstrip" (rS2 fun z y => .str (Txt.lstripChars z y)) := by
  intro pins s σ H x vs v us Q I rx rv h
  obtain ⟨z, y, rfl, rfl, hz, q⟩ := h
  obtain ⟨t, rfl⟩ := rx
  obtain ⟨u, rfl, t2, rfl⟩ := rv.one
  exact wpAny_with_toks (n := 1) I.tk (SC.lstripChars (fun t' k htk => ⟨.str _, H, I.tok _ htk, ⟨_, rfl⟩, q⟩) hz)
theorem mt_startswith : MtR X "str.startswith" (rS2 fun z y => .bl (Txt.startswith z y)) := by
  intro pins s σ H x vs v us Q I rx rv h
  obtain ⟨z, y, rfl, rfl, hz, q⟩ := h
  obtain ⟨t, rfl⟩ := rx
  obtain ⟨u, rfl, t2, rfl⟩ := rv.one
  exact SC.startswith ⟨.bl _, H, I, rfl, q⟩
theorem mt_endswith : MtR X "str.endswith" (rS2 fun z y => .bl (Txt.endswith z y)) := by
  intro pins s σ H x vs v us Q I rx rv h
  obtain ⟨z, y, rfl, rfl, hz, q⟩ := h
  obtain ⟨t, rfl⟩ := rx
  obtain ⟨u, rfl, t2, rfl⟩ := rv.one
  exact SC.endswith ⟨.bl _, H, I, rfl, q⟩
theorem mt_lower : MtR X "str.lower" (fun x vs H Q => ∃ z, x = .str z ∧ vs = [] ∧ z.length ≤ 1000000 ∧ Q (.str (Txt.lower z)) H) := by
  intro pins s σ H x vs v us Q I rx rv h
  obtain ⟨z, rfl, rfl, hz, q⟩ := h
  obtain ⟨t, rfl⟩ := rx
  cases rv.zero
  exact SCL.lower (by omega) fun _ => ⟨.str _, H, I.tok _, ⟨_, rfl⟩, q⟩

/-! ### replace, both arguments written texts -/
theorem pe_replace {o : Expr} {to : TE} {y z : Str} {jy jz : Nat} {py pz apos cpos : Pos} (ho : PE X o to) (hyz : (y == z) = false) (hzl : z.length ≤ 14)
    (hbase : attributeBase o "replace" X.env (eval o X.env) = eval o X.env := by rfl) (hline : (apos.endLine == cpos.line) = true := by rfl) :
    PE X (.Call (.Attribute o "replace" apos) [.Constant (.str y) jy py, .Constant (.str z) jz pz] [] cpos) (fun σ H Q => to σ H fun x H1 => ∃ w, x = .str w ∧ w.length ≤ 1000000 ∧ Q (.str (Txt.replace w y z)) H1) := by
  intro pins s σ H Q I h
  refine wpAny_Call_method_late hbase (by rfl) hline rfl (thn (ho pins s σ H _ I h) fun v s1 ⟨x, H1, I1, r1, q1⟩ => ?_)
  obtain ⟨w, rfl, hw, q⟩ := q1
  obtain ⟨t, rfl⟩ := r1
  refine ⟨"str", "str.replace", PySem.F.plainAttrs_str, F.slot_str_replace, F.type_str_replace, typeIs_str _ _ _, (fun _ e => nomatch e), ?_⟩
  refine Calls.callWith_builtin (by rfl) (Calls.evalArgs_plain ?_)
  refine Calls.spliced_cons (Calls.Constant_str (k := jy) (pos := py) ?_)
  refine Calls.spliced_cons (Calls.Constant_str (k := jz) (pos := pz) ?_)
  refine Calls.spliced_nil ?_
  have h0 := I1.tk
  refine wpAny_with_toks (n := 1) (by show 1 ≤ s1.toks + 1 + 1; omega) (SC.replaceW (Nat.pos_iff_ne_zero.mp h0) (Nat.succ_ne_zero _) (Nat.ne_of_lt (Nat.lt_succ_self _)) hyz (by omega) hzl fun t' k htk => ?_)
  exact ⟨.str (Txt.replace w y z), H1, (I1.tok _ htk), ⟨_, rfl⟩, q⟩

/-! ### text * number -/

/-! ### slices of a text -/

/-! ### a text walked sign by sign -/
def Its (z : Str) : It := ⟨fun i _ => i < z.length, fun i H x H' => H' = H ∧ ∃ c, z.cps[i]? = some c ∧ x = .str ⟨#[c]⟩, fun i _ => z.length ≤ i⟩
def iStr (tl : TE) : TI := fun σ H R => tl σ H fun x H1 => ∃ z, x = .str z ∧ R (Its z) H1
theorem turn_str {P : Program} {w : World} {K : PySem.W.Frag} {x : Str} {px : Pos} (z : Str) (it : Addr) (ty : String) (t : Tok) (hty : ty = "str_ascii_iterator" ∨ ty = "str_iterator") :
    Turn P w K (.Name x px) (Its z) [it] it (fun i h => h.IsStrIter it ty z t i) where
  mem := by simp
  obj := fun i h st b hb => by
    have e : b = it := by simpa using hb
    subst e
    obtain ⟨o, ho, _, hd⟩ := st
    exact ⟨o, ho, fun v z => by rw [hd] at z; cases z⟩
  keep := fun i h h' st k => by
    obtain ⟨o, ho, r⟩ := st
    exact ⟨o, k it (by simp) o ho, r⟩
  item := by
    intro X hP hw hK hc i pins s σ H E I hf st hg
    subst hP hw hK
    obtain ⟨f0, f1, f2, f3, f4, f5⟩ := hf it (by simp)
    have hi : i < z.cps.size := hg
    have hx : z.cps[i]? = some z.cps[i] := by simp [hi]
    have fin : ∀ h', h'.IsStrIter it ty z t (i + 1) → Heap.SameBut it s.heap h' → ∃ u, (some (Value.str ⟨#[z.cps[i]]⟩ s.toks) : Option Value) = some u ∧
        wpAny (model X.prog X.w) X.A (letOwnedTupleGo (.Name x px) (.ref it) u) (fun _ s2 => ∃ x H', Inv X pins σ H' s2 ∧ RelV x u ∧ (Its z).yld i H x H' ∧ s2.heap.IsStrIter it ty z t (i + 1) ∧ ∀ b ∈ [it], H' b = none) E { s with heap := h', toks := s.toks + 1 } :=
      fun h' st' sb => ⟨_, rfl, wpAny_pure ⟨.str ⟨#[z.cps[i]]⟩, H, I.turned (fun b o hb e => (sb.2 b hb).trans e) f0 f1 f3 f4 f5, ⟨_, rfl⟩, ⟨rfl, _, hx, rfl⟩, st', fun b hb => (hf b hb).1⟩⟩
    rcases hty with rfl | rfl
    · exact wpAny_pyNext_ascii_item st hx fin
    · exact wpAny_pyNext_wide_item st hx fin
  done := by
    intro X hP hw hK hc i pins s σ H E I hf st hg
    subst hP hw hK
    obtain ⟨f0, f1, f2, f3, f4, f5⟩ := hf it (by simp)
    have hx : z.cps[i]? = none := by
      have : z.cps.size ≤ i := hg
      simp [this]
    rcases hty with rfl | rfl
    · exact wpAny_pyNext_ascii_end (I.ok.hd hc) st hx fun h' eb => ⟨rfl, I.turned (t' := s.toks) (fun b o hb e => eb b o hb e) f0 f1 f3 f4 f5⟩
    · exact wpAny_pyNext_wide_end (I.ok.hd hc) st hx fun h' eb => ⟨rfl, I.turned (t' := s.toks) (fun b o hb e => eb b o hb e) f0 f1 f3 f4 f5⟩
  self := by
    intro A i s Q E st h
    rcases hty with rfl | rfl
    · exact wpAny_pyIter_striter_ascii st h
    · exact wpAny_pyIter_striter_wide st h
theorem pi_str {l : Expr} {tl : TE} {x : Str} {px : Pos} (hl : PE X l tl) : PI X (.Name x px) l (iStr tl) := by
  intro pins s σ H R I h
  refine thn (hl pins s σ H _ I h) fun v s1 ⟨y, H1, I1, r1, q1⟩ => ?_
  obtain ⟨z, rfl, q⟩ := q1
  obtain ⟨t, rfl⟩ := r1
  have fin : ∀ ty, (ty = "str_ascii_iterator" ∨ ty = "str_iterator") → PIE X pins σ (.Name x px) R (.ref s1.heap.objs.size) { s1 with heap := s1.heap.push { cls := .type ty, data := .fields #[.str z t, .int 0 0] } } := fun ty hty => by
    refine ⟨s1.heap.objs.size, [s1.heap.objs.size], _, _, H1, rfl, I1.kept (t' := s1.toks) fun b o e => Heap.get?_push_of_some _ e, turn_str z _ ty t hty, ⟨_, Heap.get?_push_size _ rfl, rfl, rfl⟩, fun b hb => ?_, q⟩
    have e : b = s1.heap.objs.size := by simpa using hb
    subst e
    exact I1.fpOk (Nat.le_refl _) (I1.hok.fresh (Nat.le_refl _))
  cases ha : z.cps.all (· < 128)
  · exact wpAny_pyIter_wide ha (fin _ (.inr rfl))
  · exact wpAny_pyIter_ascii ha (fin _ (.inl rfl))

/-! ### all of a list of truths -/
theorem vals_bl_get : ∀ {bs : List Bool} {us : List Value} {i : Nat} {v : Value}, Vals (bs.map V.bl) us → us[i]? = some v → ∃ b, bs[i]? = some b ∧ v = .bool b
  | [], _, _, _, r, e => by
    rw [List.map_nil] at r
    cases r
    simp at e
  | b :: bs, us, i, v, r, e => by
    rw [List.map_cons] at r
    cases r with
    | cons r1 r2 =>
      cases i with
      | zero =>
        simp at e
        subst e
        exact ⟨b, rfl, r1⟩
      | succ i =>
        obtain ⟨c, h1, h2⟩ := vals_bl_get (i := i) r2 (by simpa using e)
        exact ⟨c, by simpa using h1, h2⟩
theorem all_range (bs : List Bool) : ((List.range bs.length).all fun i => bs.getD i true) = bs.all id := by
  rw [Bool.eq_iff_iff, List.all_eq_true, List.all_eq_true]
  constructor
  · intro h b hb
    obtain ⟨i, hi, rfl⟩ := List.getElem_of_mem hb
    have := h i (List.mem_range.mpr hi)
    rw [List.getD_eq_getElem?_getD, List.getElem?_eq_getElem hi] at this
    exact this
  · intro h i hi
    have hi' := List.mem_range.mp hi
    rw [List.getD_eq_getElem?_getD, List.getElem?_eq_getElem hi']
    exact h _ (List.getElem_mem hi')
theorem call_all (hc : X.calm = true) : CallR X (.builtin "all") (fun xs H Q => ∃ (a : Addr) (bs : List Bool), xs = [.ref a] ∧ SqL X.K H a (bs.map V.bl) ∧ Q (.bl (bs.all id)) H) := by
  intro pins s σ H xs us Q I r h
  obtain ⟨a, bs, rfl, hq, q⟩ := h
  obtain ⟨u, rfl, rx⟩ := vals1 r
  cases rx
  obtain ⟨its, r', pl, hz⟩ := I.list hq
  have hlen : its.toArray.size = bs.length := by
    have := r'.length
    rw [List.length_map] at this
    rw [List.size_toArray, this]
  have lt : a < s.heap.objs.size := by
    obtain ⟨o, n, e, _⟩ := pl
    exact Heap.lt_size e
  refine wpAny_with_toks (n := 1) I.tk (call_all_walk ?_)
  refine wpAny_pyIter_list pl.isList ?_
  refine ⟨s.heap.objs.size, _, _, _, _, _, fun i => bs.getD i true, rfl, Walks.list (A := X.A.in1) (I.ok.hd hc) s.heap.objs.size a (Nat.ne_of_lt lt) its.toArray, ⟨⟨_, Heap.get?_push_size _ rfl, rfl, rfl⟩, ?_⟩, ?_, fun h' tk kp htk => ?_⟩
  · obtain ⟨o, n, e, c, _, d⟩ := pl
    exact ⟨o, Heap.get?_push_of_some _ e, c, n, d⟩
  · intro i v s' Q' E' hP hQ
    have hP' : its[i]? = some v := by simpa using hP
    obtain ⟨b, hb, rfl⟩ := vals_bl_get r' hP'
    have hQ' : Q' (bs.getD i true) s' := hQ
    rw [List.getD_eq_getElem?_getD, hb] at hQ'
    exact wpAny_truthy_bool hQ'
  · rw [hlen, all_range]
    refine ⟨.bl _, H, I.kept (fun b o e => kp b o ?_ (Heap.get?_push_of_some _ e)) htk, rfl, q⟩
    simp only [List.mem_singleton]
    exact Nat.ne_of_lt (Heap.lt_size e)
end

/-! ### values as data -/
mutual
inductive Den (K : PySem.W.Frag) (H : Hp) : V → PyData → Prop where
  | non : Den K H .non .none
  | bl (b : Bool) : Den K H (.bl b) (.bool b)
  | int (i : Int) : Den K H (.int i) (.int i)
  | str (x : Str) (h : PyData.strOk x = true) : Den K H (.str x) (.str x)
  | lst {a : Addr} {xs : List V} {ds : List PyData} : SqL K H a xs → DenAll K H xs ds → Den K H (.ref a) (.list ds)
  | tup {a : Addr} {xs : List V} {ds : List PyData} : SqT K H a xs → DenAll K H xs ds → Den K H (.ref a) (.tuple ds)
inductive DenAll (K : PySem.W.Frag) (H : Hp) : List V → List PyData → Prop where
  | nil : DenAll K H [] []
  | cons {x : V} {xs : List V} {d : PyData} {ds : List PyData} : Den K H x d → DenAll K H xs ds → DenAll K H (x :: xs) (d :: ds)
end

section
variable {X : Cx} {pins : List (Addr × Obj)} {σ : St} {H : Hp} {s : Shared}
mutual
theorem Den.reads (I : Inv X pins σ H s) : ∀ {x : V} {d : PyData} {u : Value}, Den X.K H x d → RelV x u → ∃ as, Reads s.heap u d as
  | _, _, _, .non, r => by cases r; exact ⟨_, .none⟩
  | _, _, _, .bl b, r => by cases r; exact ⟨_, .bool b⟩
  | _, _, _, .int i, r => by obtain ⟨t, rfl⟩ := r; exact ⟨_, .int i t⟩
  | _, _, _, .str x _, r => by obtain ⟨t, rfl⟩ := r; exact ⟨_, .str x t⟩
  | _, _, _, .lst hq hd, r => by
    cases r
    obtain ⟨its, rv, ⟨o, n, e, c, _, d⟩, _⟩ := I.list hq
    obtain ⟨as, ra⟩ := DenAll.reads I hd rv
    exact ⟨_, .list e c d (by simpa using ra)⟩
  | _, _, _, .tup hq hd, r => by
    cases r
    obtain ⟨its, rv, ⟨o, e, c, n, d⟩, _⟩ := I.tuple hq
    obtain ⟨as, ra⟩ := DenAll.reads I hd rv
    exact ⟨_, .tuple e c d (by simpa using ra)⟩
theorem DenAll.reads (I : Inv X pins σ H s) : ∀ {xs : List V} {ds : List PyData} {us : List Value}, DenAll X.K H xs ds → Vals xs us → ∃ as, ReadsAll s.heap us ds as
  | _, _, _, .nil, r => by cases r; exact ⟨_, .nil⟩
  | _, _, _, .cons h hs, r => by
    cases r with
    | cons r1 r2 =>
      obtain ⟨as, a⟩ := Den.reads I h r1
      obtain ⟨bs, b⟩ := DenAll.reads I hs r2
      exact ⟨_, .cons a b⟩
end
end
mutual
theorem eqv_refl : ∀ d : PyData, d.canLay0 = true → PyData.eqv d d = true
  | .none, _ => rfl
  | .bool b, _ => by simp [PyData.eqv]
  | .int i, _ => by simp [PyData.eqv]
  | .str x, _ => by simp [PyData.eqv]
  | .list xs, h => by simp only [PyData.eqv]; exact eqvAll_refl xs (by simpa [PyData.canLay0] using h)
  | .tuple xs, h => by simp only [PyData.eqv]; exact eqvAll_refl xs (by simpa [PyData.canLay0] using h)
  | .dict _, h => by simp [PyData.canLay0] at h
theorem eqvAll_refl : ∀ ds : List PyData, PyData.canLayAll0 ds = true → PyData.eqvAll ds ds = true
  | [], _ => rfl
  | d :: ds, h => by
    simp only [PyData.canLayAll0, Bool.and_eq_true] at h
    simp only [PyData.eqvAll, Bool.and_eq_true]
    exact ⟨eqv_refl d h.1, eqvAll_refl ds h.2⟩
end
mutual
theorem Den.lay {K : PySem.W.Frag} {H : Hp} : ∀ {x : V} {d : PyData}, Den K H x d → d.canLay0 = true
  | _, _, .non => rfl
  | _, _, .bl _ => rfl
  | _, _, .int _ => rfl
  | _, _, .str _ h => h
  | _, _, .lst _ h => by simp only [PyData.canLay0]; exact h.lay
  | _, _, .tup _ h => by simp only [PyData.canLay0]; exact h.lay
theorem DenAll.lay {K : PySem.W.Frag} {H : Hp} : ∀ {xs : List V} {ds : List PyData}, DenAll K H xs ds → PyData.canLayAll0 ds = true
  | _, _, .nil => rfl
  | _, _, .cons h hs => by simp only [PyData.canLayAll0, Bool.and_eq_true]; exact ⟨h.lay, hs.lay⟩
end
section
variable {X : Cx}
end

/-! ### comprehensions over lists and numbers, nothing changed by them -/
theorem same_new {H : Hp} {p : Addr} (h : H p = none) (o : HO) : Same H (upd H p o) := fun b u q => by rw [upd_ne (ne_of_none q h)]; exact q
/-- what stood ahead of the list that grows -/
theorem same_grow {H H' : Hp} {D : Addr} {o : HO} (hD : H D = none) (e : Same H H') : Same H (upd H' D o) := fun b u q => by
  rw [upd_ne (ne_of_none q hD)]
  exact e b u q
theorem lc_seq {J : It} {xs : List V} {k : Nat} {fr : List Nat} {g : TG} {tt : TT} {te : TE} {σ : St} {H0 : Hp} {Q : Addr → Hp → Prop} (p : V → Bool) (f : V → V) (hl : xs.length ≤ sizeLine)
    (hgo : ∀ i H, Same H0 H → i < xs.length → J.go i H) (hyl : ∀ i H x H', i < xs.length → Same H0 H → J.yld i H x H' → H' = H ∧ xs[i]? = some x) (hst : ∀ i H, Same H0 H → xs.length ≤ i → J.stop i H)
    (ht : ∀ x ∈ xs, ∀ H', Same H0 H' → ∀ (C : V → Hp → Prop) (N : Hp → Prop), (∀ H4, Same H' H4 → p x = true → C (f x) H4) → (∀ H3, Same H' H3 → p x = false → N H3) →
      g x (nfS k fr σ) H' fun σ2 H2 => nfLe k fr σ σ2 ∧ tt σ2 H2 fun b H3 => if b = true then te σ2 H3 C else N H3)
    (hq : ∀ D H', H0 D = none → Same H0 H' → H' D = some (.lst ((xs.filter p).map f)) → Q D H') : rLC k fr g tt te σ J H0 Q := by
  intro D hD
  refine ⟨fun i m acc H => m = xs.length - i ∧ i ≤ xs.length ∧ acc = ((xs.take i).filter p).map f ∧ H D = some (.lst acc) ∧ Same H0 H, ⟨xs.length, by simp, Nat.zero_le _, by simp, upd_same, same_new hD _⟩, ?_⟩
  rintro i m acc H ⟨rfl, hi, rfl, hDa, sm⟩
  refine ⟨hDa, ?_⟩
  by_cases hlt : i < xs.length
  · refine .inr ⟨hgo i H sm hlt, fun x H' y => ?_⟩
    obtain ⟨e, hxi⟩ := hyl i H x H' hlt sm y
    subst e
    have hmem : x ∈ xs := List.mem_of_getElem? hxi
    have htk := take_succ_filter p xs i x hxi
    refine ht x hmem H' sm _ _ (fun H4 s4 hp => ?_) (fun H3 s3 hp => ?_)
    · refine ⟨s4 _ _ hDa, ?_, xs.length - (i + 1), by omega, rfl, hlt, ?_, upd_same, ?_⟩
      · rw [List.length_map]
        have := List.length_filter_le p (xs.take i)
        rw [List.length_take] at this
        omega
      · rw [htk, hp]; simp
      · exact same_grow hD (sm.trans s4)
    · refine ⟨xs.length - (i + 1), by omega, rfl, hlt, ?_, s3 _ _ hDa, sm.trans s3⟩
      rw [htk, hp]; simp
  · have e : i = xs.length := by omega
    subst e
    rw [List.take_length] at hDa ⊢
    exact .inl ⟨hst _ H sm (Nat.le_refl _), hq D H hD sm hDa⟩
theorem lc_list {K : PySem.W.Frag} {a : Addr} {xs : List V} {k : Nat} {fr : List Nat} {g : TG} {tt : TT} {te : TE} {σ : St} {H0 : Hp} {Q : Addr → Hp → Prop} (p : V → Bool) (f : V → V) (hx : SqL K H0 a xs) (hl : xs.length ≤ sizeLine)
    (ht : ∀ x ∈ xs, ∀ H', Same H0 H' → ∀ (C : V → Hp → Prop) (N : Hp → Prop), (∀ H4, Same H' H4 → p x = true → C (f x) H4) → (∀ H3, Same H' H3 → p x = false → N H3) →
      g x (nfS k fr σ) H' fun σ2 H2 => nfLe k fr σ σ2 ∧ tt σ2 H2 fun b H3 => if b = true then te σ2 H3 C else N H3)
    (hq : ∀ D H', H0 D = none → Same H0 H' → H' D = some (.lst ((xs.filter p).map f)) → Q D H') : rLC k fr g tt te σ (Itl K a) H0 Q :=
  lc_seq p f hl (fun i H sm hi => ⟨xs, xs[i], sm.seq hx, by simp [hi]⟩) (fun i H x H' _ sm y => ⟨y.1, by obtain ⟨e, y⟩ := y; exact y xs (sm.seq hx)⟩) (fun i H sm hi => ⟨xs, sm.seq hx, hi⟩) ht hq
theorem lc_str {z : Str} {k : Nat} {fr : List Nat} {g : TG} {tt : TT} {te : TE} {σ : St} {H0 : Hp} {Q : Addr → Hp → Prop} (p : V → Bool) (f : V → V) (hl : z.length ≤ sizeLine)
    (ht : ∀ c ∈ z.cps.toList, ∀ H', Same H0 H' → ∀ (C : V → Hp → Prop) (N : Hp → Prop), (∀ H4, Same H' H4 → p (.str ⟨#[c]⟩) = true → C (f (.str ⟨#[c]⟩)) H4) → (∀ H3, Same H' H3 → p (.str ⟨#[c]⟩) = false → N H3) →
      g (.str ⟨#[c]⟩) (nfS k fr σ) H' fun σ2 H2 => nfLe k fr σ σ2 ∧ tt σ2 H2 fun b H3 => if b = true then te σ2 H3 C else N H3)
    (hq : ∀ D H', H0 D = none → Same H0 H' → H' D = some (.lst (((z.cps.toList.map fun c => V.str ⟨#[c]⟩).filter p).map f)) → Q D H') : rLC k fr g tt te σ (Its z) H0 Q := by
  have hz : (z.cps.toList.map fun c => V.str ⟨#[c]⟩).length = z.length := by rw [List.length_map]; simp [Str.length]
  refine lc_seq p f (by rw [hz]; exact hl) (fun i H sm hi => by rw [hz] at hi; exact hi) (fun i H x H' hi sm y => ?_) (fun i H sm hi => by rw [hz] at hi; exact hi) (fun x hx => ?_) hq
  · obtain ⟨e, c, h1, h2⟩ := y
    refine ⟨e, ?_⟩
    rw [List.getElem?_map, h2]
    have : z.cps.toList[i]? = some c := by simpa using h1
    rw [this]; rfl
  · obtain ⟨c, hc, rfl⟩ := List.mem_map.mp hx
    exact ht c hc

/-! ### the names of a block, shown by computation -/
def FreeOk (X : Cx) (scope : Scope) (N' : List Str) : Nat → List Nat → List Str → Prop
  | _, [], [] => True
  | k, j :: fr, x :: xs => X.N[j]? = some x ∧ N'[k]? = some x ∧ (X.env.kindOf x = some .cell ∨ X.env.kindOf x = some .free) ∧
      ((relabel scope X.env).names.lookup x = some .cell ∨ (relabel scope X.env).names.lookup x = some .free) ∧ FreeOk X scope N' (k + 1) fr xs
  | _, _, _ => False
theorem FreeOk.get {X : Cx} {scope : Scope} {N' : List Str} : ∀ {k : Nat} {fr : List Nat} {xs : List Str}, FreeOk X scope N' k fr xs → ∀ (i j : Nat), fr[i]? = some j → ∃ x, X.N[j]? = some x ∧ N'[k + i]? = some x ∧
    (X.env.kindOf x = some .cell ∨ X.env.kindOf x = some .free) ∧ ((relabel scope X.env).names.lookup x = some .cell ∨ (relabel scope X.env).names.lookup x = some .free)
  | _, [], [], _, i, j, e => by simp at e
  | _, [], _ :: _, h, _, _, _ => h.elim
  | _, _ :: _, [], h, _, _, _ => h.elim
  | k, j0 :: fr, x :: xs, h, i, j, e => by
    obtain ⟨h1, h2, h3, h4, h5⟩ := h
    cases i with
    | zero =>
      simp at e
      subst e
      exact ⟨x, h1, h2, h3, h4⟩
    | succ i =>
      have := h5.get i j (by simpa using e)
      have e2 : k + 1 + i = k + (i + 1) := by omega
      rw [e2] at this
      exact this
theorem compN {X : Cx} {scope : Scope} {cl : List (Str × Addr)} {own : List Str} {fr : List Nat} {xs N' : List Str} (cells : CellsIn X.env cl) (free : FreeOk X scope N' own.length fr xs)
    (nd : N'.Nodup) (all : ((relabel scope X.env).names.all fun y => y.2 == .local || y.2 == .globalImplicit || (cl.lookup y.1).isSome) = true := by rfl)
    (kind : scope.kind = .function := by rfl) (len : N'.length = own.length + fr.length := by rfl) : CompN X scope cl own fr N' := by
  refine ⟨kind, cells, fun x hx => ?_, nd, len, fun i j e => free.get i j e⟩
  have key : ∀ k, (relabel scope X.env).names.lookup x = some k → (k = .cell ∨ k = .free) → ∃ c, cl.lookup x = some c := fun k e hk => by
    have hm := PySem.mem_of_lookup e
    have := List.all_eq_true.mp all _ hm
    rcases hk with rfl | rfl
    · simp only [Bool.or_eq_true] at this
      rcases this with (z | z) | z
      · exact absurd z (by decide)
      · exact absurd z (by decide)
      · exact Option.isSome_iff_exists.mp z
    · simp only [Bool.or_eq_true] at this
      rcases this with (z | z) | z
      · exact absurd z (by decide)
      · exact absurd z (by decide)
      · exact Option.isSome_iff_exists.mp z
  rcases hx with e | e
  · exact key _ e (.inl rfl)
  · exact key _ e (.inr rfl)
end L2

namespace L2
open PySem PySem.Spec PyProof.Rows
/-- a def that keeps its promise, with all that a call of it asks -/
structure Def (P : Program) (w : World) (K : PySem.W.Frag) (mg : Str → Option Value) (base : Heap) (k : Nat) (x : Str) (ps : List Str) (sp : Sp) : Prop where
  ex : ∃ f fd, FnOk P w K mg base CX0 k f fd ps sp ∧ mg x = some (.ref f) ∧ PySem.W.keepIn K (.ref f) = true ∧ Binds K fd ps []
section
variable {X : Cx} {k : Nat} {x : Str} {ps : List Str} {sp : Sp} {e : Expr} {es : List Expr} {te : TE} {t : TA} {p pos : Pos}
theorem pe_callD (D : Def X.prog X.w X.K X.mg X.base k x ps sp) (hr : Room k X.A) (ha : PA X (e :: es) t) (hg : Gl X x := by exact rfl) (hdb : (x == ("__debug__" : Str)) = false := by decide)
    (he : starEach (e :: es) X.env = (false, eval e X.env) :: starEach es X.env := by rfl) (hpl : (backTo pos (starEach es X.env)).any (·.1) = false := by rfl) :
    PE X (.Call (.Name x p) (e :: es) [] pos) (tCall sp [] E0 t) := by
  obtain ⟨f, fd, G, hm, hk, hb⟩ := D.ex
  exact pe_call G hr hg hm hk hb .nil pass0 ha hdb he hpl

/-! ### argument lists, their stars seen by the first constructor alone -/
def isStar : Expr → Bool
  | .Starred .. => true
  | _ => false
theorem star_cons {e : Expr} {es : List Expr} {env : Env} (h : isStar e = false) : starEach (e :: es) env = (false, eval e env) :: starEach es env := by
  cases e <;> first | rfl | cases h
def noStars : List Expr → Bool
  | [] => true
  | e :: es => !isStar e && noStars es
theorem stars_any {pos : Pos} {env : Env} : ∀ {es : List Expr}, noStars es = true → (backTo pos (starEach es env)).any (·.1) = false
  | [], _ => rfl
  | e :: es, h => by
    unfold noStars at h
    rw [Bool.and_eq_true, Bool.not_eq_true'] at h
    rw [star_cons h.1]
    exact (show (false || (backTo pos (starEach es env)).any (·.1)) = false by rw [stars_any h.2]; rfl)
theorem stars_all {pos : Pos} {env : Env} : ∀ {es : List Expr}, noStars es = true → (backTo pos (starEach es env)).all (fun x => !x.1) = true
  | [], _ => rfl
  | e :: es, h => by
    unfold noStars at h
    rw [Bool.and_eq_true, Bool.not_eq_true'] at h
    rw [star_cons h.1]
    exact (show (true && (backTo pos (starEach es env)).all (fun x => !x.1)) = true by rw [stars_all h.2]; rfl)
theorem pa (ha : PE X e te) (hr : PA X es t) (h : isStar e = false := by rfl) : PA X (e :: es) (tCons te t) := pa_cons ha hr (star_cons h)
theorem few {cpos : Pos} {env : Env} {es : List Expr} (h : noStars es = true) (hl : decide (es.length + ([] : List Keyword).length + (if ([] : List Keyword).isEmpty then 0 else 1) < 30) = true) :
    ((backTo cpos (starEach es env)).all (fun x => !x.1) && (backToKw cpos (keywordEach [] env)).all (fun x => x.1.isSome)
      && decide (es.length + ([] : List Keyword).length + (if ([] : List Keyword).isEmpty then 0 else 1) < 30)) = true := by
  rw [stars_all h, hl]
  rfl
theorem pm {o e : Expr} {es : List Expr} {to : TE} {t : TA} {name : Str} {apos cpos : Pos} {T id : String} {r : V → List V → Hp → VK → Prop} (pa : PlainAttrs T) (slot : Slot T name id) (hty : typeOf (.builtin id) = pure (.type "method_descriptor")) (hm : MtR X id r) (ho : PE X o to) (ha : PA X (e :: es) t)
    (hbase : attributeBase o name X.env (eval o X.env) = eval o X.env) (hst : noStars (e :: es) = true := by rfl) (hl : decide ((e :: es).length + ([] : List Keyword).length + (if ([] : List Keyword).isEmpty then 0 else 1) < 30) = true := by rfl)
    (hline : (apos.endLine == cpos.line) = true := by rfl) : PE X (.Call (.Attribute o name apos) (e :: es) [] cpos) (tBM X.K T r to t) := by
  have h2 : noStars es = true := by
    unfold noStars at hst
    rw [Bool.and_eq_true] at hst
    exact hst.2
  have h1 : isStar e = false := by
    unfold noStars at hst
    rw [Bool.and_eq_true, Bool.not_eq_true'] at hst
    exact hst.1
  exact pe_bm pa slot hty hm ho ha hbase (few hst hl) hline (star_cons h1) (stars_any h2)
/-- the receiver is no bare call without arguments (super()) -/
def plainBase : Expr → Bool
  | .Call (.Name x _) [] [] _ => x != Str.ofString "super"
  | _ => true
theorem base_of {o : Expr} {name : Str} {env : Env} {w : Sem Value} (h : plainBase o = true) : attributeBase o name env w = w := by
  unfold attributeBase
  split
  · rename_i id _ _
    have h : (id != Str.ofString "super") = true := h
    rw [h]
    rfl
  · rfl
theorem cD {k : Nat} {x : Str} {ps : List Str} {sp : Sp} (D : Def X.prog X.w X.K X.mg X.base k x ps sp) (hr : Room k X.A) (ha : PA X (e :: es) t) (hg : Gl X x := by exact rfl) (hdb : (x == ("__debug__" : Str)) = false := by decide)
    (hst : noStars (e :: es) = true := by rfl) : PE X (.Call (.Name x p) (e :: es) [] pos) (tCall sp [] E0 t) := by
  have h2 : noStars es = true := by
    unfold noStars at hst
    rw [Bool.and_eq_true] at hst
    exact hst.2
  have h1 : isStar e = false := by
    unfold noStars at hst
    rw [Bool.and_eq_true, Bool.not_eq_true'] at hst
    exact hst.1
  exact pe_callD D hr ha hg hdb (star_cons h1) (stars_any h2)
theorem cB {id : String} {r : List V → Hp → VK → Prop} (hc : CallR X (.builtin id) r) (hg : Gl X x) (hm : X.mg x = none) (hv : bootBuiltins x = some (.builtin id)) (ha : PA X (e :: es) t) (hn : x ≠ "__name__" := by decide) (hdb : (x == ("__debug__" : Str)) = false := by decide)
    (hst : noStars (e :: es) = true := by rfl) : PE X (.Call (.Name x p) (e :: es) [] pos) (tCB r t) := by
  have h2 : noStars es = true := by
    unfold noStars at hst
    rw [Bool.and_eq_true] at hst
    exact hst.2
  have h1 : isStar e = false := by
    unfold noStars at hst
    rw [Bool.and_eq_true, Bool.not_eq_true'] at hst
    exact hst.1
  exact pe_callB hc hg hm hv ha hn hdb (star_cons h1) (stars_any h2)
/-! ### isinstance of a written type -/
def rIsT (K : PySem.W.Frag) : List V → Hp → VK → Prop := fun xs H Q => ∃ x t T b, xs = [x, .ty T] ∧ TyOf K H x t ∧ PySem.W.kitOne K t (.type T) = some b ∧ Q (.bl b) H
theorem call_isT : CallR X (.builtin "isinstance") (rIsT X.K) := by
  intro pins s σ H xs us Q I r h
  obtain ⟨x, t, T, b, rfl, ty, e, q⟩ := h
  obtain ⟨u, v, rfl, rx, rv⟩ := r.two
  cases rv
  exact wpAny_with_toks (n := 1) I.tk (isinst_ok I rx ty e fun tk htk => ⟨.bl b, H, I.tok _ htk, rfl, q⟩)
theorem kit_same (K : PySem.W.Frag) (t : Value) : PySem.W.kitOne K t t = some true := by
  unfold PySem.W.kitOne
  rw [if_pos (beq_self_eq_true t)]
theorem pe_globS {x y : Str} {pos : Pos} (h : ∃ t, X.mg x = some (.str y t)) (hg : Gl X x := by exact rfl) (hd : (x == ("__debug__" : Str)) = false := by decide) : PE X (.Name x pos) (tC (.str y)) := by
  obtain ⟨t, e⟩ := h
  exact pe_glob hg e ⟨t, rfl⟩ hd
theorem pe_globI {x : Str} {y : Int} {pos : Pos} (h : ∃ t, X.mg x = some (.int y t)) (hg : Gl X x := by exact rfl) (hd : (x == ("__debug__" : Str)) = false := by decide) : PE X (.Name x pos) (tC (.int y)) := by
  obtain ⟨t, e⟩ := h
  exact pe_glob hg e ⟨t, rfl⟩ hd
end
end L2

set_option Elab.async false
set_option linter.all false
set_option maxRecDepth 100000
/-! The judgements as structures: the elaborator does not look behind them. -/
namespace L2
open PySem PySem.Spec PyProof.Rows
structure XE (X : Cx) (e : Expr) (t : TE) : Prop where
  h : PE X e t
structure XT (X : Cx) (e : Expr) (t : TT) : Prop where
  h : PT X e t
structure XW (X : Cx) (e : Expr) (t : TT) : Prop where
  h : PW X e t
structure XA (X : Cx) (e : List Expr) (t : TA) : Prop where
  h : PA X e t
structure XS (X : Cx) (st : Stmt) (t : TS) : Prop where
  h : PS X st t
structure XB (X : Cx) (st : List Stmt) (t : TS) : Prop where
  h : PSs X st t
structure XG (X : Cx) (e : Expr) (t : TG) : Prop where
  h : PG X e t
structure XGs (X : Cx) (e : List Expr) (t : TGs) : Prop where
  h : PGs X e t
structure XI (X : Cx) (tg it : Expr) (t : TI) : Prop where
  h : PI X tg it t
structure XO (X : Cx) (e : Option Expr) (t : TO) : Prop where
  h : PO X e t
structure XQ (X : Cx) (ifs : List Expr) (t : TT) : Prop where
  h : PTs X ifs t
theorem of_XB {X : Cx} {st : List Stmt} {t : TS} {D : Ends} {σ : St} {H : Hp} (h : XB X st t) (q : t D σ H) : ∃ t, PSs X st t ∧ t D σ H := ⟨t, h.h, q⟩
section
variable {X : Cx} {a b c o e : Expr} {ta tb tc te to : TE} {tA tB' : TT} {es : List Expr} {t : TA} {pos p p2 apos cpos : Pos} {x : Str}
/-! blocks -/
theorem xb0 : XB X [] tNext := ⟨pss_nil⟩
theorem xb1 {st : Stmt} {u : TS} (h : XS X st u) : XB X [st] u := ⟨pss_one h.h⟩
theorem xbc {st : Stmt} {sts : List Stmt} {u v : TS} (h : XS X st u) (r : XB X sts v) : XB X (st :: sts) (tSeq u v) := ⟨pss_cons h.h r.h⟩
theorem xret (h : XE X e te) : XS X (.Return (some e) pos) (tRet te) := ⟨ps_ret h.h⟩
theorem xif {f g : List Stmt} {tf tg : TS} (h : XT X c tA) (h1 : XB X f tf) (h2 : XB X g tg) : XS X (.If c f g pos) (tIfS tA tf tg) := ⟨ps_if h.h h1.h h2.h⟩
theorem xnever {st : Stmt} : XS X st tNever := ⟨ps_never⟩
theorem xexpr (h : XE X e te) (hs : swapsWith e none pos.line X.env = pure false := by rfl) : XS X (.Expr e pos) (tDrop te) := ⟨ps_expr h.h hs⟩
theorem xset {i : Nat} {pos' : Pos} (hN : X.N.Nodup) (hi : X.N[i]? = some x) (hx : Loc X.env.scope x) (he : XE X e te) (hs : swapsWith e (some (.Name x pos')) pos.line X.env = pure false := by rfl) (hf : X.fn x = true ∨ X.env.scope.names.lookup x = some .local := by first | exact .inl rfl | exact .inr rfl) :
    XS X (.Assign [.Name x pos'] e pos) (tAsg te (gName i)) := ⟨ps_set hN hi hx he.h hs hf⟩
theorem xgn {i : Nat} (hN : X.N.Nodup) (hi : X.N[i]? = some x) (hx : Loc X.env.scope x) (hf : X.fn x = true ∨ X.env.scope.names.lookup x = some .local := by first | exact .inl rfl | exact .inr rfl) : XG X (.Name x pos) (gName i) := ⟨pg_name hN hi hx hf⟩
theorem xgs0 : XGs X [] gNil := ⟨pgs_nil⟩
theorem xgsc {tg : TG} {tgs : TGs} (h1 : XG X e tg) (h2 : XGs X es tgs) (hs : (assignEach (e :: es) X.env).map (·.2) = assign e X.env :: (assignEach es X.env).map (·.2) := by rfl) : XGs X (e :: es) (gCons tg tgs) := ⟨pgs_cons h1.h h2.h hs⟩
theorem xasg {tg : Expr} {g : TG} (he : XE X e te) (hg : XG X tg g) (hs : swapsWithSole [tg] e pos.line X.env = pure false := by rfl) (hw : swappedStores [tg] e X.env = pure none := by rfl)
    (h1 : (assignEach [tg] X.env).map (·.2) = [assign tg X.env] := by rfl) : XS X (.Assign [tg] e pos) (tAsg te g) := ⟨ps_asg he.h hg.h hs hw h1⟩
theorem xfor {tg it : Expr} {body : List Stmt} {wi : TI} {g : TG} {tb : TS} (hp : PassesOwn (model X.prog X.w) X.A X.env X.xe) (hc : X.calm = true) (hi : XI X tg it wi) (hg : XG X tg g) (hb : XB X body tb)
    (hs : ∀ x, foldedSetIterable it X.env x = pure x := by intro _; rfl) : XS X (.For tg it body [] pos) (tFor wi g tb) := ⟨ps_for hp hc hi.h hg.h hb.h hs⟩
theorem xwhile {body : List Stmt} {tb : TS} (hp : PassesOwn (model X.prog X.w) X.A X.env X.xe) (hc : XT X c tA) (hb : XB X body tb) : XS X (.While c body [] pos) (tWhile tA tb) := ⟨ps_while hp hc.h hb.h⟩
theorem xgsub {i : Expr} {ti : TE} {t : TSet} (ho : XE X o to) (hi : XE X i ti) (hs : PSet X t)
    (ha : ∀ v, assign (.Subscript o i pos) X.env v = (do
      let ov ← holding [v] (eval o X.env)
      let iv ← holding [v, ov] (eval i X.env)
      standAt pos
      holding [v, ov, iv] (setItem ov iv v)
      release [v, ov, iv] []) := by intro _; rfl) : XG X (.Subscript o i pos) (gSub to ti t) := ⟨pg_sub ho.h hi.h hs ha⟩
/-! iterators -/
theorem xir1 {tg : Expr} (hg : Gl X "range") (hm : X.mg "range" = none) (ha : XA X [a] t) (h : isStar a = false := by rfl) : XI X tg (.Call (.Name "range" p) [a] [] pos) (iRng1 t) := ⟨pi_range1 hg hm ha.h (star_cons h)⟩
theorem xil {tg l : Expr} {tl : TE} (h : XE X l tl) : XI X tg l (iList X.K tl) := ⟨pi_list h.h⟩
theorem xis {l : Expr} {tl : TE} {px : Pos} (h : XE X l tl) : XI X (.Name x px) l (iStr tl) := ⟨pi_str h.h⟩
/-! tests -/
theorem xcmpT {op : CmpOp} {r : R2} (ho : OpR X (compareOp op) r) (ha : XE X a ta) (hb : XE X b tb) (hm : behindInMarks op b = false) : XT X (.Compare a [op] [b] pos) (tTest (tOp r ta tb)) := ⟨pt_cmpR ho ha.h hb.h hm⟩
theorem xnotT (h : XT X a tA) : XT X (.UnaryOp .Not a pos) (tNot tA) := ⟨pt_not h.h⟩
theorem xvalT (h : XE X e te) (he : ∀ whole, isTrue e X.env whole = (do let v ← whole; standAt e.pos; holding [v] (truthy v)) := by intro _; rfl) : XT X e (tB te) := ⟨pt_val h.h he⟩
theorem xand1 (h : XT X a tA) : XW X (.BoolOp .And [a] pos) tA := ⟨pw_and1 h.h⟩
theorem xor1 (h : XT X a tA) : XW X (.BoolOp .Or [a] pos) tA := ⟨pw_or1 h.h⟩
theorem xand {rest : List Expr} (h : XT X a tA) (h2 : XW X (.BoolOp .And (b :: rest) pos) tB') : XW X (.BoolOp .And (a :: b :: rest) pos) (tAnd tA tB') := ⟨pw_and h.h h2.h⟩
theorem xor {rest : List Expr} (h : XT X a tA) (h2 : XW X (.BoolOp .Or (b :: rest) pos) tB') : XW X (.BoolOp .Or (a :: b :: rest) pos) (tOr tA tB') := ⟨pw_or h.h h2.h⟩
theorem XW.xt (h : XW X e tA) : XT X e tA := ⟨h.h.pt⟩
/-! expressions -/
theorem xnon {j : Nat} : XE X (.Constant .none j pos) (tC .non) := ⟨pe_non⟩
theorem xbl {k : Bool} {j : Nat} : XE X (.Constant (.bool k) j pos) (tC (.bl k)) := ⟨pe_bl⟩
theorem xint {i : Int} {j : Nat} : XE X (.Constant (.int i) j pos) (tC (.int i)) := ⟨pe_int⟩
theorem xstr {y : Str} {j : Nat} : XE X (.Constant (.str y) j pos) (tC (.str y)) := ⟨pe_str⟩
theorem xv (i : Nat) (hN : X.N[i]? = some x := by rfl) (hv : Vis X.env.scope x := by first | exact Or.inl rfl | exact Or.inr (Or.inl rfl) | exact Or.inr (Or.inr rfl)) (hd : (x == ("__debug__" : Str)) = false := by decide)
    (hcd : (x == ("__classdict__" : Str)) = false := by decide) : XE X (.Name x pos) (tVar i) := ⟨pv i hN hv hd hcd⟩
theorem xgS {y : Str} (h : ∃ t, X.mg x = some (.str y t)) (hg : Gl X x := by exact rfl) (hd : (x == ("__debug__" : Str)) = false := by decide) : XE X (.Name x pos) (tC (.str y)) := ⟨pe_globS h hg hd⟩
theorem xgI {y : Int} (h : ∃ t, X.mg x = some (.int y t)) (hg : Gl X x := by exact rfl) (hd : (x == ("__debug__" : Str)) = false := by decide) : XE X (.Name x pos) (tC (.int y)) := ⟨pe_globI h hg hd⟩
theorem xty {T : String} (hm : X.mg x = none) (hv : bootBuiltins x = some (.type T)) (hg : Gl X x := by exact rfl) (hn : x ≠ "__name__" := by decide) (hd : (x == ("__debug__" : Str)) = false := by decide) : XE X (.Name x pos) (tC (.ty T)) := ⟨pe_bltn hg hm hv rfl hn hd⟩
theorem xop {op : Operator} {r : R2} (ho : OpR X (binaryOp op) r) (ha : XE X a ta) (hb : XE X b tb) : XE X (.BinOp a op b pos) (tOp r ta tb) := ⟨pe_op ho ha.h hb.h⟩
theorem xun {op : UnaryOp} {r : V → Hp → VK → Prop} (ho : UnR X (unaryOp op) r) (ha : XE X a ta) : XE X (.UnaryOp op a pos) (tUn r ta) := ⟨pe_un ho ha.h⟩
theorem xcmp {op : CmpOp} {r : R2} (ho : OpR X (compareOp op) r) (ha : XE X a ta) (hb : XE X b tb) (hm : behindInMarks op b = false) : XE X (.Compare a [op] [b] pos) (tOp r ta tb) := ⟨pe_cmpR ho ha.h hb.h hm⟩
theorem xone {op} (h : XE X a ta) : XE X (.BoolOp op [a] pos) ta := ⟨pe_one h.h⟩
theorem xandV {rest : List Expr} (h : XE X a ta) (h2 : XE X (.BoolOp .And (b :: rest) pos) tb) : XE X (.BoolOp .And (a :: b :: rest) pos) (tAndV ta tb) := ⟨pe_and h.h h2.h⟩
theorem xo0 : XO X none tNoPart := ⟨po_none⟩
theorem xo1 (h : XE X e te) : XO X (some e) (tPart te) := ⟨po_some h.h⟩
theorem xsl {r : V → Option Int → Option Int → Hp → VK → Prop} {lo hi : Option Expr} {tl th : TO} (hr : SlR X r) (he : XE X e te) (hl : XO X lo tl) (hu : XO X hi th) : XE X (.Subscript e (.Slice lo hi none p2) pos) (tSl r te tl th) := ⟨pe_slice hr he.h hl.h hu.h⟩
theorem xix {r : R2} (hr : IxR X r) (ha : XE X a ta) (hb : XE X b tb) (hs : PlainIx b) : XE X (.Subscript a b pos) (tOp r ta tb) := ⟨pe_ix hr ha.h hb.h hs⟩
theorem xa0 : XA X [] tNil := ⟨pa_nil⟩
theorem xac (ha : XE X e te) (hr : XA X es t) (h : isStar e = false := by rfl) : XA X (e :: es) (tCons te t) := ⟨pa ha.h hr.h h⟩
theorem xlst (h : XA X es t) : XE X (.List es pos) (tLst t) := ⟨pe_lst h.h⟩
theorem xtup {k} (h : XA X es t) : XE X (.Tuple es k pos) (tTup t) := ⟨pe_tup h.h⟩
theorem xcD {k : Nat} {ps : List Str} {sp : Sp} (D : Def X.prog X.w X.K X.mg X.base k x ps sp) (hr : Room k X.A) (ha : XA X (e :: es) t) (hg : Gl X x := by exact rfl) (hdb : (x == ("__debug__" : Str)) = false := by decide) (hst : noStars (e :: es) = true := by rfl) :
    XE X (.Call (.Name x p) (e :: es) [] pos) (tCall sp [] E0 t) := ⟨cD D hr ha.h hg hdb hst⟩
theorem xcB {id : String} {r : List V → Hp → VK → Prop} (hc : CallR X (.builtin id) r) (hm : X.mg x = none) (hv : bootBuiltins x = some (.builtin id)) (ha : XA X (e :: es) t) (hg : Gl X x := by exact rfl) (hn : x ≠ "__name__" := by decide) (hdb : (x == ("__debug__" : Str)) = false := by decide)
    (hst : noStars (e :: es) = true := by rfl) : XE X (.Call (.Name x p) (e :: es) [] pos) (tCB r t) := ⟨cB hc hg hm hv ha.h hn hdb hst⟩
theorem xcTy {T : String} {r : List V → Hp → VK → Prop} (hc : CallR X (.type T) r) (hm : X.mg x = none) (hv : bootBuiltins x = some (.type T)) (ha : XA X (e :: es) t) (hg : Gl X x := by exact rfl) (hn : x ≠ "__name__" := by decide) (hdb : (x == ("__debug__" : Str)) = false := by decide)
    (hst : noStars (e :: es) = true := by rfl) : XE X (.Call (.Name x p) (e :: es) [] pos) (tCB r t) := by
  have h1 : isStar e = false := by
    have := hst
    unfold noStars at this
    rw [Bool.and_eq_true, Bool.not_eq_true'] at this
    exact this.1
  have h2 : noStars es = true := by
    have := hst
    unfold noStars at this
    rw [Bool.and_eq_true] at this
    exact this.2
  exact ⟨pe_callTy hc hg hm hv ha.h hn hdb (star_cons h1) (stars_any h2)⟩
theorem xm {name : Str} {T id : String} {r : V → List V → Hp → VK → Prop} (pa : PlainAttrs T) (slot : Slot T name id) (hty : typeOf (.builtin id) = pure (.type "method_descriptor")) (hm : MtR X id r) (ho : XE X o to) (ha : XA X (e :: es) t)
    (hb : plainBase o = true := by rfl) (hst : noStars (e :: es) = true := by rfl) (hl : decide ((e :: es).length + ([] : List Keyword).length + (if ([] : List Keyword).isEmpty then 0 else 1) < 30) = true := by rfl)
    (hline : (apos.endLine == cpos.line) = true := by rfl) : XE X (.Call (.Attribute o name apos) (e :: es) [] cpos) (tBM X.K T r to t) := ⟨pm pa slot hty hm ho.h ha.h (base_of hb) hst hl hline⟩
theorem xm0 {name : Str} {T id : String} {r : V → List V → Hp → VK → Prop} (pa : PlainAttrs T) (slot : Slot T name id) (hty : typeOf (.builtin id) = pure (.type "method_descriptor")) (hm : MtR X id r) (ho : XE X o to)
    (hb : plainBase o = true := by rfl) (hline : (apos.endLine == cpos.line) = true := by rfl) : XE X (.Call (.Attribute o name apos) [] [] cpos) (tBM0 X.K T r to) := ⟨pe_bm0 pa slot hty hm ho.h (base_of hb) hline⟩
theorem xrepl {y z : Str} {jy jz : Nat} {py pz : Pos} (ho : XE X o to) (hyz : (y == z) = false) (hzl : z.length ≤ 14) (hb : plainBase o = true := by rfl) (hline : (apos.endLine == cpos.line) = true := by rfl) :
    XE X (.Call (.Attribute o "replace" apos) [.Constant (.str y) jy py, .Constant (.str z) jz pz] [] cpos) (fun σ H Q => to σ H fun x H1 => ∃ w, x = .str w ∧ w.length ≤ 1000000 ∧ Q (.str (Txt.replace w y z)) H1) := ⟨pe_replace ho.h hyz hzl (base_of hb) hline⟩
/-! comprehensions -/
theorem xq0 : XQ X [] tYes := ⟨pts_nil⟩
theorem xq1 (h : XT X c tA) : XQ X [c] tA := ⟨pts_one h.h⟩
section
variable {scope : Scope} {cl : List (Str × Addr)} {own : List Str} {fr : List Nat} {N' : List Str} {tg iter elt : Expr} {ifs : List Expr} {wi : TI} {g : TG} {tt : TT}
theorem xlc (hc : X.calm = true) (Z : CompN X scope cl own fr N') (hcell : ∀ y ∈ scope.names, y.2 ≠ .cell) (hnames : ∀ x ∈ scope.names, x.2 = .local → scope.names.lookup x.1 = some .local) (hclos : closureFor scope X.env = pure cl)
    (hi : XI X tg iter wi) (hg : ∀ C fp s H, XG (compX X scope cl C N' fp s H) tg g) (ht : ∀ C fp s H, XQ (compX X scope cl C N' fp s H) ifs tt) (he : ∀ C fp s H, XE (compX X scope cl C N' fp s H) elt te)
    (hs : ∀ x, foldedSetIterable iter X.env x = pure x := by intro _; rfl) : XE X (.ListComp elt [⟨tg, iter, ifs, 0⟩] scope pos) (tLC wi own.length fr g tt te) :=
  ⟨pe_lc hc Z hcell hnames hclos hi.h (fun C fp s H => (hg C fp s H).h) (fun C fp s H => (ht C fp s H).h) (fun C fp s H => (he C fp s H).h) hs⟩
end
end
end L2

set_option Elab.async false
set_option linter.all false
set_option maxRecDepth 100000
namespace L2
open PySem PySem.Spec PyProof.Rows
structure RoomH (k : Nat) (A : Around) : Prop where
  dp : A.depth + 3 * k + 5 < recursionLimit
  un : A.units + 16 * k + 200 < cLine
theorem RoomH.mono {j k : Nat} {A : Around} (r : RoomH k A) (h : j ≤ k) : RoomH j A := ⟨by have := r.dp; omega, by have := r.un; omega⟩
theorem RoomH.deeper {k : Nat} {A : Around} (r : RoomH (k + 1) A) (env : Env) : RoomH k (A.deeper env) :=
  ⟨by have := r.dp; show A.depth + 1 + 3 * k + 5 < _; omega, by have := r.un; show A.units + 3 + 16 * k + 200 < _; omega⟩
theorem RoomH.depth {k : Nat} {A : Around} (r : RoomH k A) : A.depth < recursionLimit := by have := r.dp; omega

def cxH (CX : CXT) (P : Program) (w : World) (K : PySem.W.Frag) (mg : Str → Option Value) (base : Heap) (N : List Str) (qual : Str) (scope : Scope) (f : Addr) (cd : Value) (A : Around) (outer : List Env) (s : Shared) (H : Hp) (E : XK) : Cx :=
  { cxOf CX P w K mg base N qual scope f cd A outer s H E with calm := false }
theorem inv_startH {CX : CXT} {P : Program} {w : World} {K : PySem.W.Frag} {mg : Str → Option Value} {base : Heap} {N ps : List Str} {qual : Str} {scope : Scope} {f : Addr} {cd : Value} {A : Around} {outer : List Env} {s s1 : Shared} {H : Hp} {E : XK} {us : List Value} {vs : List V}
    (S : FnScope N ps scope) (e0 : Env0 P w K mg base A outer s H) (hl : vs.length = ps.length) (r : Vals vs us) (htk : 0 < s1.toks)
    (x : InCallC s s.heap.objs.size (bindL (envOfC qual scope s.heap.objs.size f cd).kindOf (ps.zip us) fun _ => none) (cellsFrom (s.heap.objs.size + 1) scope.names []) (bindC (envOfC qual scope s.heap.objs.size f cd).kindOf (ps.zip us) fun _ => none) s1) :
    Inv (cxH CX P w K mg base N qual scope f cd A outer s H E) [] (start N vs) H s1 := by
  have I := inv_start (CX := CX) (A := { A with handled := none }) (E := E) S rfl ⟨e0.frames, e0.mod, e0.bs, e0.bsz, e0.funs, e0.frf, e0.hok, e0.bare, e0.tk⟩ hl r htk x
  exact ⟨⟨I.ok.mod, I.ok.kind, I.ok.glob, I.ok.blt, I.ok.above, I.ok.inj, I.ok.has, I.ok.cab, (fun z => nomatch z), I.ok.frames, I.ok.stk, I.ok.exf, I.ok.bs, I.ok.bsz, I.ok.noex, I.ok.exfs, I.ok.funs, I.ok.frf⟩,
    I.os, I.bare, I.base, I.loc, I.cell, I.free, I.freeC, I.pin, I.hok, I.len, I.tk⟩

section
variable {X : Cx} {CX : CXT} {k : Nat} {f C : Addr} {fd : FuncData} {ps : List Str} {sp : Sp} {dvs : List V} {ds : List Value} {E : XK} {x m : Str} {p pos apos : Pos} {e o : Expr} {es : List Expr} {ta : TE} {t : TA}


end
section
variable {P : Program} {w : World} {K : PySem.W.Frag} {mg : Str → Option Value} {base : Heap}

end
section
variable {X : Cx} {k : Nat} {x : Str} {ps : List Str} {sp : Sp} {e : Expr} {es : List Expr} {te : TE} {t : TA} {p pos : Pos}
end
end L2

set_option Elab.async false
set_option linter.all false
set_option maxRecDepth 100000
/-! enumerate over a list, and a list by steps -/
namespace L2
open PySem PySem.Spec PyProof.Rows
section
variable {X : Cx} {pins : List (Addr × Obj)} {σ : St} {H : Hp} {s : Shared} {h' : Heap}
end
/-! ### isinstance of several written types -/
section
variable {X : Cx} {e l : Expr} {te : TE} {t : TA} {pos p p1 p2 p3 : Pos}
section
variable {scope : Scope} {cl : List (Str × Addr)} {C : Addr} {N' : List Str} {fp : List Addr} {s : Shared} {H : Hp}
end
end
end L2

set_option Elab.async false
set_option linter.all false
set_option maxRecDepth 100000
/-! sum, max, min of a list of numbers; zip; == of any data -/
namespace L2
open PySem PySem.Spec PyProof.Rows
section
variable {X : Cx} {pins : List (Addr × Obj)} {σ : St} {H : Hp} {s : Shared} {h' : Heap}
/-! ### == of any data -/
/-! ### zip of two lists -/
/-! ### xs[::-1], as it is -/
end
end L2

set_option Elab.async false
set_option linter.all false
set_option maxRecDepth 100000
/-! The flight of an exception that has no other exception behind it. -/
namespace L2
open PySem PySem.Spec PyProof.Rows
/-- as the rules of a flight say it, and no other exception is behind it -/
def TrL (h B : Heap) (e : Addr) (cls a0 fl : Value) : Prop :=
  ∃ (oe : Obj) (vs : Array Value) (T : Addr) (oT : Obj) (ts : Array Value), h.get? e = some oe ∧ oe.cls = cls ∧ vs[0]? = some a0 ∧ oe.data = .fields vs ∧ vs[1]? = some (.ref T) ∧ vs[2]? = some .none ∧ B.get? T = none ∧ T ≠ e ∧ h.get? T = some oT ∧ oT.data = .fields ts ∧ ts[3]? = some fl
structure FlyL (B : Heap) (l : List Env) (e : Addr) (cls a0 fl : Value) (h : Heap) : Prop where
  st : B.StaysIn h
  ne : B.get? e = none
  ff : h.FunFrames B l
  tr : TrL h B e cls a0 fl
section
variable {M : Model} {A : Around} {E : Value → Shared → Prop} {s : Shared} {B : Heap} {env : Env} {outer : List Env} {L e : Addr} {cls a0 fl : Value} {Q : Unit → Shared → Prop}
theorem put_one {h : Heap} {e : Addr} {oe ot : Obj} {vs : Array Value} (he : h.get? e = some oe) (hd : oe.data = .fields vs) (hn : ot.isFreed = false) (f : Obj → Obj) (hf : (f oe).isFreed = false) :
    ((h.push ot).update e f).get? e = some (f oe) ∧ ((h.push ot).update e f).get? h.objs.size = some ot ∧ ∀ b o, b ≠ e → h.get? b = some o → ((h.push ot).update e f).get? b = some o := by
  have hlt : e ≠ h.objs.size := Nat.ne_of_lt (Heap.lt_size he)
  refine ⟨Heap.get?_update_self f (Heap.get?_push_of_some ot he) hf, ?_, fun b o hb q => ?_⟩
  · rw [Heap.get?_update_other _ f hlt]; exact Heap.get?_push_size h hn
  · rw [Heap.get?_update_other _ f (Ne.symm hb)]; exact Heap.get?_push_of_some ot q
theorem entryL {oe : Obj} {vs : Array Value} {hv : Value} {nx : Bool} (hA : A.frames = some (env :: outer)) (ff : s.heap.FunFrames B (env :: outer)) (hL : env.frame = some L) (he : s.heap.get? e = some oe) (hB : B.StaysIn s.heap) (hn : B.get? e = none) (hd : oe.data = .fields vs)
    (h1 : 1 < vs.size) (h0 : vs[0]? = some a0) (h2 : vs[2]? = some .none) (k : ∀ h', FlyL B (env :: outer) e oe.cls a0 (rawInt L) h' → s.heap.UpToSlots h' → Q () { s with heap := h' }) :
    wpAny M A (do let a ← frameOf env; let pl ← entryPlaceOf L nx; let b ← EntryCells.newEntry hv a .none (rawInt L) .none pl; setField (.ref e) 1 b) Q E s := by
  have notF : e ∉ (env :: outer).filterMap (·.frame) := fun m => let ⟨_, o, q, z⟩ := ff.mem m; z vs (by rw [he] at q; cases q; exact hd)
  refine wpAny_bind (wpAny_frameOf_fun hA ff hL fun g hg => wpAny_bind (wpAny_entryPlaceOf fun pl hpl => ?_))
  obtain ⟨_, g1, g2⟩ := hg
  have ge : g.get? e = some oe := (g1 e notF).trans he
  have gB : B.StaysIn g := fun b o q => (g1 b fun m => by have := (ff.mem m).1; rw [q] at this; cases this).trans (hB b o q)
  unfold EntryCells.newEntry newFields
  refine wpAny_bind (wpAny_newObj_type (wpAny_setField (Heap.get?_push_of_some _ ge) hd h1 (k _ ?_ ?_)) (hpl.sizeOk5 _ _ _ _ _))
  all_goals
    obtain ⟨p1, p2, p3⟩ := put_one (ot := { cls := .type "traceback", dict := none, data := .fields ([hv, .ref L, .none, rawInt L, .none] ++ (if pl.isEmpty then List.replicate 6 Value.none else pl)).toArray }) ge hd rfl (Obj.mapFields (·.setIfInBounds 1 (Value.ref g.objs.size))) (Obj.isFreed_of_fields (Obj.data_mapFields hd _))
    have ne' : ∀ b o, s.heap.get? b = some o → (∀ ws, o.data ≠ .fields ws) → b ≠ e := fun b o q z y => by subst y; rw [he] at q; cases q; exact z vs hd
  · refine ⟨fun b o q => p3 b o (fun y => by rw [y, hn] at q; cases q) (gB b o q), hn, ff.of_keeps fun b o q z => ?_, ?_⟩
    · obtain ⟨sl, y⟩ := g2 b o q
      exact ⟨_, p3 b _ (ne' b o q z) y, rfl⟩
    · refine ⟨_, _, g.objs.size, _, _, p1, Obj.cls_mapFields _ _, ?_, Obj.data_mapFields hd _, ?_, ?_, gB.fresh, Nat.ne_of_gt (Heap.lt_size ge), p2, rfl, ?_⟩
      · rw [Array.getElem?_setIfInBounds_ne (by decide)]; exact h0
      · simp [h1]
      · rw [Array.getElem?_setIfInBounds_ne (by decide)]; exact h2
      · first | (simp; done) | (rcases hpl with rfl | ⟨_, _, _, _, _, _, _, rfl⟩ <;> simp)
  · intro b o q z
    obtain ⟨sl, y⟩ := g2 b o q
    exact ⟨sl, p3 b _ (ne' b o q z) y⟩
/-- the trace's mark of the frame goes -/
theorem unmarkT {h : Heap} {l : List Env} {x : Value} {oT : Obj} {T : Addr} {ts : Array Value} (F : h.FunFrames B l) (st : B.StaysIn h) (nT : B.get? T = none) (hT : h.get? T = some oT) (dT : oT.data = .fields ts) :
    (∀ b, b ≠ T → (h.update T (Obj.mapFields (·.setIfInBounds 3 x))).get? b = h.get? b) ∧ B.StaysIn (h.update T (Obj.mapFields (·.setIfInBounds 3 x))) ∧ (h.update T (Obj.mapFields (·.setIfInBounds 3 x))).FunFrames B l ∧ h.UpToSlots (h.update T (Obj.mapFields (·.setIfInBounds 3 x))) := by
  have oth : ∀ b, b ≠ T → (h.update T (Obj.mapFields (·.setIfInBounds 3 x))).get? b = h.get? b := fun b q => Heap.get?_update_other h _ (Ne.symm q)
  have ne' : ∀ b o, h.get? b = some o → (∀ ws, o.data ≠ .fields ws) → b ≠ T := fun b o q z y => by subst y; rw [hT] at q; cases q; exact z ts dT
  refine ⟨oth, fun b o q => (oth b fun y => by rw [y, nT] at q; cases q).trans (st b o q), F.of_keeps fun b o q z => ⟨o, (oth b (ne' b o q z)).trans q, rfl⟩, fun b o q z => ⟨o.slots, (oth b (ne' b o q z)).trans q⟩⟩
theorem noteL (hA : A.frames = some (env :: outer)) (hL : env.frame = some L) (F : FlyL B (env :: outer) e cls a0 .none s.heap) (k : ∀ h', FlyL B (env :: outer) e cls a0 (rawInt L) h' → s.heap.UpToSlots h' → Q () { s with heap := h' }) : wpAny M A (noteFrame (.ref e) env) Q E s := by
  obtain ⟨st, hn, ff, oe, vs, T, oT, ts, xe0, rfl, h0, xd0, h1, h2, nT, ne, hT, dT, h3⟩ := F
  obtain ⟨u1, u2, u3, u4⟩ := unmarkT (x := .none) ff st nT hT dT
  unfold noteFrame
  simp only [hL]
  refine wpAny_bind (wpAny_field xe0 xd0 h1 ?_)
  rw [if_pos (by simp)]
  refine wpAny_bind (wpAny_field hT dT h3 ?_)
  rw [if_neg (by simp [rawInt])]
  refine wpAny_bind (wpAny_setField hT dT (Array.getElem?_eq_some_iff.mp h3).1 ?_)
  exact entryL hA u3 hL ((u1 e (Ne.symm ne)).trans xe0) u2 hn xd0 (Array.getElem?_eq_some_iff.mp h1).1 h0 h2 fun h' x y => k h' x (u4.trans y)
theorem note0L {oe : Obj} {vs : Array Value} (hA : A.frames = some (env :: outer)) (ff : s.heap.FunFrames B (env :: outer)) (hL : env.frame = some L) (xe0 : s.heap.get? e = some oe) (hB : B.StaysIn s.heap) (hn : B.get? e = none) (xd0 : oe.data = .fields vs) (h1 : vs[1]? = some .none)
    (h0 : vs[0]? = some a0) (h2 : vs[2]? = some .none) (k : ∀ h', FlyL B (env :: outer) e oe.cls a0 (rawInt L) h' → s.heap.UpToSlots h' → Q () { s with heap := h' }) : wpAny M A (noteFrame (.ref e) env) Q E s := by
  unfold noteFrame
  simp only [hL]
  refine wpAny_bind (wpAny_field xe0 xd0 h1 ?_)
  rw [if_neg (by decide)]
  exact entryL hA ff hL xe0 hB hn xd0 (Array.getElem?_eq_some_iff.mp h1).1 h0 h2 k
theorem landL {l : List Env} (F : FlyL B l e cls a0 fl s.heap) (k : ∀ h', FlyL B l e cls a0 .none h' → s.heap.UpToSlots h' → Q () { s with heap := h' }) : wpAny M A (setFlight (.ref e) none) Q E s := by
  obtain ⟨st, hn, ff, oe, vs, T, oT, ts, xe0, hc, h0, xd0, h1, h2, nT, ne, hT, dT, h3⟩ := F
  have hz := (Array.getElem?_eq_some_iff.mp h3).1
  obtain ⟨u1, u2, u3, u4⟩ := unmarkT (x := (none : Option Addr).elim Value.none fun f => rawInt f) ff st nT hT dT
  unfold setFlight
  refine wpAny_bind (wpAny_field xe0 xd0 h1 ?_)
  rw [if_pos (by simp)]
  refine wpAny_setField hT dT hz (k _ ⟨u2, hn, u3, oe, vs, T, _, _, (u1 e (Ne.symm ne)).trans xe0, hc, h0, xd0, h1, h2, nT, ne, Heap.get?_update_self _ hT (Obj.isFreed_of_fields (Obj.data_mapFields dT _)), Obj.data_mapFields dT _, by simp [hz]⟩ u4)
theorem leaveL (hA : A.frames = some (env :: outer)) (hL : env.frame = some L) (F : FlyL B (env :: outer) e cls a0 .none s.heap) (k : ∀ h', FlyL B outer e cls a0 .none h' → s.heap.UpToSlots h' → Q () { s with heap := h' }) : wpAny M A (leaving env (.ref e)) Q E s := by
  unfold leaving
  refine wpAny_bind (noteL hA hL F fun h' F' up => landL F' fun h2 F2 up2 => k h2 ⟨F2.st, F2.ne, F2.ff.2.2, F2.tr⟩ (up.trans up2))
theorem leave0L {h : Heap} {args : List Value} (hA : A.frames = some (env :: outer)) (hL : env.frame = some L) (hB : B.StaysIn h) (ff : h.FunFrames B (env :: outer)) (hx : Heap.MadeExcOf h s.heap e cls args)
    (k : ∀ h' t, FlyL B outer e cls (.ref t) .none h' → s.heap.UpToSlots h' → Q () { s with heap := h' }) : wpAny M A (leaving env (.ref e)) Q E s := by
  obtain ⟨t, he, _, _⟩ := hx.there
  have hn : B.get? e = none := by
    cases q : B.get? e with
    | none => rfl
    | some o => have := hB e o q; rw [hx.new] at this; cases this
  unfold leaving
  refine wpAny_bind (note0L (a0 := .ref t) hA (ff.of_keeps fun b o q _ => ⟨o, hx.keeps b o q, rfl⟩) hL he (fun b o q => hx.keeps b o (hB b o q)) hn rfl rfl rfl rfl fun h' F' up => landL F' fun h2 F2 up2 => k h2 t ⟨F2.st, F2.ne, F2.ff.2.2, F2.tr⟩ (up.trans up2))
end
end L2

set_option Elab.async false
set_option linter.all false
set_option maxRecDepth 100000
/-! Exceptions of own classes: how one is made, leaves a def, passes on, is caught. -/
namespace L2
open PySem PySem.Spec PyProof.Rows
/-! ### an exception and its trace -/
def Tr (h : Heap) (e T : Addr) (cls a0 fl : Value) : Prop :=
  ∃ (oe : Obj) (vs : Array Value) (oT : Obj) (ts : Array Value), h.get? e = some oe ∧ (oe.cls = cls ∧ vs[0]? = some a0) ∧ oe.data = .fields vs ∧ vs[1]? = some (.ref T) ∧ T ≠ e ∧ h.get? T = some oT ∧ oT.data = .fields ts ∧ ts[3]? = some fl ∧ vs[2]? = some .none
section
variable {h h' B : Heap} {e T : Addr} {cls a0 fl : Value}
theorem Tr.traced (x : Tr h e T cls a0 fl) (hT : B.get? T = none) : TrL h B e cls a0 fl :=
  let ⟨oe, vs, oT, ts, he, hc, hd, h1, hne, hT', hdT, h3, h2⟩ := x
  ⟨oe, vs, T, oT, ts, he, hc.1, hc.2, hd, h1, h2, hT, hne, hT', hdT, h3⟩
theorem Tr.of (x : TrL h B e cls a0 fl) : ∃ T, B.get? T = none ∧ Tr h e T cls a0 fl :=
  let ⟨oe, vs, T, oT, ts, he, hc, h0, hd, h1, h2, hT, hne, hT', hdT, h3⟩ := x
  ⟨T, hT, oe, vs, oT, ts, he, ⟨hc, h0⟩, hd, h1, hne, hT', hdT, h3, h2⟩
theorem Tr.T_rec (x : Tr h e T cls a0 fl) : T ≠ e ∧ ∃ oT ts, h.get? T = some oT ∧ oT.data = .fields ts :=
  let ⟨_, _, oT, ts, _, _, _, _, hne, hT', hdT, _, _⟩ := x
  ⟨hne, oT, ts, hT', hdT⟩
theorem Tr.e_obj (x : Tr h e T cls a0 fl) : ∃ oe vs, h.get? e = some oe ∧ oe.cls = cls ∧ oe.data = .fields vs :=
  let ⟨oe, vs, _, _, he, hc, hd, _⟩ := x
  ⟨oe, vs, he, hc.1, hd⟩
end
/-! ### hiding: what the rules of a flight keep -/
theorem of_hid_none {h : Heap} {F : List Addr} {b : Addr} {o : Obj} (n : (PySem.W.hideAll h F).get? b = none) (e : h.get? b = some o) : b ∈ F :=
  Classical.byContradiction fun q => by rw [PySem.W.hideAll_get F e q] at n; cases n
theorem ObjOk.get {P : Program} {w : World} {H : Hp} {h : Heap} {a : Addr} {o : HO} (x : ObjOk P w H h a o) : ∃ ob, h.get? a = some ob := by
  cases o with
  | lst xs => obtain ⟨_, _, _, _, e⟩ := x; exact ⟨_, e⟩
  | tup xs => obtain ⟨_, _, _, _, e, _⟩ := x; exact ⟨_, e⟩
  | dK kvs => obtain ⟨_, _, _, _, o, _, _, e, _⟩ := x; exact ⟨_, e⟩
  | dT kvs => obtain ⟨_, _, _, _, o, _, _, e, _⟩ := x; exact ⟨_, e⟩
  | set S n => obtain ⟨o, _, _, _, e, _⟩ := x; exact ⟨_, e⟩
  | ins C dx fs => obtain ⟨_, _, _, e, _⟩ := x; exact ⟨_, e⟩
  | own y => exact x
  | xd fs => obtain ⟨_, ⟨_, _, _, e, _⟩, _⟩ := x; exact ⟨_, e⟩
  | rng lo hi => obtain ⟨_, _, _, e⟩ := x; exact ⟨_, e⟩
  | frz ob u => obtain ⟨e, _⟩ := x; exact ⟨_, e⟩
  | tbl ps => exact ⟨_, show h.get? a = some _ from x⟩
  | met f y => exact ⟨_, show h.get? a = some _ from x⟩
  | ext φ => obtain ⟨_, e, _⟩ := x; exact e
theorem HOk.none_of {P : Program} {w : World} {H : Hp} {h : Heap} {a : Addr} (ok : HOk P w H h) (n : h.get? a = none) : H a = none := by
  cases q : H a with
  | none => rfl
  | some o =>
    obtain ⟨ob, e⟩ := (ok a o q).get
    rw [n] at e; cases e
theorem HOk.fly {P : Program} {w : World} {H : Hp} {h h' : Heap} {F : List Addr} (ok : HOk P w H h) (hF : ∀ b ∈ F, H b = none) (st : (PySem.W.hideAll h F).StaysIn h') : HOk P w H h' := fun a o e =>
  (ok a o e).stay (fun b u hb q => st b u (PySem.W.hideAll_get F q fun m => by
    rcases hb with z | z
    · rw [← z, hF b m] at e; cases e
    · rw [hF b m] at z; cases z)) (fun _ q => q) fun _ _ q => q
theorem Un.fly {fs F : List Addr} {H₀ H : Hp} {h₀ h h' : Heap} (u : Un fs [] H₀ H h₀ h) (st : (PySem.W.hideAll h F).StaysIn h') (hin : ∀ b o, h₀.get? b = some o → b ∈ F → b ∈ fs)
    (hsl : ∀ b ∈ fs, ∀ o, h.get? b = some o → ∃ sl, h'.get? b = some { o with slots := sl }) : Un fs [] H₀ H h₀ h' where
  keep := fun b o e n hb hx => st b o (PySem.W.hideAll_get F (u.keep b o e n hb hx) fun m => hb (hin b o e m))
  slot := fun b o e n hb hx => by
    obtain ⟨sl, q⟩ := u.slot b o e n hb hx
    obtain ⟨sl', q'⟩ := hsl b hb _ q
    exact ⟨sl', q'⟩
  free := u.free
  there := fun b o e hx => by
    obtain ⟨o', q⟩ := u.there b o e hx
    by_cases m : b ∈ F
    · obtain ⟨sl, q'⟩ := hsl b (hin b o e m) o' q
      exact ⟨_, q'⟩
    · exact ⟨o', st b o' (PySem.W.hideAll_get F q m)⟩
  tups := u.tups
  frzs := u.frzs
  tbls := u.tbls
/-- a record that is there behind, and not among what is kept -/
theorem rec_new {h h' base : Heap} {stack : List Env} {ex : List Addr} {T : Addr} {oT : Obj} {ts : Array Value} (ff : h.FunFrames base stack) (up : h.UpToSlots h') (n : (PySem.W.hideAll h (frs stack ++ ex)).get? T = none)
    (hT : h'.get? T = some oT) (hd : oT.data = .fields ts) : h.get? T = none ∨ T ∈ ex := by
  cases q : h.get? T with
  | none => exact .inl rfl
  | some o =>
    rcases List.mem_append.mp (of_hid_none n q) with m | m
    · obtain ⟨_, o', ho', hnf⟩ := ff.mem m
      obtain ⟨sl, e'⟩ := up T o' ho' hnf
      rw [hT] at e'
      have z : oT = { o' with slots := sl } := Option.some.inj e'
      subst z
      exact absurd hd (hnf ts)
    · exact .inr m
theorem ff_hide {h base : Heap} {stack : List Env} {ex : List Addr} (ff : h.FunFrames base stack) : h.FunFrames (PySem.W.hideAll h (frs stack ++ ex)) stack :=
  PySem.W.funFrames_hide ff fun env he a q => List.mem_append_left _ (List.mem_filterMap.mpr ⟨env, he, q⟩)
theorem ff_slot {h h' base : Heap} {stack : List Env} (ff : h.FunFrames base stack) (up : h.UpToSlots h') : ∀ b ∈ frs stack, ∀ o, h.get? b = some o → ∃ sl, h'.get? b = some { o with slots := sl } := fun b hb o e => by
  obtain ⟨_, o', ho', hnf⟩ := ff.mem hb
  rw [e] at ho'; cases ho'
  exact up b o e hnf
theorem Un.no {fs : List Addr} {H₀ H : Hp} {h₀ h : Heap} {b : Addr} (u : Un fs [] H₀ H h₀ h) (n : h.get? b = none) : h₀.get? b = none := by
  cases q : h₀.get? b with
  | none => rfl
  | some o =>
    obtain ⟨o', e⟩ := u.there b o q (by simp)
    rw [n] at e; cases e
/-! ### an exception that has left a def -/
structure Flew (P : Program) (w : World) (outer : List Env) (H : Hp) (s : Shared) (H' : Hp) (e T : Addr) (cls a0 : Value) (s' : Shared) : Prop where
  os : s'.os = s.os
  bare : AllBare s'.gens
  tk : 0 < s'.toks
  un : Un (frs outer) [] H H' s.heap s'.heap
  hok : HOk P w H' s'.heap
  ne : s.heap.get? e = none
  nT : s.heap.get? T = none
  fe : H' e = none
  fT : H' T = none
  tr : Tr s'.heap e T cls a0 .none
def CXr (P : Program) (w : World) : CXT := fun outer H s E ev s' => ∃ e T cls a0 H', ev = .ref e ∧ E cls none H' ∧ Flew P w outer H s H' e T cls a0 s'
/-- an address that was not there at the entry, and is no part of the frame -/
structure NewA (X : Cx) (pins : List (Addr × Obj)) (b : Addr) : Prop where
  s0 : X.s₀.heap.get? b = none
  loc : b ≠ X.env.locals
  cell : ∀ x c, X.env.cells.lookup x = some c → c ≠ b
  pin : ∀ p ∈ X.pn ++ pins, p.1 ≠ b
theorem NewA.of {X : Cx} {pins : List (Addr × Obj)} {σ : St} {H : Hp} {s : Shared} {b : Addr} (I : Inv X pins σ H s) (hex : X.ex = []) (n : s.heap.get? b = none) : NewA X pins b where
  s0 := by
    have u := I.base
    rw [hex] at u
    exact u.no n
  loc := fun z => by
    obtain ⟨m, ⟨o, _, _, ho, _⟩, _⟩ := I.loc
    rw [← z, n] at ho; cases ho
  cell := fun x c e z => by
    obtain ⟨v, o, ho, _⟩ := I.cell x c e
    rw [z, n] at ho; cases ho
  pin := fun p hp z => by
    obtain ⟨e, _⟩ := I.pin p hp
    rw [z, n] at e; cases e
/-- the state behind a step of the flight -/
theorem Inv.fly {X : Cx} {pins : List (Addr × Obj)} {σ : St} {H : Hp} {s : Shared} {h' : Heap} {ex : List Addr} (I : Inv X pins σ H s) (hex : X.ex = []) (st : (PySem.W.hideAll s.heap (frs X.stack ++ ex)).StaysIn h')
    (hn : ∀ b ∈ ex, NewA X pins b ∧ H b = none) (up : s.heap.UpToSlots h') : Inv X pins σ H { s with heap := h' } := by
  have ff := I.stack
  have hF : ∀ b ∈ frs X.stack ++ ex, H b = none := fun b hb => (List.mem_append.mp hb).elim (I.stkFree b) fun z => (hn b z).2
  have neL : ∀ b o, X.s₀.heap.get? b = some o → b ≠ X.env.locals := fun b o e => Nat.ne_of_lt (Nat.lt_of_lt_of_le (Heap.lt_size e) I.ok.above)
  have cellK : ∀ c v, s.heap.IsCell c v → h'.IsCell c v := fun c v ⟨o, ho, hd⟩ => by
    obtain ⟨sl, q⟩ := up c o ho fun vs z => by rw [hd] at z; cases z
    exact ⟨_, q, hd⟩
  have fsub : ∀ b ∈ X.fs, b ∈ frs X.stack := fun b hb => by
    rcases I.ok.stk with e | ⟨e, _⟩
    · rw [e]; exact hb
    · rw [e]
      obtain ⟨env, he, q⟩ := List.mem_filterMap.mp (show b ∈ X.outer.filterMap (·.frame) from hb)
      exact List.mem_filterMap.mpr ⟨env, List.mem_cons_of_mem _ he, q⟩
  refine ⟨I.ok, I.os, I.bare, ?_, ?_, fun x c e => ?_, I.free, I.freeC, fun p hp => ?_, I.hok.fly hF st, I.len, I.tk⟩
  · have u := I.base
    rw [hex] at u ⊢
    refine u.fly st (fun b o e m => ?_) fun b hb => ff_slot ff up b (fsub b hb)
    rcases List.mem_append.mp m with m | m
    · exact (List.mem_cons.mp (I.stkSub b m)).elim (fun z => absurd z (neL b o e)) fun z => z
    · rw [(hn b m).1.s0] at e; cases e
  · obtain ⟨m, hm, hl⟩ := I.loc
    refine ⟨m, up.ns hm, fun i x v e1 e2 e3 => ?_⟩
    obtain ⟨u, r, l⟩ := hl i x v e1 e2 e3
    refine ⟨u, r, ?_⟩
    rcases l with l | ⟨k, c, e, z⟩
    · exact .inl l
    · exact .inr ⟨k, c, e, cellK c _ z⟩
  · obtain ⟨v, z⟩ := I.cell x c e
    exact ⟨v, cellK c v z⟩
  · obtain ⟨e, n, ne, nf, d⟩ := I.pin p hp
    refine ⟨st _ _ (PySem.W.hideAll_get _ e fun m => ?_), n, ne, nf, d⟩
    rcases List.mem_append.mp m with m | m
    · exact (List.mem_cons.mp (I.stkSub p.1 m)).elim ne nf
    · exact (hn p.1 m).1.pin p hp rfl
/-! ### an exception within the frame -/
structure Fl (X : Cx) (pins : List (Addr × Obj)) (σ : St) (H : Hp) (e T : Addr) (cls a0 fl : Value) (s : Shared) : Prop where
  inv : Inv X pins σ H s
  tr : Tr s.heap e T cls a0 fl
  fe : H e = none
  fT : H T = none
  ne : NewA X pins e
  nT : NewA X pins T
section
variable {X : Cx} {pins : List (Addr × Obj)} {σ : St} {H H' : Hp} {e T : Addr} {cls a0 fl fl' : Value} {s s' : Shared} {h' : Heap}
theorem Fl.of_call (I : Inv X pins σ H s) (hex : X.ex = []) (F : Flew X.prog X.w X.stack H s H' e T cls a0 s') : Fl X pins σ H' e T cls a0 .none s' :=
  ⟨I.call' (ch := []) F.os F.un F.hok F.bare (fun b z => absurd z (by simp)) F.tk, F.tr, F.fe, F.fT, NewA.of I hex F.ne, NewA.of I hex F.nT⟩
theorem Fl.moved (F : Fl X pins σ H e T cls a0 fl s) (hex : X.ex = []) (st : (PySem.W.hideAll s.heap (frs X.stack ++ [e, T])).StaysIn h') (tr : TrL h' (PySem.W.hideAll s.heap (frs X.stack ++ [e, T])) e cls a0 fl') (up : s.heap.UpToSlots h') :
    ∃ T', Fl X pins σ H e T' cls a0 fl' { s with heap := h' } := by
  obtain ⟨T', hn, tr'⟩ := Tr.of tr
  obtain ⟨hne, oT, ts, hT, hd⟩ := tr'.T_rec
  have J := F.inv.fly hex st (fun b hb => by
    rcases List.mem_cons.mp hb with z | z
    · rw [z]; exact ⟨F.ne, F.fe⟩
    · rw [List.mem_singleton.mp z]; exact ⟨F.nT, F.fT⟩) up
  have k : H T' = none ∧ NewA X pins T' := by
    rcases rec_new F.inv.stack up hn hT hd with z | z
    · exact ⟨F.inv.hok.none_of z, NewA.of F.inv hex z⟩
    · rcases List.mem_cons.mp z with z | z
      · exact absurd z hne
      · rw [List.mem_singleton.mp z]; exact ⟨F.fT, F.nT⟩
  exact ⟨T', J, tr', F.fe, k.1, F.ne, k.2⟩
theorem Fl.held (F : Fl X pins σ H e T cls a0 fl s) : FlyL (PySem.W.hideAll s.heap (frs X.stack ++ [e, T])) X.stack e cls a0 fl s.heap :=
  ⟨fun b o q => PySem.W.of_hideAll _ q, PySem.W.hideAll_none _ (List.mem_append_right _ (List.mem_cons_self)), ff_hide F.inv.stack, F.tr.traced (PySem.W.hideAll_none _ (List.mem_append_right _ (List.mem_cons_of_mem _ (List.mem_cons_self))))⟩
variable {M : Model} {A : Around} {E : Value → Shared → Prop} {Q : Unit → Shared → Prop}
theorem Fl.looks (F : Fl X pins σ H e T cls a0 .none s) (hex : X.ex = []) (hst : X.stack = X.env :: X.outer) (hfr : X.env.frame = some X.env.locals) (hA : A.frames = some X.stack)
    (hQ : ∀ T' h', Fl X pins σ H e T' cls a0 (rawInt X.env.locals) { s with heap := h' } → Q () { s with heap := h' }) : wpAny M A (noteFrame (.ref e) X.env) Q E s := by
  have G := F.held
  refine noteL (B := PySem.W.hideAll s.heap (frs X.stack ++ [e, T])) (outer := X.outer) (cls := cls) (a0 := a0) (by rw [hA, hst]) hfr (by rw [← hst]; exact G) fun h' hh up => ?_
  obtain ⟨T', G⟩ := F.moved hex hh.st hh.tr up
  exact hQ T' h' G
theorem Fl.again (F : Fl X pins σ H e T cls a0 fl s) (hex : X.ex = [])
    (hQ : ∀ T' h', Fl X pins σ H e T' cls a0 .none { s with heap := h' } → Q () { s with heap := h' }) : wpAny M A (setFlight (.ref e) none) Q E s := by
  refine landL (B := PySem.W.hideAll s.heap (frs X.stack ++ [e, T])) (l := X.stack) F.held fun h' hh up => ?_
  obtain ⟨T', G⟩ := F.moved hex hh.st hh.tr up
  exact hQ T' h' G
theorem Fl.lands (F : Fl X pins σ H e T cls a0 (rawInt X.env.locals) s) (hex : X.ex = [])
    (hQ : ∀ T' h', Fl X pins σ H e T' cls a0 .none { s with heap := h' } → Q () { s with heap := h' }) : wpAny M A (setFlight (.ref e) none) Q E s := F.again hex hQ
/-- an object that is there is tracked from now on -/
theorem Inv.track {o : HO} (I : Inv X pins σ H s) (n : NewA X pins e) (he : H e = none) (new : ObjOk X.prog X.w (upd H e o) s.heap e o) : Inv X pins σ (upd H e o) s := by
  have ne : ∀ b u, H b = some u → b ≠ e := fun b u q z => by rw [z, he] at q; cases q
  refine ⟨I.ok, I.os, I.bare, ⟨I.base.keep, I.base.slot, fun b o' q n' hx => ?_, I.base.there, fun b xs q => ?_, fun b ob u q => ?_, fun b ps q => ?_⟩, I.loc, I.cell, ?_, fun x c q => ?_, fun p hp => ?_, fun b u q => ?_, I.len, I.tk⟩
  · rw [upd_ne fun z => by rw [z, n.s0] at q; cases q]
    exact I.base.free b o' q n' hx
  · have z := I.base.tups b xs q
    rw [upd_ne (ne b _ z)]; exact z
  · have z := I.base.frzs b ob u q
    rw [upd_ne (ne b _ z)]; exact z
  · obtain ⟨more, z⟩ := I.base.tbls b ps q
    exact ⟨more, by rw [upd_ne (ne b _ z)]; exact z⟩
  · rw [upd_ne (Ne.symm n.loc)]; exact I.free
  · rw [upd_ne (n.cell x c q)]; exact I.freeC x c q
  · obtain ⟨q, f, r⟩ := I.pin p hp
    exact ⟨q, by rw [upd_ne (n.pin p hp)]; exact f, r⟩
  · by_cases hb : b = e
    · subst hb; rw [upd_same] at q; cases q; exact new
    · rw [upd_ne hb] at q
      exact (I.hok b u q).stay (fun _ _ _ q => q) (fun c r => by rw [upd_ne (ne c _ r)]; exact r) fun c xs r => by rw [upd_ne (ne c _ r)]; exact r
end
/-- an exception, as a tracked thing -/
def excO (e : Addr) (cls : Value) : HO := .ext fun h => ∃ (oe : Obj) (vs : Array Value), h.get? e = some oe ∧ oe.cls = cls ∧ oe.data = .fields vs
theorem excO_ok {P : Program} {w : World} {H : Hp} {h : Heap} {e T : Addr} {cls a0 fl : Value} (x : Tr h e T cls a0 fl) : ObjOk P w H h e (excO e cls) := by
  obtain ⟨oe, vs, h1, h2, h3⟩ := x.e_obj
  exact ⟨⟨oe, vs, h1, h2, h3⟩, ⟨oe, h1⟩, fun h1 h2 ⟨oe, vs, a, b, c⟩ k => ⟨oe, vs, k _ a, b, c⟩⟩
/-- .. and with its object, as long as it is handled -/
def excF (oe : Obj) (e : Addr) (cls : Value) : HO := .frz oe (excO e cls)
structure LoneO (oe : Obj) (cls : Value) : Prop where
  cls : oe.cls = cls
  ex : ∃ vs : Array Value, oe.data = .fields vs ∧ vs[2]? = some .none
theorem Fl.trackF {X : Cx} {pins : List (Addr × Obj)} {σ : St} {H : Hp} {e T : Addr} {cls a0 fl : Value} {s : Shared} (F : Fl X pins σ H e T cls a0 fl s) : ∃ oe, LoneO oe cls ∧ Inv X pins σ (upd H e (excF oe e cls)) s := by
  obtain ⟨oe, vs, oT, ts, he, hc, hd, h1, hne, hT, hdT, h3, h2⟩ := id F.tr
  exact ⟨oe, ⟨hc.1, vs, hd, h2⟩, F.inv.track F.ne F.fe ⟨he, excO_ok F.tr⟩⟩
end L2

set_option Elab.async false
set_option linter.all false
set_option maxRecDepth 100000
/-! raise, try, and calls that may raise. -/
namespace L2
open PySem PySem.Spec PyProof.Rows
/-! ### leaving a def -/
section
variable {P : Program} {w : World} {K : PySem.W.Frag} {mg : Str → Option Value} {base : Heap} {N : List Str} {qual : Str} {scope : Scope} {f : Addr} {cd : Value} {A : Around} {outer : List Env} {s₀ : Shared} {H₀ : Hp} {E : XK}
theorem frs_tail {env : Env} {outer : List Env} {b : Addr} (h : b ∈ frs outer) : b ∈ frs (env :: outer) := by
  obtain ⟨x, hx, q⟩ := List.mem_filterMap.mp (show b ∈ outer.filterMap (·.frame) from h)
  exact List.mem_filterMap.mpr ⟨x, List.mem_cons_of_mem _ hx, q⟩
/-- a made exception leaves the def -/
theorem leave_made {pins : List (Addr × Obj)} {σ : St} {H : Hp} {s : Shared} {h' : Heap} {e : Addr} {cls : Value} {args : List Value} (I : Inv (cxOf (CXr P w) P w K mg base N qual scope f cd A outer s₀ H₀ E) pins σ H s)
    (hx : Heap.MadeExcOf s.heap h' e cls args) (hE : E cls none H) : (cxOf (CXr P w) P w K mg base N qual scope f cd A outer s₀ H₀ E).xe (.ref e) { s with heap := h' } := by
  have ff : s.heap.FunFrames base (envOfC qual scope s₀.heap.objs.size f cd :: outer) := I.stack
  have hB := ff_hide (ex := []) ff
  show wpAny (model P w) (A.deeper (envOfC qual scope s₀.heap.objs.size f cd)) (leaving (envOfC qual scope s₀.heap.objs.size f cd) (.ref e)) _ _ _
  refine leave0L (B := PySem.W.hideAll s.heap (frs (envOfC qual scope s₀.heap.objs.size f cd :: outer) ++ [])) (h := s.heap) (outer := outer) (L := s₀.heap.objs.size) (show (A.deeper (envOfC qual scope s₀.heap.objs.size f cd)).frames = _ from I.ok.frames) rfl
    (fun b o q => PySem.W.of_hideAll _ q) hB hx fun h2 t fl up => ?_
  obtain ⟨st, hen, ffo, tr⟩ := fl
  have up' : s.heap.UpToSlots h2 := (Heap.UpToSlots.of_keeps hx.keeps).trans up
  obtain ⟨T, hn, tr'⟩ := Tr.of tr
  obtain ⟨hne, oT, ts, hT, hd⟩ := tr'.T_rec
  have nT : s.heap.get? T = none := by
    rcases rec_new ff up' hn hT hd with z | z
    · exact z
    · cases z
  have u : Un (frs outer) [] H₀ H s₀.heap s.heap := I.base
  have neL : ∀ b o, s₀.heap.get? b = some o → b ≠ s₀.heap.objs.size := fun b o e => Nat.ne_of_lt (Heap.lt_size e)
  refine ⟨e, T, cls, .ref t, H, rfl, hE, I.os, I.bare, I.tk, ?_, ?_, u.no hx.new, u.no nT, I.hok.none_of hx.new, I.hok.none_of nT, tr'⟩
  · refine u.fly st (fun b o q m => ?_) fun b hb => ff_slot ff up' b (frs_tail hb)
    rw [List.append_nil] at m
    exact (List.mem_cons.mp (I.stkSub b m)).elim (fun z => absurd z (neL b o q)) fun z => z
  · refine I.hok.fly (fun b m => ?_) st
    rw [List.append_nil] at m
    exact I.stkFree b m
/-- an exception of a callee passes on -/
theorem pass_on {E' : XK} (h : ∀ cls H, E' cls none H → E cls none H) : Passes (CXr P w) (cxOf (CXr P w) P w K mg base N qual scope f cd A outer s₀ H₀ E) E' := by
  intro pins σ H s ev s' I hq
  obtain ⟨e, T, cls, a0, H', rfl, hE, F0⟩ := hq
  have F : Fl (cxOf (CXr P w) P w K mg base N qual scope f cd A outer s₀ H₀ E) pins σ H' e T cls a0 .none s' := Fl.of_call I rfl F0
  have J := F.inv
  have ff : s'.heap.FunFrames base (envOfC qual scope s₀.heap.objs.size f cd :: outer) := J.stack
  show wpAny (model P w) (A.deeper (envOfC qual scope s₀.heap.objs.size f cd)) (leaving (envOfC qual scope s₀.heap.objs.size f cd) (.ref e)) _ _ _
  refine leaveL (B := PySem.W.hideAll s'.heap (frs (envOfC qual scope s₀.heap.objs.size f cd :: outer) ++ [e, T])) (outer := outer) (L := s₀.heap.objs.size) (cls := cls) (a0 := a0) (show (A.deeper (envOfC qual scope s₀.heap.objs.size f cd)).frames = _ from J.ok.frames) rfl F.held fun h2 fl up => ?_
  obtain ⟨T2, F2⟩ := F.moved rfl fl.st fl.tr up
  have J2 := F2.inv
  exact ⟨e, T2, cls, a0, H', rfl, h _ _ hE, J2.os, J2.bare, J2.tk, J2.base, J2.hok, F2.ne.s0, F2.nT.s0, F2.fe, F2.fT, F2.tr⟩
end
/-! ### raise -/
/-- an own class of exceptions: its shape in the fragment -/
structure OwnX (K : PySem.W.Frag) (C : Addr) : Prop where
  ex : ∃ (bmB : List Value) (newId initId B : String), PySem.W.excIn K C bmB newId = true ∧ ExcBaseFacts B newId initId bmB
/-- what is wanted where an exception of the class at C is raised -/
def Raises (X : Cx) (E : XK) : Prop := ∀ (pins : List (Addr × Obj)) (σ : St) (H : Hp) (s : Shared) (h' : Heap) (e : Addr) (cls : Value) (vs : List Value), Inv X pins σ H s → Heap.MadeExcOf s.heap h' e cls vs → E cls none H → X.xe (.ref e) { s with heap := h' }
def tRaise (C : Addr) (E : XK) (ta : TA) : TS := fun _ σ H => ta σ H fun vs H1 => vs.length ≤ sizeLine ∧ E (.ref C) none H1
section
variable {X : Cx} {C : Addr} {E : XK} {x : Str} {e0 : Expr} {rest : List Expr} {ta : TA} {np cpos pos : Pos}
theorem ps_raise (O : OwnX X.K C) (hm : X.mg x = some (.ref C)) (hc : X.calm = true) (hE : Raises X E) (ha : PA X (e0 :: rest) ta) (hg : Gl X x := by exact rfl) (hdb : (x == ("__debug__" : Str)) = false := by decide)
    (he : starEach (e0 :: rest) X.env = (false, eval e0 X.env) :: starEach rest X.env := by rfl) (hpl : (backTo cpos (starEach rest X.env)).any (·.1) = false := by rfl) :
    PS X (.Raise (some (.Call (.Name x np) (e0 :: rest) [] cpos)) none pos) (tRaise C E ta) := by
  intro pins s σ H D I h
  obtain ⟨bmB, newId, initId, B, q, FB⟩ := O.ex
  have hK : X.K.In X.base := I.ok.mod.kin
  unfold PySem.W.excIn at q
  split at q
  case h_2 => cases q
  rename_i d1 c1 l1 hC
  split at q
  case h_2 => cases q
  rename_i C1 tl j0 j1 j2 j3 id1 j5 hmro hslots
  rw [Bool.and_eq_true, Bool.and_eq_true, Bool.and_eq_true, Bool.and_eq_true, Bool.and_eq_true] at q
  obtain ⟨⟨⟨⟨⟨q1, q2⟩, q3⟩, q4⟩, q5⟩, q6⟩ := q
  cases beq_iff_eq.mp q1
  cases beq_iff_eq.mp q2
  have q3 : c1.hasDel = false := by simpa using q3
  obtain ⟨n1, b1, m1, a1, w1, g1, y1, u1, v1, z1, x1⟩ := c1
  cases hmro
  cases q3
  obtain ⟨l1⟩ := l1
  cases hslots
  have hget := hK _ _ hC
  have hns : X.base.Ns a1 (X.base.nsMap a1) := .of_isNs (PySem.W.isNs_of_in hK q5)
  have hno : X.base.nsMap a1 "__init__" = none := PySem.W.nsMap_none_of_in hK q5 (beq_iff_eq.mp q6)
  have htl := PySem.W.tail_of_in hK q4
  refine wpAny_Raise_call_subT (nm := n1) (q := w1) (C := C) (N := a1)
    (bs := b1) (bm := tl) (hdct := g1) (sn := y1) (sub := u1) (ab := v1) (col := z1) (dd := d1)
    (k0 := j0) (k1 := j1) (k2 := j2) (k3 := j3) (k5 := j5) FB (htl.hasType FB.hasBase) (I.ok.hd hc) ?_ hno (ld_glob I hg hm ⟨rfl, ?_⟩ hdb)
  · rw [he]
    show (false || (backTo cpos (starEach rest X.env)).any (·.1)) = false
    rw [hpl]; rfl
  · have h2 := ha cpos pins s σ H _ I h
    rw [he] at h2 ⊢
    refine Calls.evalArgs_plain (wpAny_mono h2 (fun us s2 r2 => ?_) fun _ _ y => y)
    obtain ⟨vs, H1, I2, rv, hz, hw⟩ := r2
    exact ⟨rfl, by rw [← rv.length]; exact hz, I2.bk _ _ hget, hns.keeps I2.bk, htl.keeps I2.bk, fun h' e hx => hE pins σ H1 s2 h' e _ _ I2 hx hw⟩
end
theorem raises_cx {P : Program} {w : World} {K : PySem.W.Frag} {mg : Str → Option Value} {base : Heap} {N : List Str} {qual : Str} {scope : Scope} {f : Addr} {cd : Value} {A : Around} {outer : List Env} {s₀ : Shared} {H₀ : Hp} {E : XK} :
    Raises (cxOf (CXr P w) P w K mg base N qual scope f cd A outer s₀ H₀ E) E := fun _ _ _ _ _ _ _ _ I hx hE => leave_made I hx hE
/-! ### a def that may raise -/
structure DefR (P : Program) (w : World) (K : PySem.W.Frag) (mg : Str → Option Value) (base : Heap) (k : Nat) (x : Str) (ps : List Str) (sp : Sp) : Prop where
  ex : ∃ f fd, FnOk P w K mg base (CXr P w) k f fd ps sp ∧ mg x = some (.ref f) ∧ PySem.W.keepIn K (.ref f) = true ∧ Binds K fd ps []
theorem Fun.okR {P : Program} {w : World} {K : PySem.W.Frag} {mg : Str → Option Value} {base : Heap} {x qual : Str} {st : Stmt} {f : Addr} {fd : FuncData} {N ps : List Str} {k : Nat} {sp : Sp} (F : Fun K x qual st f fd) (S : FnScope N ps (defScope st)) (len : ∀ vs H Q E, sp vs H Q E → vs.length = ps.length)
    (hbody : ∀ (cdv : Value) (A : Around) (outer : List Env) (s : Shared) (H : Hp) (vs : List V) (Q : VK) (E : XK), Room k (A.deeper (envOfC qual (defScope st) s.heap.objs.size f cdv)) → sp vs H Q E →
      ∃ t, PSs (cxOf (CXr P w) P w K mg base N qual (defScope st) f cdv A outer s H E) (defBody st) t ∧ t { nx := fun _ H' => Q .non H', rt := Q } (start N vs) H) : FnOk P w K mg base (CXr P w) (k + 1) f fd ps sp := by
  obtain ⟨oc, od, kV, doc, pm, an, cdv, ct, osl, rfl, lk, hcd⟩ := F.ex
  exact fn_of lk hcd S len fun A outer s H vs Q E hr hsp => hbody cdv A outer s H vs Q E hr hsp
section
variable {X : Cx} {k : Nat} {x : Str} {ps : List Str} {sp : Sp} {e : Expr} {es : List Expr} {te : TE} {t : TA} {p pos : Pos}
theorem stars2 (hst : noStars (e :: es) = true) : isStar e = false ∧ noStars es = true := by
  unfold noStars at hst
  rw [Bool.and_eq_true, Bool.not_eq_true'] at hst
  exact hst
/-! ### code that may raise, the exception seen with the names as they are -/
def XP (X : Cx) (pins : List (Addr × Obj)) (R : St → Value → Hp → Prop) (ev : Value) (s' : Shared) : Prop := ∃ e T cls a0 σ' H', ev = .ref e ∧ Fl X pins σ' H' e T cls a0 .none s' ∧ R σ' cls H'
structure XEx (X : Cx) (e : Expr) (t : (Value → Hp → Prop) → TE) : Prop where
  h : ∀ (pins : List (Addr × Obj)) (s : Shared) (σ : St) (H : Hp) (Q : VK) (R : Value → Hp → Prop), Inv X pins σ H s → t R σ H Q → wpAny (model X.prog X.w) X.A (eval e X.env) (EP X pins σ Q) (XP X pins fun σ' cls H' => σ' = σ ∧ R cls H') s
abbrev TSx := (St → Value → Hp → Prop) → TS
structure XSx (X : Cx) (st : Stmt) (t : TSx) : Prop where
  h : ∀ (pins : List (Addr × Obj)) (s : Shared) (σ : St) (H : Hp) (D : Ends) (R : St → Value → Hp → Prop), Inv X pins σ H s → t R D σ H → wpAny (model X.prog X.w) X.A (exec st X.env) (SP X pins D) (XP X pins R) s
structure XBx (X : Cx) (st : List Stmt) (t : TSx) : Prop where
  h : ∀ (pins : List (Addr × Obj)) (s : Shared) (σ : St) (H : Hp) (D : Ends) (R : St → Value → Hp → Prop), Inv X pins σ H s → t R D σ H → wpAny (model X.prog X.w) X.A (execs st X.env) (SP X pins D) (XP X pins R) s
theorem xex_call (D : DefR X.prog X.w X.K X.mg X.base k x ps sp) (hr : Room k X.A) (hex : X.ex = []) (ha : XA X.nox (e :: es) t) (hg : Gl X x := by exact rfl) (hdb : (x == ("__debug__" : Str)) = false := by decide) (hst : noStars (e :: es) = true := by rfl) :
    XEx X (.Call (.Name x p) (e :: es) [] pos) (fun R σ H Q => t σ H fun vs H1 => sp vs H1 Q fun cls _ H2 => R cls H2) := by
  obtain ⟨f, fd, G, hm, hk, hb⟩ := D.ex
  obtain ⟨h1, h2⟩ := stars2 hst
  refine ⟨fun pins s σ H Q R I h => ?_⟩
  refine wpAny_Call_Name_kw (ld_glob I hg hm ?_ hdb)
  refine PySem.W.callWith_K (h₀ := X.base) I.ok.mod.kin hk (wpAny_mono (ha.h pos pins s σ H _ (I.wish _) h) (fun us s1 q0 => ?_) (fun _ _ z => z.elim)) (star_cons h1) (stars_any h2)
  obtain ⟨vs, H1, I1', r, q⟩ := q0
  have I1 := I1'.unwish
  have hl : (us ++ []).length = ps.length := by rw [List.append_nil, ← r.length]; exact G.len _ _ _ _ q
  have hb' := hb s1 us I1.kIn hl
  rw [List.append_nil] at hb'
  refine ⟨I1.kIn, wpAny_call (codeAny_mono (G.run X.A X.stack s1 H1 ⟨us, []⟩ us vs _ _ hr I1.env0 hb' r q) fun r s' hq => ?_)⟩
  cases r with
  | error ev =>
    obtain ⟨e, T, cls, a0, H', rfl, hE, F⟩ := hq
    exact ⟨e, T, cls, a0, σ, H', rfl, Fl.of_call I1 hex F, rfl, hE⟩
  | ok fl =>
    cases fl with
    | ret u => exact I1.after hq
    | next => exact False.elim hq
    | brk => exact False.elim hq
    | cont => exact False.elim hq
theorem XP.imp {pins : List (Addr × Obj)} {R R' : St → Value → Hp → Prop} {ev : Value} {s' : Shared} (h : XP X pins R ev s') (k : ∀ σ cls H, R σ cls H → R' σ cls H) : XP X pins R' ev s' :=
  let ⟨e, T, cls, a0, σ', H', a, b, c⟩ := h; ⟨e, T, cls, a0, σ', H', a, b, k _ _ _ c⟩
theorem xsx_ret {tx : (Value → Hp → Prop) → TE} (he : XEx X e tx) : XSx X (.Return (some e) pos) (fun R D σ H => tx (R σ) σ H D.rt) :=
  ⟨fun pins s σ H D R I h => wpAny_Return_some (wpAny_mono (he.h pins s σ H _ _ I h) (fun v s1 ⟨x, H1, I1, r1, q1⟩ => ⟨x, σ, H1, I1, r1, q1⟩) fun ev s1 q => q.imp fun σ' cls H' ⟨a, b⟩ => a ▸ b)⟩
theorem xbx_one {st : Stmt} {u : TSx} (h : XSx X st u) : XBx X [st] u :=
  ⟨fun pins s σ H D R I q => wpAny_execs_cons (wpAny_mono (h.h pins s σ H D R I q) (fun f s1 z => by
    cases f with
    | next => exact wpAny_execs_nil z
    | ret u => exact z
    | brk => exact z
    | cont => exact z) fun _ _ z => z)⟩
end
/-! ### try -/
/-- within an except suite -/
abbrev XM (X : Cx) (e : Addr) : Cx := { X with A := X.A.mark (some (.ref e)), calm := false }
theorem Inv.mark {X : Cx} {pins : List (Addr × Obj)} {σ : St} {H : Hp} {s : Shared} (I : Inv X pins σ H s) (e : Addr) : Inv (XM X e) pins σ H s :=
  ⟨⟨I.ok.mod, I.ok.kind, I.ok.glob, I.ok.blt, I.ok.above, I.ok.inj, I.ok.has, I.ok.cab, (fun z => nomatch z), I.ok.frames, I.ok.stk, I.ok.exf, I.ok.bs, I.ok.bsz, I.ok.noex, I.ok.exfs, I.ok.funs, I.ok.frf⟩,
    I.os, I.bare, I.base, I.loc, I.cell, I.free, I.freeC, I.pin, I.hok, I.len, I.tk⟩
theorem Inv.unmark {X : Cx} {pins : List (Addr × Obj)} {σ : St} {H : Hp} {s s1 : Shared} {σ1 : St} {H1 : Hp} {e : Addr} (J : Inv X pins σ1 H1 s1) (I : Inv (XM X e) pins σ H s) : Inv X pins σ H s :=
  ⟨J.ok, I.os, I.bare, I.base, I.loc, I.cell, I.free, I.freeC, I.pin, I.hok, I.len, I.tk⟩
/-- the name of the exception goes -/
theorem Inv.gone {X : Cx} {pins : List (Addr × Obj)} {σ : St} {H : Hp} {s : Shared} {M : Model} {A : Around} {E : Value → Shared → Prop} {Q : Unit → Shared → Prop} {i : Nat} {n : Str} {pos : Pos} (I : Inv X pins σ H s) (hN : X.N.Nodup) (hi : X.N[i]? = some n) (hl : X.env.scope.names.lookup n = some .local)
    (hQ : ∀ s', Inv X pins (σ.set i none) H s' → Q () s') : wpAny M A (do bindName X.env n .none; unbindBehindTheSuite X.env n pos) Q E s := by
  obtain ⟨m, hn, hlk⟩ := id I.loc
  have hcls : (X.env.scope.kind == .class || (X.env.scope.kind == .module && X.env.locals != X.env.globals)) = false := by rw [I.ok.kind]; rfl
  refine wpAny_nameGoes_keeps hl hn hcls fun h' v hn' hs => hQ _ ?_
  have neL : ∀ b o, X.s₀.heap.get? b = some o → b ≠ X.env.locals := fun b o e => Nat.ne_of_lt (Nat.lt_of_lt_of_le (Heap.lt_size e) I.ok.above)
  have nH : ∀ b u, H b = some u → b ≠ X.env.locals := fun b u q z => by rw [z, I.free] at q; cases q
  refine ⟨I.ok, I.os, I.bare, ⟨fun b o e n' hb hx => (hs.2 b (neL b o e)).trans (I.base.keep b o e n' hb hx), fun b o e n' hb hx => ?_, I.base.free, fun b o e hx => ?_, I.base.tups, I.base.frzs, I.base.tbls⟩, ⟨_, hn', fun j y v' e1 e2 e3 => ?_⟩, fun y c e => ?_, I.free, I.freeC, fun p hp => ?_, fun b u q => ?_, by simpa using I.len, Nat.succ_pos _⟩
  · obtain ⟨sl, e1⟩ := I.base.slot b o e n' hb hx
    exact ⟨sl, (hs.2 b (neL b o e)).trans e1⟩
  · obtain ⟨o', e1⟩ := I.base.there b o e hx
    exact ⟨o', (hs.2 b (neL b o e)).trans e1⟩
  · by_cases hj : j = i
    · subst hj
      rw [List.getElem?_set] at e2
      split at e2
      · split at e2 <;> cases e2
      · exact absurd rfl (by assumption)
    · rw [List.getElem?_set_ne (Ne.symm hj)] at e2
      obtain ⟨u', r', q⟩ := hlk j y v' e1 e2 e3
      refine ⟨u', r', ?_⟩
      rcases q with ⟨k, e⟩ | ⟨k, c, e, z⟩
      · refine .inl ⟨k, ?_⟩
        have : y ≠ n := fun e => hj (nodup_ix hN e1 (e ▸ hi))
        simp [this, e]
      · exact .inr ⟨k, c, e, z.sameBut hs (I.cne y c e)⟩
  · obtain ⟨w', z⟩ := I.cell y c e
    exact ⟨w', z.sameBut hs (I.cne y c e)⟩
  · obtain ⟨e, n', ne, nf, d⟩ := I.pin p hp
    exact ⟨(hs.2 p.1 ne).trans e, n', ne, nf, d⟩
  · refine (I.hok b u q).stay (fun c v' hc r => (hs.2 c ?_).trans r) (fun _ r => r) fun _ _ r => r
    rcases hc with z | z
    · rw [z]; exact nH b u q
    · exact nH c _ z
def Ends.but (D : Ends) (i : Nat) : Ends := { nx := fun σ H => D.nx (σ.set i none) H, rt := D.rt, bk := fun σ H => D.bk (σ.set i none) H, ct := fun σ H => D.ct (σ.set i none) H }
section
variable {X : Cx} {x n : Str} {C : Addr} {i : Nat} {body suite : List Stmt} {b₀ : Stmt} {np hpos pos : Pos} {tb : TSx} {th : TS}
end
end L2

set_option Elab.async false
set_option linter.all false
set_option maxRecDepth 100000
/-! isinstance of a caught exception of an own class. -/
namespace L2
open PySem PySem.Spec PySem.Calls PyProof.Rows PySem.W PySem.Builtin PySem.Builtin.Str PySem.Builtin.ObjectAttr PySem.Builtin.Getset_descriptor
/-- what the fragment says of an own class of exceptions -/
structure ExcK (K : PySem.W.Frag) (C : Addr) : Prop where
  ga : findIn K (.ref C) "__getattribute__" = some (some (.builtin "BaseException.__getattribute__"))
  noga : findIn K (.ref C) "__getattr__" = some none
  cls : findIn K (.ref C) "__class__" = some (some (.builtin "object.__class__"))
  get : specialIn K (.builtin "object.__class__") "__get__" = some (some (.builtin "getset_descriptor.__get__"))
  takes : takesIn K (.builtin "object.__class__") = some true
  base : mroIn K C (.type "BaseException") = some true
  obj : mroIn K C (.type "object") = some true
theorem ExcK.isC {K : PySem.W.Frag} {C : Addr} (k : ExcK K C) : (clsIn K C).isSome = true := by
  obtain ⟨cd, e, _⟩ := Option.bind_eq_some_iff.mp k.obj
  rw [e]
  rfl
/-- an exception of the class at C stands at e -/
def ExcAt (e C : Addr) (h : Heap) : Prop := ∃ (oe : Obj) (vs : Array Value), h.get? e = some oe ∧ oe.cls = .ref C ∧ oe.data = .fields vs
section
variable {prog : Program} {w : World} {A : Around} {E : Value → Shared → Prop} {s : Shared} {K : PySem.W.Frag} {e C : Addr}
theorem ExcAt.ty {M : Model} {h : Heap} (p : ExcAt e C h) : Looks M h (typeOf (.ref e)) (.ref C) := by
  obtain ⟨oe, vs, h1, h2, _⟩ := p
  exact h2 ▸ (Looks.ld h1).andThen .now
theorem excls_get {tp : Value} {R : Result → Shared → Prop} (X : K.In s.heap) (p : ExcAt e C s.heap) (hm : mroIn K C (.type "object") = some true) (h : R (.ok (.ret (.ref C))) s) :
    codeAny (model prog w) A (.call (.builtin "getset_descriptor.__get__") ⟨[.builtin "object.__class__", .ref e, tp], []⟩) R s := by
  obtain ⟨hh, g, dr, t, os⟩ := s
  have La := p.ty (M := model prog w)
  have Lb := looks_mroIn (M := model prog w) X hm
  refine codeAny_call_builtin KF.slot_gs.plain KF.entry_gs
    (KF.slot_gs.check _ _ _ _ _ _ _ _ KF.type_class (KF.args_gs _ _ _) ?_)
  unfold Builtin.«getset_descriptor.__get__»
  unfold descrGet
  rw [dga_obj]
  refine wpAny_bind (wpAny_pure ?_)
  unfold descrGetter descrCheckInstance descrNameAndClass
  unfold isInstance
  simp only [KF.owner_class]
  repeat lk
  refine ⟨Code.quiet_builtin _ (by decide +kernel), ?_⟩
  refine codeAny_builtin KF.entry_class ?_
  unfold Builtin.«object.__class__»
  unfold shownTypeOf
  repeat lk
  exact h
theorem excls_find {M : Model} {h : Heap} (X : K.In h) (k : ExcK K C) : Looks M h (Builtin.ObjectAttr.find (.ref e) (.ref C) "__class__") (.bind (.builtin "getset_descriptor.__get__") (.builtin "object.__class__")) := by
  have La := looks_findIn (M := M) X k.cls
  have Lb : Looks M h (Builtin.ObjectAttr.getOf (some (.builtin "object.__class__"))) (some (.builtin "getset_descriptor.__get__")) := looks_specialIn X k.get
  have Lc := looks_takesIn (M := M) X k.takes
  have Ld : Looks M h (Builtin.ObjectAttr.dataDescriptor? (some (.builtin "object.__class__")) (some (.builtin "getset_descriptor.__get__"))) (some (.builtin "getset_descriptor.__get__", .builtin "object.__class__")) := Lc.andThen .now
  exact La.andThen (Lb.andThen (Ld.andThen (Looks.tag .now)))
theorem excls_attr {Q : Option Value → Shared → Prop} (X : K.In s.heap) (p : ExcAt e C s.heap) (k : ExcK K C) (h : Q (some (.ref C)) { s with toks := s.toks + 1 }) : wpAny (model prog w) A (getAttr? (.ref e) "__class__") Q E s := by
  obtain ⟨hh, g, d, t, os⟩ := s
  have L0 := p.ty (M := model prog w)
  have L1 := looks_findIn (M := model prog w) X k.ga
  have L2 := looks_findIn (M := model prog w) X k.noga
  have L3 := excls_find (M := model prog w) (e := e) X k
  have L4 := looks_mroIn (M := model prog w) X k.base
  have hk : builtinKind "BaseException.__getattribute__" = some .slot := by decide +kernel
  have hsp : splitId "BaseException.__getattribute__" = some ("BaseException", "__getattribute__") := by decide +kernel
  have ha := F.args_bexc_ga (.ref e) (.str "__class__" t)
  unfold getAttr? getAttrBy? getAttrBy
  refine wpAny_bind (wpAny_mkText (wpAny_bind (wpAny_attempt (wpAny_holding (wpAny_bind (L0.at (wpAny_bind (L1.at ?_))))))))
  show wpAny _ _ (getAttrByItsOwn (.ref e) (.str "__class__" t) (.ref C) (.builtin "BaseException.__getattribute__") false false) _ _ _
  unfold getAttrByItsOwn
  refine wpAny_bind ?_
  show wpAny _ _ (typeLookup (.ref C) "__getattr__") _ _ _
  refine L2.at (wpAny_bind (wpAny_attempt (wpAny_holding ?_)))
  show wpAny _ _ (boundAndCalled (.builtin "BaseException.__getattribute__") (.ref e) (.str "__class__" t)) _ _ _
  unfold boundAndCalled
  refine wpAny_bind (wpAny_of_eq (F.excAttr_ValueError.ga.bind (.ref e)) ?_)
  refine wpAny_call (codeAny_call_builtin F.excAttr_ValueError.ga.plain F.entry_bexc_ga ?_)
  simp only [checkBuiltinCall, hk, hsp]
  refine wpAny_bind ?_
  unfold isInstance
  repeat (first | lk | wp_step)
  show wpAny _ _ (run (Code.call (.builtin "getset_descriptor.__get__") ⟨[.builtin "object.__class__", .ref e, .ref C], []⟩) none) _ _ _
  refine wpAny_run ?_
  refine excls_get (s := ⟨hh, g, d, t + 1, os⟩) X p k.obj ?_
  refine wpAny_pure (wpAny_pure ?_)
  exact wpAny_pure (wpAny_pure h)
theorem kitx_exc (k : ExcK K C) : KitX K (.ref e) (.ref C) (ExcAt e C) where
  ty := fun _ _ _ p => p.ty
  it := fun _ _ X _ => by
    have z := k.isC
    unfold clsIn at z
    split at z
    · rename_i ho
      intro A' Q' E' s' j q
      unfold isType loadHead
      exact wpAny_bind (wpAny_loadPart (j _ _ (X _ _ ho)) (wpAny_pure q))
    · cases z
  ne := fun h tp dd its n sl X htp => by
    have z := k.isC
    refine Bool.eq_false_iff.mpr fun q => ?_
    cases Value.ref.inj (beq_iff_eq.mp q)
    unfold clsIn at z
    split at z
    · rename_i ho
      have y := (X _ _ ho).symm.trans htp
      cases y
    · cases z
  ca := fun X p q => excls_attr X p k q
end
/-! ### the rules in short -/
section
variable {X : Cx} {x : Str} {pos p : Pos}
theorem xgC {C : Addr} (hm : X.mg x = some (.ref C)) (hg : Gl X x := by exact rfl) (hd : (x == ("__debug__" : Str)) = false := by decide) : XE X (.Name x pos) (tC (.ref C)) := ⟨pe_glob hg hm rfl hd⟩
theorem Room.hm {k : Nat} {A : Around} {e : Option Value} (r : Room k A) : RoomH k (A.mark e) := ⟨r.dp, r.un⟩
theorem xraise {C : Addr} {E : XK} {e0 : Expr} {rest : List Expr} {ta : TA} {np cpos : Pos} (O : OwnX X.K C) (hm : X.mg x = some (.ref C)) (hc : X.calm = true) (hE : Raises X E) (ha : XA X (e0 :: rest) ta) (hg : Gl X x := by exact rfl) (hdb : (x == ("__debug__" : Str)) = false := by decide)
    (hst : noStars (e0 :: rest) = true := by rfl) : XS X (.Raise (some (.Call (.Name x np) (e0 :: rest) [] cpos)) none pos) (tRaise C E ta) := by
  obtain ⟨h1, h2⟩ := stars2 hst
  exact ⟨ps_raise O hm hc hE ha.h hg hdb (star_cons h1) (stars_any h2)⟩
/-! ### the empty dict, a text many times -/
def tDict0 : TE := fun _ H Q => ∀ p, H p = none → Q (.ref p) (upd H p (.dK []))
theorem xdict0 : XE X (.Dict [] [] pos) tDict0 := by
  refine ⟨fun pins s σ H Q I h => wpAny_Dict_empty ?_⟩
  have big : 1 < s.heap.objs.size := by
    obtain ⟨o, es, ep, ho, _⟩ := I.mod.glob
    exact Nat.lt_of_le_of_lt (by decide : 1 ≤ mainGlobals) (Heap.lt_size (I.bk _ _ ho))
  refine ⟨.ref s.heap.objs.size, _, I.laid (a := s.heap.objs.size) (o := .dK []) (t' := s.toks) (fun _ _ q => Heap.get?_push_of_some _ q) (Nat.le_refl _) ⟨Nat.zero_le _, ?_, [], .nil, Heap.DictOf.new s.heap⟩, rfl, h _ (I.hok.fresh (Nat.le_refl _))⟩
  exact beq_eq_false_iff_ne.mpr (show s.heap.objs.size ≠ 1 by omega)
theorem op_mulS : OpR X (binaryOp .Mult) (fun x y H Q => ∃ z n, x = .str z ∧ y = .int n ∧ z.length ≤ 1000 ∧ 0 ≤ n ∧ n ≤ 1000 ∧ Q (.str (Txt.mul z n)) H) := by
  intro pins s σ H x y v u Q I rx ry h
  obtain ⟨z, n, rfl, rfl, hz, h0, h1, q⟩ := h
  obtain ⟨t, rfl⟩ := rx
  obtain ⟨t', rfl⟩ := ry
  refine wpAny_with_toks (n := 1) I.tk (SB.mul ?_ fun t' k htk => ⟨.str (Txt.mul z n), H, I.tok _ htk, ⟨_, rfl⟩, q⟩)
  have hs : sizeLine = 16777216 := sizeLine_eq
  have hm : (z.length : Int) * n ≤ 1000 * 1000 := Int.mul_le_mul (by omega) h1 h0 (by omega)
  have hm2 : z.length * n.toNat ≤ 1000 * 1000 := Nat.mul_le_mul hz (by omega)
  refine ⟨?_, fun _ _ => ?_, fun _ _ => ?_⟩
  · have e1 : decide (n < -(2 ^ 63 : Int)) = false := decide_eq_false (by omega)
    have e2 : decide (n ≥ 2 ^ 63) = false := decide_eq_false (by omega)
    rw [e1, e2]; rfl
  · intro q
    rename_i a _
    have hp : 0 < n := by omega
    have h9 : (z.length : Int) ≤ (2 ^ 63 - 1 : Int) / n := (Int.le_ediv_iff_mul_le hp).mpr (by omega)
    omega
  · unfold tooLong
    exact decide_eq_false (by omega)
end
end L2

set_option Elab.async false
set_option linter.all false
set_option maxRecDepth 100000
/-! rules for a comprehension's block that name the outer context's fragment -/
namespace L2
open PySem PySem.Spec PyProof.Rows
section
variable {X : Cx} {scope : Scope} {cl : List (Str × Addr)} {C : Addr} {N' : List Str} {fp : List Addr} {s : Shared} {H : Hp} {o e : Expr} {es : List Expr} {to : TE} {t : TA} {apos cpos : Pos}
end
end L2

set_option Elab.async false
set_option linter.all false
set_option maxRecDepth 100000
/-! Closures: a def within a def, what it captures, a call with it, a call of it. -/
namespace L2
open PySem PySem.Spec PyProof.Rows

/-! ### the closure's body -/





end L2

set_option Elab.async false
set_option linter.all false
set_option maxRecDepth 100000
/-! A def within a def: the statement. -/
namespace L2
open PySem PySem.Spec PyProof.Rows

/-! ### what it captures -/

/-! ### the table of a def's codes -/







section
variable {X : Cx} {c P : Addr} {name : Str} {params : Arguments} {body : List Stmt} {scope : Scope} {pos : Pos} {qs : List (Pos × Str)} {i : Nat}
end
end L2

set_option Elab.async false
set_option linter.all false
set_option maxRecDepth 100000
/-! A call with closures: the callee's base holds them. A call of a closure. -/
namespace L2
open PySem PySem.Spec PyProof.Rows



section
variable {X : Cx} {pins : List (Addr × Obj)} {σ : St} {H : Hp} {s : Shared} {D : List Clo}


end

section
variable {X : Cx} {k i : Nat} {x : Str} {ps : List Str} {sp : Sp} {e : Expr} {es : List Expr} {te : TE} {t : TA} {p pos : Pos}

end
end L2

set_option Elab.async false
set_option linter.all false
set_option maxRecDepth 100000
/-! The head with tables of codes; a def that has defs within it. -/
namespace L2
open PySem PySem.Spec PyProof.Rows

section
variable {P : Program} {w : World} {K : PySem.W.Frag} {mg : Str → Option Value} {base : Heap}
end

/-! ### the fragment without the tables -/

end L2

/-! Texts as lists of signs: splitting, words, tidy, cells. -/
namespace Lm
/-- the pieces of l between the signs c -/
def splitC (c : Nat) : List Nat → List (List Nat)
  | [] => [[]]
  | x :: r => if x = c then [] :: splitC c r else
    match splitC c r with
    | h :: t => (x :: h) :: t
    | [] => [[x]]
theorem splitC_ne (c : Nat) : ∀ l : List Nat, splitC c l ≠ []
  | [] => by simp [splitC]
  | x :: r => by
    unfold splitC
    split
    · simp
    · split <;> simp
theorem splitC_cons (c x : Nat) (r : List Nat) (h : x ≠ c) : ∃ p t, splitC c r = p :: t ∧ splitC c (x :: r) = (x :: p) :: t := by
  have e : splitC c (x :: r) = match splitC c r with
      | h :: t => (x :: h) :: t
      | [] => [[x]] := by
    rw [splitC, if_neg h]
  cases q : splitC c r with
  | nil => exact absurd q (splitC_ne c r)
  | cons p t => exact ⟨p, t, rfl, by rw [e, q]⟩
theorem splitC_sep (c : Nat) (r : List Nat) : splitC c (c :: r) = [] :: splitC c r := by rw [splitC, if_pos rfl]
theorem splitC_free (c : Nat) : ∀ l : List Nat, c ∉ l → splitC c l = [l]
  | [], _ => rfl
  | x :: r, h => by
    have hx : x ≠ c := fun e => h (by simp [e])
    have ih := splitC_free c r fun z => h (List.mem_cons_of_mem _ z)
    obtain ⟨p, t, e1, e2⟩ := splitC_cons c x r hx
    rw [ih] at e1
    cases e1
    exact e2
theorem splitC_app (c : Nat) : ∀ (a r : List Nat), c ∉ a → splitC c (a ++ c :: r) = a :: splitC c r
  | [], r, _ => by rw [List.nil_append, splitC_sep]
  | x :: a, r, h => by
    have hx : x ≠ c := fun e => h (by simp [e])
    have ih := splitC_app c a r fun z => h (List.mem_cons_of_mem _ z)
    obtain ⟨p, t, e1, e2⟩ := splitC_cons c x (a ++ c :: r) hx
    rw [ih] at e1
    cases e1
    exact e2
/-- glue -/
def glueC (g : List Nat) : List (List Nat) → List Nat
  | [] => []
  | [p] => p
  | p :: q :: r => p ++ g ++ glueC g (q :: r)
theorem glueC_cons (g p : List Nat) (r : List (List Nat)) (h : r ≠ []) : glueC g (p :: r) = p ++ g ++ glueC g r := by
  cases r with
  | nil => exact absurd rfl h
  | cons q r => rfl
theorem split_glue (c : Nat) : ∀ ps : List (List Nat), ps ≠ [] → (∀ p ∈ ps, c ∉ p) → splitC c (glueC [c] ps) = ps
  | [], h, _ => absurd rfl h
  | [p], _, hp => splitC_free c p (hp p (by simp))
  | p :: q :: r, _, hp => by
    show splitC c (p ++ [c] ++ glueC [c] (q :: r)) = _
    rw [List.append_assoc, List.singleton_append, splitC_app c p _ (hp p (by simp)), split_glue c (q :: r) (by simp) fun z hz => hp z (List.mem_cons_of_mem _ hz)]
end Lm

set_option linter.all false
namespace Lm
open PySem PySem.Builtin PySem.Builtin.Str PySem.StrLaws
abbrev S (l : List Nat) : Str := ⟨l.toArray⟩
theorem S_len (l : List Nat) : (S l).length = l.length := by simp [Str.length]
theorem S_list (l : List Nat) : (S l).cps.toList = l := by simp
theorem S_of (x : Str) : S x.cps.toList = x := by cases x; simp
theorem S_inj {a b : List Nat} (h : S a = S b) : a = b := by
  have := congrArg (fun x : Str => x.cps.toList) h
  simpa using this
theorem S_app (a b : List Nat) : S a ++ S b = S (a ++ b) := by
  show Str.append (S a) (S b) = _
  simp [Str.append]
theorem join_S (g : List Nat) : ∀ ps : List Str, (Str.join (S g) ps).cps.toList = glueC g (ps.map fun p => p.cps.toList)
  | [] => rfl
  | [p] => rfl
  | p :: q :: r => by
    show ((p ++ S g ++ Str.join (S g) (q :: r)) : Str).cps.toList = _
    rw [Str.cps_append, Str.cps_append, Array.toList_append, Array.toList_append, join_S g (q :: r)]
    rfl
theorem split_S (c : Nat) (l : List Nat) : Txt.split (S l) (S [c]) = (splitC c l).map S := by
  have h1 := join_split (S l) (S [c])
  have h2 := split_free (S l) c
  have h3 : ∀ ps : List Str, ps = (ps.map fun p => p.cps.toList).map S := fun ps => by
    rw [List.map_map]
    conv => lhs; rw [← List.map_id ps]
    refine List.map_congr_left fun p _ => ?_
    exact (S_of p).symm
  have h4 : glueC [c] ((Txt.split (S l) (S [c])).map fun p => p.cps.toList) = l := by
    have := congrArg (fun x : Str => x.cps.toList) h1
    simp only [S_list] at this
    rw [← join_S]
    exact this
  have ne : (Txt.split (S l) (S [c])).map (fun p => p.cps.toList) ≠ [] := by
    unfold Txt.split
    split
    · simp
    · split
      · simp
      · rw [partsBetween_eq]
        obtain ⟨p, r, e⟩ := partsFrom_ne (S l) (S [c]).length 0 (occurrences (S l) (S [c]) 0 (S l).length ((S l).length + 1))
        rw [e]; simp
  have h5 := split_glue c _ ne (fun p hp => by
    obtain ⟨q, hq, rfl⟩ := List.mem_map.mp hp
    exact h2 q hq)
  rw [h4] at h5
  rw [h5]
  exact h3 _
theorem glued_S (g : List Nat) (ps : List (List Nat)) : glued (S g) (ps.map S) = S (glueC g ps) := by
  have key : ∀ (ps : List (List Nat)) (acc : List Nat), (ps.map S).foldl (fun acc p => acc ++ (S g).cps ++ p.cps) acc.toArray = (acc ++ (ps.map fun p => g ++ p).flatten).toArray := by
    intro ps
    induction ps with
    | nil => intro acc; simp
    | cons p r ih =>
      intro acc
      rw [List.map_cons, List.foldl_cons]
      have e : acc.toArray ++ (S g).cps ++ (S p).cps = (acc ++ g ++ p).toArray := by simp
      rw [e, ih]
      simp
  have gl : ∀ (p : List Nat) (r : List (List Nat)), glueC g (p :: r) = p ++ (r.map fun p => g ++ p).flatten := by
    intro p r
    induction r generalizing p with
    | nil => simp [glueC]
    | cons q r ih => rw [glueC_cons g p (q :: r) (by simp), ih q]; simp
  unfold glued
  cases ps with
  | nil => rfl
  | cons p r =>
    rw [gl]
    show (⟨(List.drop 1 (S p :: r.map S)).foldl _ (S p).cps⟩ : Str) = _
    rw [List.drop_one, List.tail_cons, key]
theorem joinT_S (g : List Nat) (ps : List (List Nat)) : Txt.join (S g) (ps.map S) = S (glueC g ps) := glued_S g ps
/-! ### stripping -/
def rstripL (p : Nat → Bool) (l : List Nat) : List Nat := (l.reverse.dropWhile p).reverse
theorem take_len_sub (l : List Nat) (p : Nat → Bool) : l.take (l.length - (l.reverse.takeWhile p).length) = rstripL p l := by
  unfold rstripL
  have h : l.reverse = l.reverse.takeWhile p ++ l.reverse.dropWhile p := (List.takeWhile_append_dropWhile).symm
  have h2 : l = (l.reverse.dropWhile p).reverse ++ (l.reverse.takeWhile p).reverse := by
    have := congrArg List.reverse h
    rw [List.reverse_reverse, List.reverse_append] at this
    exact this
  conv => lhs; arg 2; rw [h2]
  have e : l.length - (l.reverse.takeWhile p).length = (l.reverse.dropWhile p).reverse.length := by
    have := congrArg List.length h
    rw [List.length_append, List.length_reverse] at this
    rw [List.length_reverse]
    omega
  rw [e, List.take_left]
theorem rstrip_S (l y : List Nat) : Txt.rstripChars (S l) (S y) = S (rstripL y.contains l) := by
  have e : (S y).cps.contains = y.contains := by funext c; simp
  unfold Txt.rstripChars Txt.stripBy
  rw [e]
  have h0 : stripLo y.contains false (S l) = 0 := rfl
  have h1 : stripHi y.contains true (S l) 0 = l.length - (l.reverse.takeWhile y.contains).length := by
    simp [stripHi, Str.length]
  split
  · rename_i h
    rw [stripSame, h0, h1] at h
    simp only [beq_self_eq_true, Bool.true_and, beq_iff_eq, S_len] at h
    rw [← take_len_sub, h, List.take_length]
  · rw [stripped, h0, h1]
    unfold strSub
    rw [← take_len_sub]
    simp
theorem lstrip_S (l y : List Nat) : Txt.lstripChars (S l) (S y) = S (l.dropWhile y.contains) := by
  have e : (S y).cps.contains = y.contains := by funext c; simp
  have hd : l.drop (l.takeWhile y.contains).length = l.dropWhile y.contains := by
    conv => lhs; arg 2; rw [← List.takeWhile_append_dropWhile (p := y.contains) (l := l)]
    rw [List.drop_left]
  unfold Txt.lstripChars Txt.stripBy
  rw [e]
  have h0 : stripLo y.contains true (S l) = (l.takeWhile y.contains).length := by simp [stripLo]
  have h1 : ∀ k, stripHi y.contains false (S l) k = l.length := fun k => by simp [stripHi, Str.length]
  split
  · rename_i h
    rw [stripSame, h0, h1] at h
    simp only [Bool.and_eq_true, beq_iff_eq] at h
    rw [← hd, h.1, List.drop_zero]
  · rw [stripped, h0, h1]
    unfold strSub
    rw [← hd]
    simp only [List.extract_toArray, List.extract_eq_take_drop]
    rw [List.take_of_length_le (by rw [List.length_drop]; exact Nat.le_refl _)]
/-! ### occurrences -/
theorem subAt_S (l y : List Nat) (i : Nat) : subAt (S l) (S y) i = decide ((l.drop i).take y.length = y) := by
  unfold subAt
  rw [Bool.eq_iff_iff]
  simp only [beq_iff_eq, decide_eq_true_eq]
  rw [← Array.toList_inj]
  simp [S_len]
theorem At_S (l y : List Nat) (i : Nat) : At (S l) (S y) (S l).length i ↔ i + y.length ≤ l.length ∧ (l.drop i).take y.length = y := by
  unfold At
  rw [subAt_S, S_len, S_len]
  simp
theorem starts_S (l y : List Nat) : Txt.startswith (S l) (S y) = y.isPrefixOf l := by
  unfold Txt.startswith
  rw [subAt_S, S_len, S_len, Bool.eq_iff_iff]
  simp only [Nat.zero_add, List.drop_zero, Bool.and_eq_true, decide_eq_true_eq, List.isPrefixOf_iff_prefix]
  constructor
  · rintro ⟨_, h⟩
    exact ⟨l.drop y.length, by conv => lhs; arg 1; rw [← h]
                               exact List.take_append_drop _ _⟩
  · rintro ⟨t, rfl⟩
    simp
theorem lower_S (l : List Nat) (h : ∀ c ∈ l, c < 128) : Txt.lower (S l) = S (l.map PyProof.Rows.lo1) := by
  rw [PyProof.Rows.lower_ascii (by simpa using h)]
  simp
theorem contains_S (l : List Nat) (c : Nat) : (!(occurrences (S l) (S [c]) 0 (S l).length 1).isEmpty) = l.contains c := by
  rw [found_one, Bool.eq_iff_iff]
  simp

/-! ### replace -/
theorem replace_eq (x y z : Str) : Txt.replace x y z = glued z (partsBetween x (occurrences x y 0 x.length (x.length + 1)) y.length) := by
  unfold Txt.replace
  split
  · rename_i h
    rcases Bool.or_eq_true_iff.mp h with h | h
    · rw [List.isEmpty_iff.mp h]
      have e : partsBetween x [] y.length = [x] := by
        rw [partsBetween_eq]; show [strSub x 0 x.length] = [x]; rw [sub_whole]
      rw [e]; rfl
    · simp only [Bool.and_eq_true, beq_iff_eq] at h
      have e : z = y := by
        obtain ⟨a⟩ := y; obtain ⟨b⟩ := z
        simp only [Str.length, Array.size_eq_zero_iff] at h; rw [h.1, h.2]
      rw [e, glued_between_self]
  · rfl
theorem cuts_one (c : Nat) (l : List Nat) : partsBetween (S l) (occurrences (S l) (S [c]) 0 (S l).length ((S l).length + 1)) (S [c]).length = (splitC c l).map S := by
  have h := split_S c l
  unfold Txt.split at h
  split at h
  · rename_i hk
    have no : occurrences (S l) (S [c]) 0 (S l).length ((S l).length + 1) = [] := by
      have hc : c ∉ l := by
        rw [Bool.or_eq_true, decide_eq_true_eq, decide_eq_true_eq] at hk
        rcases hk with hk | hk
        · rw [S_len, S_len] at hk
          have : l = [] := by cases l; rfl; simp at hk
          subst this; simp
        · have := kind_free (S l) c hk
          simpa using this
      cases q : occurrences (S l) (S [c]) 0 (S l).length ((S l).length + 1) with
      | nil => rfl
      | cons i r =>
        obtain ⟨f, hG, _⟩ := occ_tight (S l) (S [c]) (Nat.le_refl 1)
        rw [q] at hG
        have := (subAt_one (S l) c i).mp hG.2.1
        rw [S_list] at this
        exact absurd (List.mem_of_getElem? this) hc
    rw [no, partsBetween_eq]
    show [strSub (S l) 0 (S l).length] = _
    rw [sub_whole]
    exact h
  · split at h
    · rename_i he
      rw [List.isEmpty_iff.mp he, partsBetween_eq]
      show [strSub (S l) 0 (S l).length] = _
      rw [sub_whole]
      exact h
    · exact h
theorem replace_one (c : Nat) (z l : List Nat) : Txt.replace (S l) (S [c]) (S z) = S (glueC z (splitC c l)) := by
  rw [replace_eq, cuts_one, glued_S]
/-! ### slices -/
end Lm

set_option linter.all false
namespace Lm
/-! ### the texts between bars -/
/-! ### one more sign -/
/-! ### bars with a backslash -/
end Lm

set_option linter.all false
namespace Lm
/-! ### blanks at the ends -/
/-! ### names -/
def nameSigns : List Nat := [97, 98, 99, 100, 101, 102, 103, 104, 105, 106, 107, 108, 109, 110, 111, 112, 113, 114, 115, 116, 117, 118, 119, 120, 121, 122, 65, 66, 67, 68, 69, 70, 71, 72, 73, 74, 75, 76, 77, 78, 79, 80, 81, 82, 83, 84, 85, 86, 87, 88, 89, 90, 48, 49, 50, 51, 52, 53, 54, 55, 56, 57]
def isNameC (l : List Nat) : Bool := decide (1 ≤ l.length) && decide (l.length ≤ 12) && l.all nameSigns.contains
def smallC (l : List Nat) : List Nat := l.map PyProof.Rows.lo1
/-! ### sorts -/
/-! ### the law's way -/
/-! headings -/
end Lm

set_option linter.all false
namespace Lm
/-! ### lengths -/
/-! ### signs below 128 -/
def Asc (l : List Nat) : Prop := ∀ c ∈ l, c < 128
theorem strOk_S {l : List Nat} (h : Asc l) : PySem.PyData.strOk (S l) = true := by
  unfold PySem.PyData.strOk
  rw [Array.all_eq_true_iff_forall_mem]
  intro c hc
  have : c ∈ l := by simpa using hc
  have := h c this
  exact decide_eq_true (by omega)
/-! ### the pieces between places -/
end Lm

set_option Elab.async false
set_option linter.all false
set_option maxRecDepth 100000
set_option maxHeartbeats 4000000
namespace Lw
open PySem L2 Lm
theorem big {n : Nat} (h : n ≤ 1000000) : n ≤ sizeLine := by rw [sizeLine_eq]; omega
theorem bigS {l : List Nat} (h : l.length ≤ 1000000) : (S l).length ≤ sizeLine := by rw [S_len]; exact big h
theorem at_S {l : List Nat} {i : Nat} (h : i < l.length) : atI (S l).cps.toList (i : Int) = some (l.getD i 0) := by
  rw [S_list]
  refine atI_nat ?_
  rw [List.getD_eq_getElem?_getD, List.getElem?_eq_getElem h]
  simp
section
variable {a b : List Nat} {x y : V}
end
section
variable {P : Program} {w : World} {K : PySem.W.Frag} {mg : Str → Option Value} {base : Heap}
/-! is_parting_bar -/
/-! words_of -/
/-! tidy -/
theorem map_S_V (ws : List (List Nat)) : (ws.map fun w => V.str (S w)) = (ws.map S).map V.str := by rw [List.map_map]; rfl
end
abbrev vS (l : List Nat) : V := .str (S l)
section
variable {P : Program} {w : World} {K : PySem.W.Frag} {mg : Str → Option Value} {base : Heap}
/-! split_cells -/
end
section
variable {P : Program} {w : World} {K : PySem.W.Frag} {mg : Str → Option Value} {base : Heap}
/-! is_name -/
def inNames : V → V
  | .str x => .bl (x.cps.toList.all nameSigns.contains)
  | _ => .bl false
/-! name_of -/
def spNameOf : Sp := fun vs H Q _ => ∃ l : List Nat, vs = [vS l] ∧ l.length ≤ 1000000 ∧ isNameC l = true ∧ ∀ H', Same H H' → Q (vS (smallC l)) H'
theorem name_asc {l : List Nat} (h : isNameC l = true) : Asc l := by
  intro c hc
  unfold isNameC at h
  rw [Bool.and_eq_true] at h
  have := List.all_eq_true.mp h.2 c hc
  have key : ∀ x ∈ nameSigns, x < 128 := by decide
  exact key c (by simpa using this)
/-! rest_of_quote -/
/-! heading_level -/
/-! is_cells -/
end
/-- what a test tells, the heap grown -/
def Tells (t : TT) (σ : St) (H : Hp) (a : Bool) : Prop := ∀ R : Bool → Hp → Prop, (∀ H', Same H H' → R a H') → t σ H R
theorem t_and {t u : TT} {σ : St} {H : Hp} (a b : Bool) (ht : Tells t σ H a) (hu : a = true → ∀ H1, Same H H1 → Tells u σ H1 b) : Tells (tAnd t u) σ H (a && b) := by
  intro R k
  refine ht _ fun H1 s1 => ?_
  cases a with
  | true => exact hu rfl H1 s1 R fun H' s' => k H' (s1.trans s')
  | false => exact k H1 s1
theorem t_or {t u : TT} {σ : St} {H : Hp} (a b : Bool) (ht : Tells t σ H a) (hu : a = false → ∀ H1, Same H H1 → Tells u σ H1 b) : Tells (tOr t u) σ H (a || b) := by
  intro R k
  refine ht _ fun H1 s1 => ?_
  cases a with
  | false => exact hu rfl H1 s1 R fun H' s' => k H' (s1.trans s')
  | true => exact k H1 s1
theorem t_not {t : TT} {σ : St} {H : Hp} (a : Bool) (ht : Tells t σ H a) : Tells (tNot t) σ H (!a) := fun R k => ht _ fun H1 s1 => k H1 s1
theorem s_if {t : TT} {f g : TS} {D : Ends} {σ : St} {H : Hp} (a : Bool) (ht : Tells t σ H a) (k1 : ∀ H', Same H H' → a = true → f D σ H') (k2 : ∀ H', Same H H' → a = false → g D σ H') : tIfS t f g D σ H :=
  ht _ fun H' s' => ite2 (k1 H' s') fun c => k2 H' s' (Bool.eq_false_iff.mpr c)
section
variable {P : Program} {w : World} {K : PySem.W.Frag} {mg : Str → Option Value} {base : Heap}
/-! definition_of -/
end
section
variable {P : Program} {w : World} {K : PySem.W.Frag} {mg : Str → Option Value} {base : Heap}
/-! item_or_plain -/
/-! sort_of -/
end
section
variable {P : Program} {w : World} {K : PySem.W.Frag} {mg : Str → Option Value} {base : Heap}
/-! _law_mixed -/
/-! _law_signs -/
end
theorem w_ixs {H : Hp} {l : List Nat} {i : Int} {Q : VK} (hl : l.length ≤ 1000000) (h0 : 0 ≤ i) (h1 : i < (l.length : Nat)) (k : Q (vS [l.getD i.toNat 0]) H) : rIxS (vS l) (.int i) H Q := by
  have e := at_S (l := l) (i := i.toNat) (by omega)
  rw [show ((i.toNat : Nat) : Int) = i by omega] at e
  exact ⟨_, i, _, rfl, rfl, bigS hl, e, k⟩
section
variable {P : Program} {w : World} {K : PySem.W.Frag} {mg : Str → Option Value} {base : Heap}
/-! _law_row -/
end
/-! what an expression tells, the heap as it was -/
def Ev (te : TE) (σ : St) (H : Hp) (v : V) : Prop := ∀ R : VK, R v H → te σ H R
section
variable {σ : St} {H : Hp} {ta tb : TE} {i j : Int} {a b l : List Nat} {v : V}
theorem ev_v {k : Nat} (h : σ[k]? = some (some v)) : Ev (tVar k) σ H v := fun R r => ⟨v, h, r⟩
theorem ev_c : Ev (tC v) σ H v := fun R r => r
theorem ev_un {g : Int → V} (h1 : Ev ta σ H (.int i)) (e : g i = v) : Ev (tUn (rU g) ta) σ H v := fun R r => h1 _ ⟨i, rfl, by rw [e]; exact r⟩
theorem t_eqi (h1 : Ev ta σ H (.int i)) (h2 : Ev tb σ H (.int j)) : Tells (tTest (tOp rEq ta tb)) σ H (decide (i = j)) := fun R k => h1 _ (h2 _ ⟨rfl, _, rfl, by
  rw [show decide (V.int i = V.int j) = decide (i = j) from decide_eq_decide.mpr ⟨fun h => V.int.inj h, fun h => by rw [h]⟩]
  exact k H (Same.refl H)⟩)
end
theorem while_t {c : TT} {tb : TS} {D : Ends} {σ : St} {H : Hp} (Pv : Nat → St → Hp → Prop) (m0 : Nat) (h0 : Pv m0 σ H)
    (hs : ∀ m σ H, Pv m σ H → ∃ a, Tells c σ H a ∧ (a = true → ∀ H', Same H H' → tb { D with nx := fun σ' H' => ∃ m', m' < m ∧ Pv m' σ' H', ct := fun σ' H' => ∃ m', m' < m ∧ Pv m' σ' H', bk := D.nx } σ H') ∧ (a = false → ∀ H', Same H H' → D.nx σ H')) : tWhile c tb D σ H := by
  refine ⟨Pv, ⟨m0, h0⟩, fun m σ H p => ?_⟩
  obtain ⟨a, ht, h1, h2⟩ := hs m σ H p
  exact ht _ fun H' s' => ite2 (fun c => ⟨fun σ' H' => ∃ m', m' < m ∧ Pv m' σ' H', fun σ' H' h => h, h1 c H' s'⟩) fun c => h2 (Bool.eq_false_iff.mpr c) H' s'
/-! ### the bounds -/
section
variable {P : Program} {w : World} {K : PySem.W.Frag} {mg : Str → Option Value} {base : Heap}
/-! _law_bounds -/
end
section
variable {P : Program} {w : World} {K : PySem.W.Frag} {mg : Str → Option Value} {base : Heap}
/-! _law_cells -/
/-! _law_name -/
end
section
variable {P : Program} {w : World} {K : PySem.W.Frag} {mg : Str → Option Value} {base : Heap}
/-! _law_flush -/
/-! _law_due -/
end
/-! ### sorts as data -/
section
variable {K : PySem.W.Frag} {H : Hp}
end
/-! ### what sort_of tells is of the row's signs -/
section
variable {P : Program} {w : World} {K : PySem.W.Frag} {mg : Str → Option Value} {base : Heap}
end
end Lw

set_option Elab.async false
set_option linter.all false
set_option maxRecDepth 100000
namespace Lw
open PySem L2 Lm
theorem mul_S (c : Nat) (n : Nat) : Txt.mul (S [c]) (n : Int) = S (List.replicate n c) := by
  unfold Txt.mul
  by_cases h : (n : Int) < 1
  · rw [if_pos h]
    have : n = 0 := by omega
    subst this
    rfl
  · rw [if_neg h]
    by_cases h1 : n = 1
    · subst h1; rfl
    · rw [if_neg (by
        rw [Bool.or_eq_true]
        rintro (z | z)
        · have : (n : Int) = 1 := by simpa using z
          omega
        · rw [S_len] at z; simp at z)]
      have key : ∀ (m : Nat) (acc : List Nat), List.foldl (fun x1 x2 => x1 ++ x2) acc.toArray (List.replicate m (S [c]).cps) = (acc ++ List.replicate m c).toArray := by
        intro m
        induction m with
        | zero => intro acc; simp
        | succ m ih =>
          intro acc
          rw [List.replicate_succ, List.foldl_cons]
          have e : acc.toArray ++ (S [c]).cps = (acc ++ [c]).toArray := by simp
          rw [e, ih (acc ++ [c]), List.replicate_succ]
          simp
      have := key n []
      rw [show (n : Int).toNat = n by omega]
      simp only [List.nil_append] at this
      rw [show (#[] : Array Nat) = ([] : List Nat).toArray from rfl, this]
section
variable {neat loose : List Nat}
/-! ### cells -/
end
end Lw

set_option linter.all false
namespace Lw
open PySem L2 Lm
/-! ### shares -/
end Lw

set_option Elab.async false
set_option linter.all false
set_option maxRecDepth 100000
namespace L2
open PySem PySem.Spec PyProof.Rows
section
variable {X : Cx} {c P : Addr} {k i : Nat} {x name : Str} {ps : List Str} {e : Expr} {es : List Expr} {t : TA} {p pos : Pos} {params : Arguments} {body : List Stmt} {scope : Scope} {qs : List (Pos × Str)}
theorem star_parts (hst : noStars (e :: es) = true) : isStar e = false ∧ noStars es = true := by
  unfold noStars at hst
  rw [Bool.and_eq_true, Bool.not_eq_true'] at hst
  exact hst
end
end L2
namespace Lm
/-! ### words filled -/
end Lm

set_option Elab.async false
set_option linter.all false
set_option maxRecDepth 100000
namespace L2
open PySem PySem.Spec PyProof.Rows
section
variable {X : Cx}
end
end L2

set_option Elab.async false
set_option linter.all false
set_option maxRecDepth 100000
/-! Objects of own classes: made, their values read and stored, their methods called, by the class that they are of. -/
namespace L2
open PySem PySem.Spec PyProof.Rows
section
variable {X : Cx} {k : Nat} {C : Addr} {x m f : Str} {ps : List Str} {sp : Sp} {e o value : Expr} {es : List Expr} {ta tv : TE} {t : TA} {p pos pos' apos : Pos}
theorem xfld (he : XE X e ta) (hb : plainBase e = true := by rfl) : XE X (.Attribute e f pos) (tFld X.K ta f) := ⟨pe_fld he.h (base_of hb)⟩
theorem xsetfld (ha : XE X o ta) (hv : XE X value tv) (hs : swapsWith value (some (.Attribute o f pos')) pos.line X.env = pure false := by rfl) : XS X (.Assign [.Attribute o f pos'] value pos) (sFld X.K ta tv f) := ⟨ps_fld ha.h hv.h hs⟩
/-- C(..) -/
structure New (P : Program) (w : World) (K : PySem.W.Frag) (mg : Str → Option Value) (base : Heap) (k : Nat) (x : Str) (C : Addr) (ps : List Str) (sp : Sp) : Prop where
  ex : ∃ f fd, Mk K C f ∧ FnOk P w K mg base CX0 k f fd ps sp ∧ mg x = some (.ref C) ∧ Binds K fd ps []
theorem xnew (D : New X.prog X.w X.K X.mg X.base k x C ps sp) (hr : Room (k + 1) X.A) (ha : XA X (e :: es) t) (hg : Gl X x := by exact rfl) (hdb : (x == ("__debug__" : Str)) = false := by decide) (hst : noStars (e :: es) = true := by rfl) :
    XE X (.Call (.Name x p) (e :: es) [] pos) (tMake C sp [] E0 t) := by
  obtain ⟨f, fd, M, F, hm, hb⟩ := D.ex
  exact ⟨pe_make M F hr hg hm hb .nil pass0 ha.h hdb (star_cons (star_parts hst).1) (stars_any (star_parts hst).2)⟩
/-- the method m of the class at C -/
structure MethV (P : Program) (w : World) (K : PySem.W.Frag) (mg : Str → Option Value) (base : Heap) (k : Nat) (C : Addr) (m : Str) (ps : List Str) (sp : Sp) : Prop where
  ex : ∃ f fd, Cls K C ∧ Meth K C m f ∧ FnOk P w K mg base CX0 k f fd ps sp ∧ Binds K fd ps []
theorem MethV.mono {P : Program} {w : World} {K : PySem.W.Frag} {mg : Str → Option Value} {base : Heap} {j k : Nat} {C : Addr} {m : Str} {ps : List Str} {sp : Sp} (V : MethV P w K mg base j C m ps sp) (h : j ≤ k) : MethV P w K mg base k C m ps sp := let ⟨f, fd, a, b, F, c⟩ := V.ex; ⟨f, fd, a, b, F.mono h, c⟩
/-- o.m(..), of whatever class o is -/
def tMethV (X : Cx) (k : Nat) (m : Str) (ta : TE) (t : TA) : TE := fun σ H Q => ta σ H fun x H1 => ∃ a C dx fs ps sp, x = .ref a ∧ H1 a = some (.ins C dx fs) ∧ fs.lookup m = none ∧ MethV X.prog X.w X.K X.mg X.base k C m ps sp ∧ t σ H1 fun vs H2 => sp (x :: vs) H2 Q E0
theorem xmV0 {pl : Sem Bool} (he : XE X o ta) (hr : Room k X.A)
    (ht : eval (.Call (.Attribute o m apos) [] [] pos) X.env = (do
      let ov ← eval o X.env
      standAt apos.atName
      let (f, first) ← holding [ov] (getMethod ov m pl)
      callWith pos f first (backTo pos (starEach [] X.env)) (backToKw pos (keywordEach [] X.env))) := by rfl) :
    XE X (.Call (.Attribute o m apos) [] [] pos) (tMethV X k m ta tNil) := by
  refine ⟨fun pins s σ H Q I h => ?_⟩
  refine PySem.W.methodCall_KW (pl := pl) (thn (he.h pins s σ H _ I h) fun u s1 ⟨x, H1, I1, rx, a, C, dx, fs, ps, sp, ex, ea, l, V, q⟩ => ?_) ht
  subst ex
  obtain rfl : u = Value.ref a := rx
  obtain ⟨f, fd, c, hm, F, hb⟩ := V.ex
  refine getmeth_ok I1 ea c hm l ?_
  exact PySem.W.callWith_K0 (first := [.ref a]) I1.kIn hm.kp (run_fn (us := [.ref a]) (vs := [.ref a]) (ds := []) (dvs := []) F hr hb .nil pass0 I1 (.cons rfl .nil) (by rw [List.append_nil]; exact q))
end
end L2

set_option Elab.async false
set_option linter.all false
set_option maxRecDepth 100000
/-! A def that makes a closure and gives it back: its cells are the closure's alone. -/
namespace L2
open PySem PySem.Spec PyProof.Rows
section
variable {P : Program} {w : World} {K : PySem.W.Frag} {mg : Str → Option Value} {base : Heap}
end
end L2

set_option Elab.async false
set_option linter.all false
set_option maxRecDepth 100000
/-! x op= e, continue, a list beside the empty one -/
namespace L2
open PySem PySem.Spec PyProof.Rows
section
variable {X : Cx} {e : Expr} {te : TE} {x : Str} {pos : Pos}
/-- xs == [], xs != [] -/
def rEq0 (K : PySem.W.Frag) (neg : Bool) : R2 := fun x y H Q => ∃ p q xs, x = .ref p ∧ y = .ref q ∧ SqL K H p xs ∧ SqL K H q [] ∧ Q (.bl (if neg then !xs.isEmpty else xs.isEmpty)) H
theorem op_eq0 (hu : X.A.units + 64 < cLine) : OpR X (compareOp .Eq) (rEq0 X.K false) := by
  intro pins s σ H x y v u Q I rx ry h
  obtain ⟨p, q, xs, rfl, rfl, hp, hq, k⟩ := h
  cases rx
  cases ry
  obtain ⟨its, r, pl, _⟩ := I.list hp
  obtain ⟨its2, r2, pl2, _⟩ := I.list hq
  have e2 := r2.length
  have e1 := r.length
  cases its2 with
  | cons _ _ => simp at e2
  | nil =>
  cases its with
  | nil =>
    cases xs with
    | cons _ _ => simp at e1
    | nil => exact SeqAt.eq_listAt (e := fun _ => true) pl.isList pl2.isList rfl (by omega) (fun j h1 _ => absurd h1 (Nat.not_lt_zero _)) ⟨.bl _, H, I, rfl, k⟩
  | cons _ _ =>
    cases xs with
    | nil => simp at e1
    | cons _ _ => exact SeqAt.eq_list_lengthsAt pl.isList pl2.isList (by simp) (by omega) ⟨.bl _, H, I, rfl, k⟩
theorem op_ne0 (hu : X.A.units + 64 < cLine) : OpR X (compareOp .NotEq) (rEq0 X.K true) := by
  intro pins s σ H x y v u Q I rx ry h
  obtain ⟨p, q, xs, rfl, rfl, hp, hq, k⟩ := h
  cases rx
  cases ry
  obtain ⟨its, r, pl, _⟩ := I.list hp
  obtain ⟨its2, r2, pl2, _⟩ := I.list hq
  have e2 := r2.length
  have e1 := r.length
  cases its2 with
  | cons _ _ => simp at e2
  | nil =>
  cases its with
  | nil =>
    cases xs with
    | cons _ _ => simp at e1
    | nil => exact SeqAt.RcNeAt.lists (e := fun _ => true) pl.isList pl2.isList rfl (by omega) (fun j h1 _ => absurd h1 (Nat.not_lt_zero _)) _ _ _ _ ⟨.bl _, H, I, rfl, k⟩
  | cons _ _ =>
    cases xs with
    | nil => simp at e1
    | cons _ _ => exact SeqAt.RcNeAt.lists_lengths pl.isList pl2.isList (by simp) (by omega) _ _ _ _ ⟨.bl _, H, I, rfl, k⟩
end
end L2

set_option Elab.async false
set_option linter.all false
set_option maxRecDepth 100000
/-! words filled: the begun row, pieces cut off, contracts -/
namespace Lw
open PySem L2 Lm
theorem t_ne0 {K : PySem.W.Frag} {σ : St} {H : Hp} {ta : TE} {p : Addr} {xs : List V} (h1 : Ev ta σ H (.ref p)) (hx : SqL K H p xs) : Tells (tTest (tOp (rEq0 K true) ta (tLst tNil))) σ H (!xs.isEmpty) :=
  fun R k => h1 _ ⟨big (show (0 : Nat) ≤ 1000000 by decide), fun l hl => ⟨p, l, xs, rfl, rfl, (same_new hl _).seq hx, SqL.of upd_same, _, rfl, k _ (same_new hl _)⟩⟩
theorem t_eq0 {K : PySem.W.Frag} {σ : St} {H : Hp} {ta : TE} {p : Addr} {xs : List V} (h1 : Ev ta σ H (.ref p)) (hx : SqL K H p xs) : Tells (tTest (tOp (rEq0 K false) ta (tLst tNil))) σ H xs.isEmpty :=
  fun R k => h1 _ ⟨big (show (0 : Nat) ≤ 1000000 by decide), fun l hl => ⟨p, l, xs, rfl, rfl, (same_new hl _).seq hx, SqL.of upd_same, _, rfl, k _ (same_new hl _)⟩⟩
theorem t_relG {σ : St} {H : Hp} {p : Int → Int → Bool} {ta tb : TE} {x y : Int} (h1 : Ev ta σ H (.int x)) (h2 : Ev tb σ H (.int y)) : Tells (tTest (tOp (rI0 fun i j => .bl (p i j)) ta tb)) σ H (p x y) := fun R k => h1 _ (h2 _ ⟨x, y, rfl, rfl, _, rfl, k _ (Same.refl _)⟩)
theorem catS (a b : List Nat) : V.str (S a ++ S b) = vS (a ++ b) := by rw [S_app]
theorem glue_sum : ∀ hs : List (List Nat), (hs.map (·.length)).sum + hs.length ≤ (glueC [32] hs).length + 1
  | [] => by simp
  | [p] => by simp [glueC]
  | p :: q :: r => by
    have ih := glue_sum (q :: r)
    rw [glueC_cons _ _ _ (by simp)]
    simp only [List.map_cons, List.sum_cons, List.length_cons, List.length_append, List.length_nil] at ih ⊢
    omega
theorem glue_fit {hs : List (List Nat)} (h : (glueC [32] hs).length ≤ 100000) : (((hs.map S).map (·.length)).sum + (hs.map S).length * (S [32]).length) ≤ sizeLine := by
  have := glue_sum hs
  rw [List.map_map, show ((fun (x : Str) => x.length) ∘ S) = (fun (l : List Nat) => l.length) from funext fun l => S_len l, List.length_map, sizeLine_eq, S_len]
  simp only [List.length_cons, List.length_nil]
  omega
end Lw

set_option Elab.async false
set_option linter.all false
set_option maxRecDepth 100000
/-! zip of three lists -/
namespace L2
open PySem
section
variable {prog : Program} {w : World} {A : Around} {E : Value → Shared → Prop} {s : Shared}
end
section
variable {prog : Program} {w : World} {A : Around} {E : Value → Shared → Prop} {s : Shared}
end
open PySem.Spec PyProof.Rows
section
variable {X : Cx}
end
end L2

set_option Elab.async false
set_option linter.all false
/-! Texts with blanks about them: strip, ljust, rjust; a row of cells. -/
namespace Lm
open PySem PySem.Builtin PySem.Builtin.Str PySem.StrLaws
end Lm

set_option Elab.async false
set_option linter.all false
set_option maxRecDepth 100000
namespace L2
open PySem PySem.Spec PyProof.Rows
section
variable {X : Cx}
end
end L2

set_option Elab.async false
set_option linter.all false
/-! Rows of words have no blank at their ends. -/
namespace Lm
end Lm

set_option Elab.async false
set_option linter.all false
set_option maxRecDepth 100000
namespace L2
open PySem PySem.Spec PyProof.Rows
end L2

set_option Elab.async false
set_option linter.all false
set_option maxRecDepth 100000
/-! Comprehensions over a list while the tape at t goes on, by c at most for each. -/
namespace L2
open PySem PySem.Spec PyProof.Rows
end L2

set_option Elab.async false
set_option linter.all false
set_option maxRecDepth 100000
/-! Comprehensions over any iterator: new lists, values by places; a def of the top as a value. -/
namespace L2
open PySem PySem.Spec PyProof.Rows
section
variable {X : Cx} {scope : Scope} {cl : List (Str × Addr)} {C : Addr} {N' : List Str} {fp : List Addr} {s : Shared} {H : Hp}
end
end L2

set_option Elab.async false
set_option linter.all false
set_option maxRecDepth 100000
/-! Values as data, by what they reach; written data; isinstance of data. -/
namespace L2
open PySem PySem.Spec PyProof.Rows
mutual
inductive Dn (H : Hp) : V → PyData → Prop where
  | non : Dn H .non .none
  | bl (b : Bool) : Dn H (.bl b) (.bool b)
  | int (i : Int) : Dn H (.int i) (.int i)
  | str (x : Str) (h : PyData.strOk x = true) (hl : x.length ≤ 100000) : Dn H (.str x) (.str x)
  | lst {a : Addr} {xs : List V} {ds : List PyData} : H a = some (.lst xs) → DnAll H xs ds → xs.length ≤ 100000 → Dn H (.ref a) (.list ds)
  | tup {a : Addr} {xs : List V} {ds : List PyData} : H a = some (.tup xs) → DnAll H xs ds → Dn H (.ref a) (.tuple ds)
inductive DnAll (H : Hp) : List V → List PyData → Prop where
  | nil : DnAll H [] []
  | cons {x : V} {xs : List V} {d : PyData} {ds : List PyData} : Dn H x d → DnAll H xs ds → DnAll H (x :: xs) (d :: ds)
end
mutual
theorem Dn.same {H H' : Hp} (s : Same H H') : ∀ {v : V} {d : PyData}, Dn H v d → Dn H' v d
  | _, _, .non => .non
  | _, _, .bl b => .bl b
  | _, _, .int i => .int i
  | _, _, .str x h hl => .str x h hl
  | _, _, .lst e r l => .lst (s _ _ e) (DnAll.same s r) l
  | _, _, .tup e r => .tup (s _ _ e) (DnAll.same s r)
theorem DnAll.same {H H' : Hp} (s : Same H H') : ∀ {vs : List V} {ds : List PyData}, DnAll H vs ds → DnAll H' vs ds
  | _, _, .nil => .nil
  | _, _, .cons a b => .cons (Dn.same s a) (DnAll.same s b)
end
mutual
theorem Dn.den {K : PySem.W.Frag} {H : Hp} : ∀ {v : V} {d : PyData}, Dn H v d → Den K H v d
  | _, _, .non => .non
  | _, _, .bl b => .bl b
  | _, _, .int i => .int i
  | _, _, .str x h _ => .str x h
  | _, _, .lst e r _ => .lst (SqL.of e) (DnAll.den r)
  | _, _, .tup e r => .tup (SqT.of e) (DnAll.den r)
theorem DnAll.den {K : PySem.W.Frag} {H : Hp} : ∀ {vs : List V} {ds : List PyData}, DnAll H vs ds → DenAll K H vs ds
  | _, _, .nil => .nil
  | _, _, .cons a b => .cons (Dn.den a) (DnAll.den b)
end
theorem DnAll.len {H : Hp} : ∀ {vs : List V} {ds : List PyData}, DnAll H vs ds → vs.length = ds.length
  | _, _, .nil => rfl
  | _, _, .cons _ b => by rw [List.length_cons, List.length_cons, b.len]
theorem DnAll.get {H : Hp} : ∀ {vs : List V} {ds : List PyData} {i : Nat} {d : PyData}, DnAll H vs ds → ds[i]? = some d → ∃ v, vs[i]? = some v ∧ Dn H v d
  | _, _, i, d, .nil, e => by simp at e
  | _, _, 0, d, .cons a b, e => by cases e; exact ⟨_, rfl, a⟩
  | _, _, i + 1, d, .cons a b, e => by
    obtain ⟨v, h1, h2⟩ := b.get (i := i) (by simpa using e)
    exact ⟨v, by simpa using h1, h2⟩
theorem DnAll.getV {H : Hp} : ∀ {vs : List V} {ds : List PyData} {i : Nat} {v : V}, DnAll H vs ds → vs[i]? = some v → ∃ d, ds[i]? = some d ∧ Dn H v d
  | _, _, i, d, .nil, e => by simp at e
  | _, _, 0, d, .cons a b, e => by cases e; exact ⟨_, rfl, a⟩
  | _, _, i + 1, d, .cons a b, e => by
    obtain ⟨v, h1, h2⟩ := b.getV (i := i) (by simpa using e)
    exact ⟨v, by simpa using h1, h2⟩
theorem DnAll.app {H : Hp} : ∀ {vs us : List V} {ds es : List PyData}, DnAll H vs ds → DnAll H us es → DnAll H (vs ++ us) (ds ++ es)
  | _, _, _, _, .nil, h => h
  | _, _, _, _, .cons a b, h => .cons a (b.app h)
theorem DnAll.take {H : Hp} : ∀ {vs : List V} {ds : List PyData} (n : Nat), DnAll H vs ds → DnAll H (vs.take n) (ds.take n)
  | _, _, 0, _ => by rw [List.take_zero, List.take_zero]; exact .nil
  | _, _, n + 1, .nil => .nil
  | _, _, n + 1, .cons a b => .cons a (b.take n)
theorem DnAll.drop {H : Hp} : ∀ {vs : List V} {ds : List PyData} (n : Nat), DnAll H vs ds → DnAll H (vs.drop n) (ds.drop n)
  | _, _, 0, h => h
  | _, _, n + 1, .nil => .nil
  | _, _, n + 1, .cons a b => b.drop n
theorem DnAll.set {H : Hp} : ∀ {vs : List V} {ds : List PyData} (n : Nat) {v : V} {d : PyData}, DnAll H vs ds → Dn H v d → DnAll H (vs.set n v) (ds.set n d)
  | _, _, _, _, _, .nil, _ => .nil
  | _, _, 0, _, _, .cons _ b, h => .cons h b
  | _, _, n + 1, _, _, .cons a b, h => .cons a (b.set n h)
/-! ### what is new -/
/-- of H' what is not in H -/
def dif (H H' : Hp) : Hp := fun b => match H b with | none => H' b | some _ => none
theorem dif_at {H H' : Hp} {b : Addr} (h : H b = none) : dif H H' b = H' b := by unfold dif; rw [h]
theorem dif_none {H H' : Hp} {b : Addr} (h : H b ≠ none) : dif H H' b = none := by
  unfold dif
  cases e : H b with
  | none => exact absurd e h
  | some o => rfl
theorem dif_some {H H' : Hp} {b : Addr} {o : HO} (h : dif H H' b = some o) : H b = none ∧ H' b = some o := by
  cases e : H b with
  | none => rw [dif_at e] at h; exact ⟨rfl, h⟩
  | some o => rw [dif_none (by rw [e]; simp)] at h; cases h
theorem dif_same {H H' : Hp} : Same (dif H H') H' := fun b o h => (dif_some h).2
/-- earlier begin, later end: more is new -/
theorem dif_grow {H H1 H2 H3 : Hp} (a : Same H H1) (b : Same H2 H3) : Same (dif H1 H2) (dif H H3) := fun c o h => by
  obtain ⟨h1, h2⟩ := dif_some h
  rw [dif_at (a.free h1)]
  exact b _ _ h2
theorem Dn.out {H H' : Hp} {v : V} {d : PyData} (h : Dn (dif H H') v d) : Dn H' v d := h.same dif_same
/-- what reaches nothing of W -/
def Off (W : Addr → Prop) (H : Hp) (v : V) (d : PyData) : Prop := ∃ G, Same G H ∧ (∀ b, W b → G b = none) ∧ Dn G v d
theorem Off.dn {W : Addr → Prop} {H : Hp} {v : V} {d : PyData} (h : Off W H v d) : Dn H v d := let ⟨_, s, _, k⟩ := h; k.same s
theorem Off.sameW {W : Addr → Prop} {H H' : Hp} {v : V} {d : PyData} (h : Off W H v d) (s : ∀ b o, ¬ W b → H b = some o → H' b = some o) : Off W H' v d :=
  let ⟨G, a, b, k⟩ := h; ⟨G, fun c o e => s c o (fun z => by rw [b c z] at e; cases e) (a c o e), b, k⟩
theorem Off.upd {W : Addr → Prop} {H : Hp} {v : V} {d : PyData} {p : Addr} {o : HO} (h : Off W H v d) (hp : W p) : Off W (L2.upd H p o) v d := h.sameW fun b u n e => (upd_ne (show b ≠ p from fun z => n (z ▸ hp))).trans e
theorem Off.new {W : Addr → Prop} {H H' : Hp} {v : V} {d : PyData} (h : Dn (dif H H') v d) (hW : ∀ b, W b → H b ≠ none) : Off W H' v d := ⟨dif H H', dif_same, fun b hb => dif_none (hW b hb), h⟩
def Offs (W : Addr → Prop) (H : Hp) (vs : List V) (ds : List PyData) : Prop := ∃ G, Same G H ∧ (∀ b, W b → G b = none) ∧ DnAll G vs ds
theorem Offs.dn {W : Addr → Prop} {H : Hp} {v : List V} {d : List PyData} (h : Offs W H v d) : DnAll H v d := let ⟨_, s, _, k⟩ := h; k.same s
theorem Offs.sameW {W : Addr → Prop} {H H' : Hp} {v : List V} {d : List PyData} (h : Offs W H v d) (s : ∀ b o, ¬ W b → H b = some o → H' b = some o) : Offs W H' v d :=
  let ⟨G, a, b, k⟩ := h; ⟨G, fun c o e => s c o (fun z => by rw [b c z] at e; cases e) (a c o e), b, k⟩
theorem Offs.same {W : Addr → Prop} {H H' : Hp} {v : List V} {d : List PyData} (h : Offs W H v d) (s : Same H H') : Offs W H' v d := h.sameW fun b o _ e => s b o e
theorem Offs.upd {W : Addr → Prop} {H : Hp} {v : List V} {d : List PyData} {p : Addr} {o : HO} (h : Offs W H v d) (hp : W p) : Offs W (L2.upd H p o) v d := h.sameW fun b u n e => (upd_ne (show b ≠ p from fun z => n (z ▸ hp))).trans e
/-- two parts of a heap side by side -/
def both (G1 G2 : Hp) : Hp := fun b => match G1 b with | none => G2 b | some o => some o
theorem both_l {G1 G2 : Hp} : Same G1 (both G1 G2) := fun b o h => by unfold both; rw [h]
theorem both_r {G1 G2 H : Hp} (a : Same G1 H) (c : Same G2 H) : Same G2 (both G1 G2) := fun b o h => by
  unfold both
  cases e : G1 b with
  | none => exact h
  | some u =>
    have h1 := a _ _ e
    rw [c _ _ h] at h1
    exact h1.symm
theorem both_in {G1 G2 H : Hp} (a : Same G1 H) (c : Same G2 H) : Same (both G1 G2) H := fun b o h => by
  unfold both at h
  cases e : G1 b with
  | none => rw [e] at h; exact c _ _ h
  | some u => rw [e] at h; cases h; exact a _ _ e
theorem Offs.nil {W : Addr → Prop} {H : Hp} : Offs W H [] [] := ⟨fun _ => none, (fun _ _ h => nomatch h), (fun _ _ => rfl), .nil⟩
theorem Offs.snoc {W : Addr → Prop} {H : Hp} {vs : List V} {ds : List PyData} {v : V} {d : PyData} (h : Offs W H vs ds) (k : Off W H v d) : Offs W H (vs ++ [v]) (ds ++ [d]) := by
  obtain ⟨G1, a1, b1, k1⟩ := h
  obtain ⟨G2, a2, b2, k2⟩ := k
  refine ⟨both G1 G2, both_in a1 a2, fun b hb => ?_, (k1.same both_l).app (.cons (k2.same (both_r a1 a2)) .nil)⟩
  unfold both
  rw [b1 b hb]
  exact b2 b hb
theorem Offs.set {W : Addr → Prop} {H : Hp} {vs : List V} {ds : List PyData} {v : V} {d : PyData} (n : Nat) (h : Offs W H vs ds) (k : Off W H v d) : Offs W H (vs.set n v) (ds.set n d) := by
  obtain ⟨G1, a1, b1, k1⟩ := h
  obtain ⟨G2, a2, b2, k2⟩ := k
  refine ⟨both G1 G2, both_in a1 a2, fun b hb => ?_, (k1.same both_l).set n (k2.same (both_r a1 a2))⟩
  unfold both
  rw [b1 b hb]
  exact b2 b hb
theorem Offs.get {W : Addr → Prop} {H : Hp} {vs : List V} {ds : List PyData} {i : Nat} {d : PyData} (h : Offs W H vs ds) (e : ds[i]? = some d) : ∃ v, vs[i]? = some v ∧ Off W H v d :=
  let ⟨G, a, b, c⟩ := h; let ⟨v, h1, h2⟩ := c.get e; ⟨v, h1, G, a, b, h2⟩
theorem Offs.len {W : Addr → Prop} {H : Hp} {vs : List V} {ds : List PyData} (h : Offs W H vs ds) : vs.length = ds.length := let ⟨_, _, _, c⟩ := h; c.len
/-! ### written data -/
def tLit (d : PyData) : TE := fun _ H Q => ∀ v H', Same H H' → Dn (dif H H') v d → Q v H'
def tLits (ds : List PyData) : TA := fun _ H Q => ∀ vs H', Same H H' → DnAll (dif H H') vs ds → Q vs H'
section
variable {X : Cx} {e : Expr} {es : List Expr} {te te' : TE} {t t' : TA} {d : PyData} {ds : List PyData} {pos : Pos}
theorem XE.imp (h : XE X e te) (k : ∀ σ H Q, te' σ H Q → te σ H Q) : XE X e te' := ⟨fun pins s σ H Q I q => h.h pins s σ H Q I (k σ H Q q)⟩
theorem XA.imp (h : XA X es t) (k : ∀ σ H Q, t' σ H Q → t σ H Q) : XA X es t' := ⟨fun pos pins s σ H Q I q => h.h pos pins s σ H Q I (k σ H Q q)⟩
theorem xl_str {y : Str} {j : Nat} (h : (PyData.strOk y && decide (y.length ≤ 100000)) = true) : XE X (.Constant (.str y) j pos) (tLit (.str y)) := by
  rw [Bool.and_eq_true] at h
  exact xstr.imp fun _ H Q q => q _ H (Same.refl _) (.str y h.1 (of_decide_eq_true h.2))
theorem xl_int {i : Int} {j : Nat} : XE X (.Constant (.int i) j pos) (tLit (.int i)) := xint.imp fun _ H Q q => q _ H (Same.refl _) (.int i)
theorem xl_bl {b : Bool} {j : Nat} : XE X (.Constant (.bool b) j pos) (tLit (.bool b)) := xbl.imp fun _ H Q q => q _ H (Same.refl _) (.bl b)
theorem xl_non {j : Nat} : XE X (.Constant .none j pos) (tLit .none) := xnon.imp fun _ H Q q => q _ H (Same.refl _) .non
theorem xls0 : XA X [] (tLits []) := xa0.imp fun _ H Q q => q [] H (Same.refl _) .nil
theorem xlsc (a : XE X e (tLit d)) (b : XA X es (tLits ds)) (h : isStar e = false := by rfl) : XA X (e :: es) (tLits (d :: ds)) :=
  (xac a b h).imp fun _ H Q q v H1 s1 k1 vs H2 s2 k2 => q (v :: vs) H2 (s1.trans s2) (.cons (k1.same (dif_grow (Same.refl _) s2)) (k2.same (dif_grow s1 (Same.refl _))))
theorem xl_lst (a : XA X es (tLits ds)) (h : ds.length ≤ 1000 := by decide) : XE X (.List es pos) (tLit (.list ds)) := by
  refine (xlst a).imp fun _ H Q q vs H1 s1 k1 => ⟨?_, fun l hl => q _ _ (s1.trans (same_new hl _)) (.lst (by rw [dif_at (s1.free hl), upd_same]) (k1.same (dif_grow (Same.refl _) (same_new hl _))) (by rw [k1.len]; omega))⟩
  rw [k1.len, sizeLine_eq]
  omega
theorem xl_tup {k : Nat} (a : XA X es (tLits ds)) (h : ds.length ≤ 1000 := by decide) : XE X (.Tuple es k pos) (tLit (.tuple ds)) := by
  refine (xtup a).imp fun _ H Q q vs H1 s1 k1 => ⟨?_, fun l hl => q _ _ (s1.trans (same_new hl _)) (.tup (by rw [dif_at (s1.free hl), upd_same]) (k1.same (dif_grow (Same.refl _) (same_new hl _))))⟩
  rw [k1.len, sizeLine_eq]
  omega
end
/-! ### isinstance of data -/
def tyD : PyData → String
  | .none => "NoneType"
  | .bool _ => "bool"
  | .int _ => "int"
  | .str _ => "str"
  | .list _ => "list"
  | .tuple _ => "tuple"
  | .dict _ => "dict"
theorem Dn.ty {K : PySem.W.Frag} {H : Hp} {v : V} {d : PyData} : Dn H v d → TyOf K H v (.type (tyD d))
  | .non => .non
  | .bl b => .bl b
  | .int i => .int i
  | .str x h _ => .str x
  | .lst e r _ => .lst e
  | .tup e r => .tup e
theorem kit_D (K : PySem.W.Frag) (d : PyData) : (PySem.W.kitOne K (.type (tyD d)) (.type "str") = some (tyD d == "str")) ∧ (PySem.W.kitOne K (.type (tyD d)) (.type "list") = some (tyD d == "list")) ∧ (PySem.W.kitOne K (.type (tyD d)) (.type "tuple") = some (tyD d == "tuple")) := by
  cases d <;> refine ⟨?_, ?_, ?_⟩ <;> with_unfolding_all rfl
end L2

set_option Elab.async false
set_option linter.all false
set_option maxRecDepth 100000
/-! A call that may raise, in a def that may; a call with such a one in it, within try; isinstance by an own class. -/
namespace L2
open PySem PySem.Spec PyProof.Rows
section
variable {P : Program} {w : World} {K : PySem.W.Frag} {mg : Str → Option Value} {base : Heap} {N : List Str} {qual : Str} {scope : Scope} {f : Addr} {cd : Value} {A : Around} {outer : List Env} {s₀ : Shared} {H₀ : Hp} {E : XK}
variable {k : Nat} {x : Str} {ps : List Str} {sp : Sp} {e : Expr} {es : List Expr} {t : TA} {p pos : Pos}
/-- what it raises passes on -/
theorem xcP (D : DefR P w K mg base k x ps sp) (hr : Room k (cxOf (CXr P w) P w K mg base N qual scope f cd A outer s₀ H₀ E).A) (ha : XA (cxOf (CXr P w) P w K mg base N qual scope f cd A outer s₀ H₀ E) (e :: es) t) (hg : Gl (cxOf (CXr P w) P w K mg base N qual scope f cd A outer s₀ H₀ E) x := by exact rfl)
    (hdb : (x == ("__debug__" : Str)) = false := by decide) (hst : noStars (e :: es) = true := by rfl) : XE (cxOf (CXr P w) P w K mg base N qual scope f cd A outer s₀ H₀ E) (.Call (.Name x p) (e :: es) [] pos) (tCall sp [] E t) := by
  obtain ⟨f', fd, G, hm, hk, hb⟩ := D.ex
  obtain ⟨h1, h2⟩ := stars2 hst
  exact ⟨pe_call G hr hg hm hk hb .nil (pass_on fun _ _ h => h) ha.h hdb (star_cons h1) (stars_any h2)⟩
end
section
variable {X : Cx} {k : Nat} {x : Str} {ps : List Str} {sp : Sp} {e : Expr} {p pos : Pos}
theorem xex_arg {tx : (Value → Hp → Prop) → TE} (D : Def X.prog X.w X.K X.mg X.base k x ps sp) (hr : Room k X.A) (ha : XEx X e tx) (hg : Gl X x := by exact rfl) (hdb : (x == ("__debug__" : Str)) = false := by decide) (hst : noStars [e] = true := by rfl) :
    XEx X (.Call (.Name x p) [e] [] pos) (fun R σ H Q => tx R σ H fun v H1 => sp [v] H1 Q E0) := by
  obtain ⟨f, fd, G, hm, hk, hb⟩ := D.ex
  obtain ⟨h1, h2⟩ := stars2 hst
  refine ⟨fun pins s σ H Q R I h => ?_⟩
  refine wpAny_Call_Name_kw (ld_glob I hg hm ?_ hdb)
  refine PySem.W.callWith_K (h₀ := X.base) I.ok.mod.kin hk ?_ (star_cons h1) (stars_any h2)
  rw [star_cons h1]
  refine Calls.spliced_cons (wpAny_mono (ha.h pins s σ H _ R I h) (fun u s1 q0 => ?_) fun _ _ z => z)
  obtain ⟨v, H1, I1, r, q⟩ := q0
  refine Calls.spliced_nil ?_
  have hl : ([u] ++ []).length = ps.length := G.len _ _ _ _ q
  have hb' := hb s1 [u] I1.kIn hl
  rw [List.append_nil] at hb'
  refine ⟨I1.kIn, wpAny_call (codeAny_mono (G.run X.A X.stack s1 H1 ⟨[u], []⟩ [u] [v] _ _ hr I1.env0 hb' (.cons r .nil) q) fun r s' hq => ?_)⟩
  cases r with
  | error ev => exact False.elim hq
  | ok fl =>
    cases fl with
    | ret u => exact I1.after hq
    | next => exact False.elim hq
    | brk => exact False.elim hq
    | cont => exact False.elim hq
section
variable {scope : Scope} {cl : List (Str × Addr)} {C : Addr} {N' : List Str} {fp : List Addr} {s : Shared} {H : Hp} {o : Expr} {ta : TE} {t : TA} {m : Str} {apos : Pos} {es : List Expr}
theorem xmV0C {pl : Sem Bool} (he : XE (compX X scope cl C N' fp s H) o ta) (hr : Room k X.A)
    (ht : eval (.Call (.Attribute o m apos) [] [] pos) (compX X scope cl C N' fp s H).env = (do
      let ov ← eval o (compX X scope cl C N' fp s H).env
      standAt apos.atName
      let (f, first) ← holding [ov] (getMethod ov m pl)
      callWith pos f first (backTo pos (starEach [] (compX X scope cl C N' fp s H).env)) (backToKw pos (keywordEach [] (compX X scope cl C N' fp s H).env))) := by rfl) :
    XE (compX X scope cl C N' fp s H) (.Call (.Attribute o m apos) [] [] pos) (tMethV X k m ta tNil) := xmV0 (X := compX X scope cl C N' fp s H) (pl := pl) he hr ht
end
def rIsC (K : PySem.W.Frag) : List V → Hp → VK → Prop := fun xs H Q => ∃ x t C b, xs = [x, .ref C] ∧ TyOf K H x t ∧ PySem.W.kitOne K t (.ref C) = some b ∧ Q (.bl b) H
theorem call_isC : CallR X (.builtin "isinstance") (rIsC X.K) := by
  intro pins s σ H xs us Q I r h
  obtain ⟨v, t, C, b, rfl, ht, hk, q⟩ := h
  obtain ⟨u, u2, rfl, rx, rv⟩ := r.two
  cases (show u2 = Value.ref C from rv)
  exact wpAny_with_toks (n := 1) I.tk (isinst_ok I rx ht hk fun tk htk => ⟨.bl b, H, I.tok _ htk, rfl, q⟩)
end
end L2

set_option Elab.async false
set_option linter.all false
set_option maxRecDepth 100000
/-! Parts: what is told of them, which things are normal, how they stand in a heap. -/
namespace Lw
open PySem L2 Lm PySem.Builtin.Str
inductive P1 where
  | plain (s : Str)
  | code (s : Str)
  | link (w n : Str)
  | note (n : Str)
inductive PC where
  | one (p : P1)
  | strong (ps : List P1)
abbrev kPlain : Str := "plain"
abbrev kCode : Str := "code"
abbrev kStrong : Str := "strong"
abbrev kLink : Str := "link"
abbrev kNote : Str := "note"
def d1 : P1 → PyData
  | .plain s => .tuple [.str kPlain, .str s]
  | .code s => .tuple [.str kCode, .str s]
  | .link w n => .tuple [.str kLink, .str w, .str n]
  | .note n => .tuple [.str kNote, .str n]
def dP : PC → PyData
  | .one p => d1 p
  | .strong ps => .tuple [.str kStrong, .list (ps.map d1)]
def PC.isPlain : PC → Bool
  | .one (.plain _) => true
  | _ => false
/-! ### which things are normal -/
/-- y in x -/
def hasS (y x : Str) : Bool := !(occurrences x y 0 x.length 1).isEmpty
def okSg (x : Str) : Bool := !decide (x = ("" : Str)) && !(hasS "  " x || (hasS "\t" x || hasS "\n" x))
def okCd (x : Str) : Bool := okSg x && !hasS "`" x
def okNm (x : Str) : Bool := isNameC x.cps.toList && decide (S (smallC x.cps.toList) = x)
def sgD : PyData → Option Str
  | .str x => if okSg x then some x else none
  | _ => none
def cdD : PyData → Option Str
  | .str x => if okCd x then some x else none
  | _ => none
def nmD : PyData → Option Str
  | .str x => if okNm x then some x else none
  | _ => none
def lnD (a b : PyData) : Option P1 := match sgD a, nmD b with
  | some w, some n => some (.link w n)
  | _, _ => none
/-- a part told as a tuple; of a strong one the inner ones by go -/
def partG (go : PyData → Option (List P1)) : PyData → Option PC
  | .tuple [.str k, a, b] => if k = kLink then (lnD a b).map .one else none
  | .tuple [.str k, a] =>
    if k = kPlain then (sgD a).map fun s => .one (.plain s)
    else if k = kCode then (cdD a).map fun s => .one (.code s)
    else if k = kNote then (nmD a).map fun s => .one (.note s)
    else if k = kStrong then (go a).map .strong
    else none
  | _ => none
def runG (part : PyData → Option PC) : Bool → List PyData → Option (List PC)
  | _, [] => some []
  | prev, d :: ds => match part d with
    | none => none
    | some p => if prev && p.isPlain then none else (runG part p.isPlain ds).map (p :: ·)
def noGo : PyData → Option (List P1) := fun _ => none
def one? : PC → Option P1
  | .one p => some p
  | .strong _ => none
def ones : List PC → List P1 := fun ps => ps.filterMap one?
/-- the inner ones of a strong part -/
def innerD : PyData → Option (List P1)
  | .list ds => match runG (partG noGo) false ds with
    | some (p :: ps) => some (ones (p :: ps))
    | _ => none
  | _ => none
def partD (st : Bool) : PyData → Option PC := partG (if st then innerD else noGo)
def runD (st : Bool) : PyData → Option (List PC)
  | .list ds => runG (partD st) false ds
  | _ => none
def endsOk : List PC → Bool
  | [] => true
  | p :: ps => !(match p with | .one (.plain s) => Txt.startswith s " " | _ => false) && !(match (p :: ps).getLast (by simp) with | .one (.plain s) => Txt.endswith s " " | _ => false)
def normD (d : PyData) : Option (List PC) := match runD true d with
  | some ps => if endsOk ps then some ps else none
  | none => none
/-! ### in a heap -/
structure Cp where
  Part : Addr
  Plain : Addr
  Code : Addr
  Strong : Addr
  Link : Addr
  Mark : Addr
def StrG (x : Str) : Prop := PyData.strOk x = true ∧ x.length ≤ 100000
theorem StrG.dn {H : Hp} {x : Str} (h : StrG x) : Dn H (.str x) (.str x) := .str x h.1 h.2
def P1At (c : Cp) (H : Hp) (a : Addr) : P1 → Prop
  | .plain s => StrG s ∧ ∃ dx, H a = some (.ins c.Plain dx [("signs", .str s)])
  | .code s => StrG s ∧ ∃ dx, H a = some (.ins c.Code dx [("signs", .str s)])
  | .link w n => StrG w ∧ StrG n ∧ ∃ dx, H a = some (.ins c.Link dx [("words", .str w), ("name", .str n)])
  | .note n => StrG n ∧ ∃ dx, H a = some (.ins c.Mark dx [("name", .str n)])
def P1s (c : Cp) (H : Hp) : List Addr → List P1 → Prop
  | [], [] => True
  | a :: as, p :: ps => P1At c H a p ∧ P1s c H as ps
  | _, _ => False
def PCAt (c : Cp) (H : Hp) (a : Addr) : PC → Prop
  | .one p => P1At c H a p
  | .strong ps => ∃ dx l as, H a = some (.ins c.Strong dx [("parts", .ref l)]) ∧ H l = some (.lst (as.map V.ref)) ∧ P1s c H as ps
def PCs (c : Cp) (H : Hp) : List Addr → List PC → Prop
  | [], [] => True
  | a :: as, p :: ps => PCAt c H a p ∧ PCs c H as ps
  | _, _ => False
theorem P1At.same {c : Cp} {H H' : Hp} {a : Addr} (s : Same H H') : ∀ {p : P1}, P1At c H a p → P1At c H' a p
  | .plain _, ⟨g, dx, e⟩ => ⟨g, dx, s _ _ e⟩
  | .code _, ⟨g, dx, e⟩ => ⟨g, dx, s _ _ e⟩
  | .link _ _, ⟨g, g2, dx, e⟩ => ⟨g, g2, dx, s _ _ e⟩
  | .note _, ⟨g, dx, e⟩ => ⟨g, dx, s _ _ e⟩
theorem P1s.same {c : Cp} {H H' : Hp} (s : Same H H') : ∀ {as : List Addr} {ps : List P1}, P1s c H as ps → P1s c H' as ps
  | [], [], _ => trivial
  | _ :: _, _ :: _, ⟨a, b⟩ => ⟨a.same s, b.same s⟩
theorem PCAt.same {c : Cp} {H H' : Hp} {a : Addr} (s : Same H H') : ∀ {p : PC}, PCAt c H a p → PCAt c H' a p
  | .one _, h => P1At.same s h
  | .strong _, ⟨dx, l, as, e1, e2, r⟩ => ⟨dx, l, as, s _ _ e1, s _ _ e2, r.same s⟩
theorem PCs.same {c : Cp} {H H' : Hp} (s : Same H H') : ∀ {as : List Addr} {ps : List PC}, PCs c H as ps → PCs c H' as ps
  | [], [], _ => trivial
  | _ :: _, _ :: _, ⟨a, b⟩ => ⟨a.same s, b.same s⟩
theorem PCs.len {c : Cp} {H : Hp} : ∀ {as : List Addr} {ps : List PC}, PCs c H as ps → as.length = ps.length
  | [], [], _ => rfl
  | _ :: _, _ :: _, ⟨_, b⟩ => by rw [List.length_cons, List.length_cons, b.len]
theorem P1s.len {c : Cp} {H : Hp} : ∀ {as : List Addr} {ps : List P1}, P1s c H as ps → as.length = ps.length
  | [], [], _ => rfl
  | _ :: _, _ :: _, ⟨_, b⟩ => by rw [List.length_cons, List.length_cons, b.len]
theorem PCs.snoc {c : Cp} {H : Hp} : ∀ {as : List Addr} {ps : List PC} {a : Addr} {p : PC}, PCs c H as ps → PCAt c H a p → PCs c H (as ++ [a]) (ps ++ [p])
  | [], [], _, _, _, h => ⟨h, trivial⟩
  | _ :: _, _ :: _, _, _, ⟨a, b⟩, h => ⟨a, b.snoc h⟩
theorem PCs.get {c : Cp} {H : Hp} : ∀ {as : List Addr} {ps : List PC} {i : Nat} {a : Addr}, PCs c H as ps → as[i]? = some a → ∃ p, ps[i]? = some p ∧ PCAt c H a p
  | [], [], _, _, _, e => by simp at e
  | _ :: _, _ :: _, 0, _, ⟨h, _⟩, e => by cases e; exact ⟨_, rfl, h⟩
  | _ :: _, _ :: _, i + 1, _, ⟨_, b⟩, e => by
    obtain ⟨p, h1, h2⟩ := b.get (i := i) (by simpa using e)
    exact ⟨p, by simpa using h1, h2⟩
/-- of simple parts alone -/
theorem PCs.ones {c : Cp} {H : Hp} : ∀ {as : List Addr} {ps : List PC}, PCs c H as ps → (∀ p ∈ ps, one? p ≠ none) → P1s c H as (Lw.ones ps)
  | [], [], _, _ => trivial
  | a :: as, .one p :: ps, ⟨h, r⟩, k => ⟨h, r.ones fun q hq => k q (List.mem_cons_of_mem _ hq)⟩
  | a :: as, .strong q :: ps, ⟨h, r⟩, k => absurd rfl (k (.strong q) List.mem_cons_self)
/-- a class of things, for isinstance -/
structure Inst (K : PySem.W.Frag) (C : Addr) : Prop where
  cls : Cls K C
  ha : PySem.W.findIn K (.ref C) "__class__" = some (some (.builtin "object.__class__"))
  hn : PySem.W.specialIn K (.builtin "object.__class__") "__get__" = some (some (.builtin "getset_descriptor.__get__"))
  htk : PySem.W.takesIn K (.builtin "object.__class__") = some true
  hm : PySem.W.mroIn K C (.type "object") = some true
theorem Inst.ty {K : PySem.W.Frag} {C : Addr} (i : Inst K C) {H : Hp} {a dx : Addr} {fs : List (Str × V)} (e : H a = some (.ins C dx fs)) : TyOf K H (.ref a) (.ref C) := .ins e i.cls i.ha i.hn i.htk i.hm
/-! ### what is normal is told so -/
theorem sgD_eq {d : PyData} {x : Str} (h : sgD d = some x) : d = .str x := by
  unfold sgD at h
  split at h
  · split at h
    · cases h; rfl
    · cases h
  · cases h
theorem part0_one {d : PyData} {p : PC} (h : partG noGo d = some p) : one? p ≠ none := by
  unfold partG at h
  split at h
  · split at h
    · cases e : lnD _ _ with
      | none => rw [e] at h; cases h
      | some s => rw [e] at h; cases h; simp [one?]
    · cases h
  · split at h
    · cases e : sgD _ with
      | none => rw [e] at h; cases h
      | some s => rw [e] at h; cases h; simp [one?]
    · split at h
      · cases e : cdD _ with
        | none => rw [e] at h; cases h
        | some s => rw [e] at h; cases h; simp [one?]
      · split at h
        · cases e : nmD _ with
          | none => rw [e] at h; cases h
          | some s => rw [e] at h; cases h; simp [one?]
        · split at h
          · cases h
          · cases h
  · cases h
theorem run0_ones {ds : List PyData} {prev : Bool} {ps : List PC} (h : runG (partG noGo) prev ds = some ps) : ∀ p ∈ ps, one? p ≠ none := by
  induction ds generalizing prev ps with
  | nil => cases h; intro p hp; cases hp
  | cons d ds ih =>
    unfold runG at h
    split at h
    · cases h
    · rename_i p e
      split at h
      · cases h
      · cases e2 : runG (partG noGo) p.isPlain ds with
        | none => rw [e2] at h; cases h
        | some qs =>
          rw [e2] at h
          cases h
          intro q hq
          rcases List.mem_cons.mp hq with rfl | hq
          · exact part0_one e
          · exact ih e2 q hq
end Lw

set_option Elab.async false
set_option linter.all false
set_option maxRecDepth 100000
namespace L2
open PySem PySem.Spec PyProof.Rows
theorem Offs.toDif {H0 H : Hp} {W : Addr → Prop} {vs : List V} {ds : List PyData} (h : Offs W H vs ds) (hW : ∀ b, H0 b ≠ none → W b) : DnAll (dif H0 H) vs ds := by
  obtain ⟨G, a, b, k⟩ := h
  refine k.same fun c o e => ?_
  have : H0 c = none := Classical.byContradiction fun z => by rw [b c (hW c z)] at e; cases e
  rw [dif_at this]
  exact a _ _ e
/-- a list of new things, as data -/
theorem lc_newD {K : PySem.W.Frag} {a : Addr} {xs : List V} {k : Nat} {fr : List Nat} {g : TG} {tt : TT} {te : TE} {σ : St} {H0 : Hp} {Q : Addr → Hp → Prop} (f : Nat → PyData) (hx : SqL K H0 a xs) (hl : xs.length ≤ 100000)
    (ht : ∀ (i : Nat) x, xs[i]? = some x → ∀ H', Same H0 H' → ∀ (C : V → Hp → Prop) (N : Hp → Prop), (∀ v H4, Same H' H4 → Dn (dif H' H4) v (f i) → C v H4) →
      g x (nfS k fr σ) H' fun σ2 H2 => nfLe k fr σ σ2 ∧ tt σ2 H2 fun b H3 => if b = true then te σ2 H3 C else N H3)
    (hq : ∀ D H', H0 D = none → Same H0 H' → Dn (dif H0 H') (.ref D) (.list ((List.range xs.length).map f)) → Q D H') : rLC k fr g tt te σ (Itl K a) H0 Q := by
  intro D hD
  refine ⟨fun i m acc H => m = xs.length - i ∧ i ≤ xs.length ∧ Same H0 H ∧ H D = some (.lst acc) ∧ Offs (fun b => b = D ∨ H0 b ≠ none) H acc ((List.range i).map f), ⟨xs.length, by simp, Nat.zero_le _, same_new hD _, upd_same, .nil⟩, ?_⟩
  rintro i m acc H ⟨rfl, hi, sm, hDa, hof⟩
  refine ⟨hDa, ?_⟩
  have hal : acc.length = i := by rw [hof.len, List.length_map, List.length_range]
  by_cases hlt : i < xs.length
  · refine .inr ⟨⟨xs, xs[i], sm.seq hx, by simp [hlt]⟩, fun x H' y => ?_⟩
    obtain ⟨e, y⟩ := y
    rw [e]
    refine ht i x (y xs (sm.seq hx)) _ sm _ _ fun v H4 s4 dv => ?_
    have o4 : Off (fun b => b = D ∨ H0 b ≠ none) H4 v (f i) := Off.new dv fun b hb => by
      rcases hb with rfl | hb
      · rw [hDa]; simp
      · cases q : H0 b with
        | none => exact absurd q hb
        | some o => rw [sm _ _ q]; simp
    refine ⟨s4 _ _ hDa, by rw [sizeLine_eq]; omega, xs.length - (i + 1), by omega, rfl, hlt, same_grow hD (sm.trans s4), upd_same, ?_⟩
    rw [List.range_succ, List.map_append]
    exact ((hof.same s4).snoc o4).upd (.inl rfl)
  · have e : i = xs.length := by omega
    subst e
    exact .inl ⟨⟨xs, sm.seq hx, Nat.le_refl _⟩, hq D H hD sm (.lst (by rw [dif_at hD]; exact hDa) (hof.toDif fun b hb => .inr hb) (by omega))⟩
end L2
namespace Lw
open PySem L2 Lm
theorem s_no1 {t : TT} {f u : TS} {D : Ends} {σ : St} {H : Hp} (ht : Tells t σ H false) (k : ∀ H', Same H H' → u D σ H') : tSeq (tIfS t f tNext) u D σ H := s_if false ht (fun _ _ z => Bool.noConfusion z) (fun H' s' _ => k H' s')
theorem s_yes {t : TT} {f g u : TS} {D : Ends} {σ : St} {H : Hp} (ht : Tells t σ H true) (k : ∀ H', Same H H' → f { D with nx := u D } σ H') : tSeq (tIfS t f g) u D σ H := s_if true ht (fun H' s' _ => k H' s') (fun _ _ z => Bool.noConfusion z)
theorem t_isT {K : PySem.W.Frag} {σ : St} {H : Hp} {ta : TE} {v : V} {d : PyData} {T : String} {b : Bool} (ev : Ev ta σ H v) (h : Dn H v d) (hb : PySem.W.kitOne K (.type (tyD d)) (.type T) = some b) : Tells (tB (tCB (rIsT K) (tCons ta (tCons (tC (.ty T)) tNil)))) σ H b :=
  fun R k => ev _ ⟨_, _, _, _, rfl, h.ty, hb, _, rfl, k _ (Same.refl _)⟩
theorem t_hasS {σ : St} {H : Hp} {ta : TE} {x y : Str} (h : Ev ta σ H (.str x)) : Tells (tTest (tOp (fun x y H Q => ∃ i j, x = .str i ∧ y = .str j ∧ Q (.bl (!(Builtin.Str.occurrences j i 0 j.length 1).isEmpty)) H) (tC (.str y)) ta)) σ H (hasS y x) := fun R k => h _ ⟨_, _, rfl, rfl, _, rfl, k _ (Same.refl _)⟩
theorem t_eqS {σ : St} {H : Hp} {ta tb : TE} {x y : Str} (h1 : Ev ta σ H (.str x)) (h2 : Ev tb σ H (.str y)) : Tells (tTest (tOp rEq ta tb)) σ H (decide (x = y)) := fun R k => h1 _ (h2 _ ⟨rfl, _, rfl, by
  rw [show decide (V.str x = V.str y) = decide (x = y) by rw [decide_eq_decide]; exact ⟨fun z => V.str.inj z, fun z => by rw [z]⟩]
  exact k _ (Same.refl _)⟩)
theorem Dn.strCase {H : Hp} {v : V} {d : PyData} (h : Dn H v d) : (∃ x, v = .str x ∧ d = .str x ∧ StrG x) ∨ ((tyD d == "str") = false ∧ ∀ x, d ≠ .str x) := by
  cases h with
  | str x a b => exact .inl ⟨x, rfl, rfl, a, b⟩
  | non => exact .inr ⟨rfl, fun _ z => nomatch z⟩
  | bl _ => exact .inr ⟨rfl, fun _ z => nomatch z⟩
  | int _ => exact .inr ⟨rfl, fun _ z => nomatch z⟩
  | lst _ _ _ => exact .inr ⟨rfl, fun _ z => nomatch z⟩
  | tup _ _ => exact .inr ⟨rfl, fun _ z => nomatch z⟩
theorem Dn.tupCase {H : Hp} {v : V} {d : PyData} (h : Dn H v d) : (∃ a xs ds, v = .ref a ∧ d = .tuple ds ∧ H a = some (.tup xs) ∧ DnAll H xs ds) ∨ ((tyD d == "tuple") = false ∧ ∀ ds, d ≠ .tuple ds) := by
  cases h with
  | tup e r => exact .inl ⟨_, _, _, rfl, rfl, e, r⟩
  | str x a b => exact .inr ⟨rfl, fun _ z => nomatch z⟩
  | non => exact .inr ⟨rfl, fun _ z => nomatch z⟩
  | bl _ => exact .inr ⟨rfl, fun _ z => nomatch z⟩
  | int _ => exact .inr ⟨rfl, fun _ z => nomatch z⟩
  | lst _ _ _ => exact .inr ⟨rfl, fun _ z => nomatch z⟩
theorem Dn.lstCase {H : Hp} {v : V} {d : PyData} (h : Dn H v d) : (∃ a xs ds, v = .ref a ∧ d = .list ds ∧ H a = some (.lst xs) ∧ DnAll H xs ds ∧ ds.length ≤ 100000) ∨ ((tyD d == "list") = false ∧ ∀ ds, d ≠ .list ds) := by
  cases h with
  | lst e r l => exact .inl ⟨_, _, _, rfl, rfl, e, r, by rw [← r.len]; exact l⟩
  | str x a b => exact .inr ⟨rfl, fun _ z => nomatch z⟩
  | non => exact .inr ⟨rfl, fun _ z => nomatch z⟩
  | bl _ => exact .inr ⟨rfl, fun _ z => nomatch z⟩
  | int _ => exact .inr ⟨rfl, fun _ z => nomatch z⟩
  | tup _ _ => exact .inr ⟨rfl, fun _ z => nomatch z⟩
theorem P1s.toC {c : Cp} {H : Hp} : ∀ {as : List Addr} {ps : List P1}, P1s c H as ps → PCs c H as (ps.map .one)
  | [], [], _ => trivial
  | _ :: _, _ :: _, ⟨a, b⟩ => ⟨a, b.toC⟩
/-- one text needed: f tells it, or BadTree at BT -/
def spStr (BT : Addr) (f : PyData → Option Str) : Sp := fun vs H Q E => ∃ v d, vs = [v] ∧ Dn H v d ∧ (∀ x, f d = some x → StrG x → v = .str x → ∀ H', Same H H' → Q v H') ∧ (f d = none → ∀ H', Same H H' → E (.ref BT) none H')
/-- the parts told -/
def spTolds (c : Cp) (R : PC → Prop) : Sp := fun vs H Q _ => ∃ (l : Addr) (as : List Addr) (ps : List PC), vs = [.ref l] ∧ H l = some (.lst (as.map V.ref)) ∧ PCs c H as ps ∧ (∀ p ∈ ps, R p) ∧ as.length ≤ 100000 ∧ ∀ r H', Same H H' → Dn (dif H H') (.ref r) (.list (ps.map dP)) → Q (.ref r) H'
def spTold (c : Cp) (R : PC → Prop) : Sp := fun vs H Q _ => ∃ a p, vs = [.ref a] ∧ PCAt c H a p ∧ R p ∧ ∀ v H', Same H H' → Dn (dif H H') v (dP p) → Q v H'
/-- the methods told, by class -/
def ToldV (P : Program) (w : World) (K : PySem.W.Frag) (mg : Str → Option Value) (base : Heap) (k : Nat) (c : Cp) (R : PC → Prop) : Prop :=
  ∀ p, R p → ∀ H a, PCAt c H a p → ∃ C dx fs sp, H a = some (.ins C dx fs) ∧ fs.lookup ("told" : Str) = none ∧ MethV P w K mg base k C "told" ["self"] sp ∧ ∀ Q E, (∀ v H', Same H H' → Dn (dif H H') v (dP p) → Q v H') → sp [.ref a] H Q E
/-- a run needed -/
def spRun (K : PySem.W.Frag) (BT : Addr) (c : Cp) (st : Bool) : Sp := fun vs H Q E => ∃ v, vs = [v, .bl st] ∧
  ((∃ a xs ds, v = .ref a ∧ H a = some (.lst xs) ∧ DnAll H xs ds ∧ ds.length ≤ 100000 ∧ (∀ ps, runG (partD st) false ds = some ps → ∀ r as H', Same H H' → H r = none → H' r = some (.lst (as.map V.ref)) → PCs c (dif H H') as ps → Q (.ref r) H') ∧ (runG (partD st) false ds = none → ∀ H', Same H H' → E (.ref BT) none H')) ∨
   ((∃ t, TyOf K H v t ∧ PySem.W.kitOne K t (.type "list") = some false) ∧ ∀ H', Same H H' → E (.ref BT) none H'))
def spPart (BT : Addr) (c : Cp) (st : Bool) : Sp := fun vs H Q E => ∃ v d, vs = [v, .bl st] ∧ Dn H v d ∧ (∀ p, partD st d = some p → ∀ a H', Same H H' → PCAt c (dif H H') a p → Q (.ref a) H') ∧ (partD st d = none → ∀ H', Same H H' → E (.ref BT) none H')
def spInner (BT : Addr) (c : Cp) : Sp := fun vs H Q E => ∃ v d, vs = [v] ∧ Dn H v d ∧ (∀ ps, innerD d = some ps → ∀ r as H', Same H H' → H r = none → H' r = some (.lst (as.map V.ref)) → P1s c (dif H H') as ps → Q (.ref r) H') ∧ (innerD d = none → ∀ H', Same H H' → E (.ref BT) none H')
def spNeed (K : PySem.W.Frag) (BT : Addr) (c : Cp) : Sp := fun vs H Q E => ∃ v, vs = [v] ∧
  ((∃ a xs ds, v = .ref a ∧ H a = some (.lst xs) ∧ DnAll H xs ds ∧ ds.length ≤ 100000 ∧ (∀ ps, normD (.list ds) = some ps → ∀ r as H', Same H H' → H r = none → H' r = some (.lst (as.map V.ref)) → PCs c (dif H H') as ps → Q (.ref r) H') ∧ (normD (.list ds) = none → ∀ H', Same H H' → E (.ref BT) none H')) ∨
   ((∃ t, TyOf K H v t ∧ PySem.W.kitOne K t (.type "list") = some false) ∧ ∀ H', Same H H' → E (.ref BT) none H'))
def isNmD : PyData → Bool
  | .str x => isNameC x.cps.toList
  | _ => false
theorem isNm_S (l : List Nat) : isNmD (.str (S l)) = isNameC l := by
  show isNameC (S l).cps.toList = _
  rw [S_list]
def spNameD : Sp := fun vs H Q _ => ∃ v d, vs = [v] ∧ Dn H v d ∧ ∀ H', Same H H' → Q (.bl (isNmD d)) H'
end Lw
namespace Lw
open PySem L2 Lm
theorem ev_lenS {K : PySem.W.Frag} {σ : St} {H : Hp} {ta : TE} {p : Addr} {xs : List V} (h : Ev ta σ H (.ref p)) (hq : SqL K H p xs ∨ SqT K H p xs) : Ev (tCB (fun xs H Q => ∃ p ys, xs = [.ref p] ∧ (SqL K H p ys ∨ SqT K H p ys) ∧ Q (.int ys.length) H) (tCons ta tNil)) σ H (.int xs.length) := fun R r => h _ ⟨p, xs, rfl, hq, r⟩
theorem ev_ixT {K : PySem.W.Frag} {σ : St} {H : Hp} {ta tb : TE} {p : Addr} {xs : List V} {i : Int} {v : V} (h : Ev ta σ H (.ref p)) (hi : Ev tb σ H (.int i)) (hq : SqT K H p xs) (e : atI xs i = some v) : Ev (tOp (rIxT K) ta tb) σ H v := fun R r => h _ (hi _ ⟨p, xs, i, v, rfl, rfl, hq, e, r⟩)
theorem ev_ixL {K : PySem.W.Frag} {σ : St} {H : Hp} {ta tb : TE} {p : Addr} {xs : List V} {i : Int} {v : V} (h : Ev ta σ H (.ref p)) (hi : Ev tb σ H (.int i)) (hq : SqL K H p xs) (e : atI xs i = some v) : Ev (tOp (rIxL K) ta tb) σ H v := fun R r => h _ (hi _ ⟨p, xs, i, v, rfl, rfl, hq, e, r⟩)
theorem t_isC {K : PySem.W.Frag} {σ : St} {H : Hp} {ta : TE} {v : V} {t : Value} {C : Addr} {b : Bool} (ev : Ev ta σ H v) (h : TyOf K H v t) (hb : PySem.W.kitOne K t (.ref C) = some b) : Tells (tB (tCB (rIsC K) (tCons ta (tCons (tC (.ref C)) tNil)))) σ H b :=
  fun R k => ev _ ⟨_, _, _, _, rfl, h, hb, _, rfl, k _ (Same.refl _)⟩
theorem t_bv {σ : St} {H : Hp} {ta : TE} {b : Bool} (ev : Ev ta σ H (.bl b)) : Tells (tB ta) σ H b := fun R k => ev _ ⟨_, rfl, k _ (Same.refl _)⟩
theorem Tells.eq {t : TT} {σ : St} {H : Hp} {a b : Bool} (h : Tells t σ H a) (e : a = b) : Tells t σ H b := e ▸ h
theorem partD_3 {st : Bool} {k : Str} {a b : PyData} : partD st (.tuple [.str k, a, b]) = if k = kLink then (lnD a b).map .one else none := rfl
theorem partD_2 {st : Bool} {k : Str} {a : PyData} : partD st (.tuple [.str k, a]) = if k = kPlain then (sgD a).map fun s => .one (.plain s) else if k = kCode then (cdD a).map fun s => .one (.code s) else if k = kNote then (nmD a).map fun s => .one (.note s) else if k = kStrong then ((if st then innerD else noGo) a).map .strong else none := rfl
theorem kinds : kPlain ≠ kCode ∧ kPlain ≠ kNote ∧ kPlain ≠ kStrong ∧ kCode ≠ kNote ∧ kCode ≠ kStrong ∧ kNote ≠ kStrong ∧ kPlain ≠ kLink ∧ kCode ≠ kLink ∧ kNote ≠ kLink ∧ kStrong ≠ kLink := by decide +kernel
end Lw

set_option linter.all false
namespace Lm
/-! ### going sign by sign -/
/-! ### a text put into a cell -/
/-! ### rules -/
end Lm

set_option linter.all false
namespace Lm
open PySem Builtin.Str
theorem ends_S (l : List Nat) (c : Nat) : Txt.endswith (S l) (S [c]) = decide (l.getLast? = some c) := by
  unfold Txt.endswith
  rw [subAt_S, S_len, S_len, Nat.zero_add]
  rw [Bool.eq_iff_iff, Bool.and_eq_true, decide_eq_true_iff, decide_eq_true_iff, decide_eq_true_iff]
  rcases List.eq_nil_or_concat l with rfl | ⟨q, x, rfl⟩
  · simp
  · rw [List.concat_eq_append, List.getLast?_concat, List.length_append]
    show q.length + 1 ≥ 1 ∧ ((q ++ [x]).drop (q.length + 1 - 1)).take 1 = [c] ↔ _
    rw [Nat.add_sub_cancel, List.drop_left]
    simp
end Lm

set_option Elab.async false
set_option linter.all false
set_option maxRecDepth 100000
/-! Texts, names and parts as the laws draw them. -/
namespace L2
open PySem PySem.Spec PyProof.Rows
theorem op_mulB {X : Cx} : OpR X (binaryOp .Mult) (rI IntMulOk fun i j => .int (i * j)) := opI fun _ _ _ _ _ _ _ hc q => mul_int q hc
end L2
namespace Lm
open PySem PySem.Builtin PySem.Builtin.Str PySem.StrLaws
/-! ### no two blanks side by side -/
def nd : List Nat → Bool
  | a :: b :: r => !(a == 32 && b == 32) && nd (b :: r)
  | _ => true
theorem nd_tail {a : Nat} {r : List Nat} (h : nd (a :: r) = true) : nd r = true := by
  cases r with
  | nil => rfl
  | cons b r => unfold nd at h; rw [Bool.and_eq_true] at h; exact h.2
theorem nd_drop : ∀ {l : List Nat} (i : Nat), nd l = true → nd (l.drop i) = true
  | l, 0, h => h
  | [], i + 1, h => rfl
  | a :: l, i + 1, h => nd_drop i (nd_tail h)
theorem nd_app : ∀ {a b : List Nat}, nd a = true → nd b = true → ¬ (a.getLast? = some 32 ∧ b.head? = some 32) → nd (a ++ b) = true
  | [], b, _, h, _ => h
  | [x], [], _, _, _ => rfl
  | [x], y :: b, _, h, k => by
    show nd (x :: y :: b) = true
    unfold nd
    rw [h, Bool.and_true]
    by_cases hx : x = 32
    · by_cases hy : y = 32
      · exact absurd ⟨by rw [hx]; rfl, by rw [hy]; rfl⟩ k
      · simp [hy]
    · simp [hx]
  | x :: y :: a, b, h1, h2, k => by
    have h3 := nd_tail h1
    have ih := nd_app (a := y :: a) (b := b) h3 h2 (fun z => k ⟨by rw [List.getLast?_cons_cons]; exact z.1, z.2⟩)
    show nd (x :: y :: (a ++ b)) = true
    unfold nd
    rw [Bool.and_eq_true]
    unfold nd at h1
    rw [Bool.and_eq_true] at h1
    exact ⟨h1.1, ih⟩
theorem nd_free {l : List Nat} (h : 32 ∉ l) : nd l = true := by
  induction l with
  | nil => rfl
  | cons a l ih =>
    cases l with
    | nil => rfl
    | cons b l =>
      unfold nd
      rw [ih (fun z => h (List.mem_cons_of_mem _ z)), Bool.and_true]
      have : a ≠ 32 := fun z => h (by rw [z]; exact List.mem_cons_self)
      simp [this]
/-- signs that may stand in a part -/
def Sg (l : List Nat) : Prop := ∀ c ∈ l, 32 ≤ c ∧ c ≤ 126
theorem Sg.asc {l : List Nat} (h : Sg l) : Asc l := fun c hc => by have := h c hc; omega
theorem Sg.app {a b : List Nat} (h : Sg a) (k : Sg b) : Sg (a ++ b) := fun c hc => (List.mem_append.mp hc).elim (h c) (k c)
end Lm
namespace Lw
open PySem L2 Lm PySem.Builtin.Str
theorem has_none {l y : List Nat} (h : ∀ i, ¬ (i + y.length ≤ l.length ∧ (l.drop i).take y.length = y)) : hasS (S y) (S l) = false := by
  unfold hasS
  rw [Bool.eq_false_iff]
  intro z
  obtain ⟨i, h1, h2⟩ := (StrLaws.found_iff (S l) (S y)).mp z
  refine h i ((At_S l y i).mp ⟨h1, h2⟩)
theorem has_one {l : List Nat} {c : Nat} (h : c ∉ l) : hasS (S [c]) (S l) = false := by
  unfold hasS
  rw [contains_S]
  simpa using h
theorem okSg_of {l : List Nat} (hne : l ≠ []) (hs : Sg l) (hn : nd l = true) : okSg (S l) = true := by
  have h0 : ¬ S l = ("" : Str) := fun z => hne (S_inj (b := []) z)
  have h1 : hasS "  " (S l) = false := has_none (y := [32, 32]) fun i ⟨hi, e⟩ => by
    have := nd_drop i hn
    have hl : (l.drop i) = 32 :: 32 :: (l.drop i).drop 2 := by
      conv => lhs; rw [← List.take_append_drop 2 (l.drop i)]
      rw [show (l.drop i).take 2 = [32, 32] from e]
      rfl
    rw [hl] at this
    unfold nd at this
    simp at this
  have h2 : hasS "\t" (S l) = false := has_one (c := 9) fun z => by have := hs 9 z; omega
  have h3 : hasS "\n" (S l) = false := has_one (c := 10) fun z => by have := hs 10 z; omega
  unfold okSg
  rw [h1, h2, h3, decide_eq_false h0]
  rfl
theorem strG_of {l : List Nat} (hs : Sg l) (hl : l.length ≤ 100000) : StrG (S l) := ⟨strOk_S hs.asc, by rw [S_len]; exact hl⟩
/-! ### draws -/
def mixF (c k : Int) : Int := (c + 7919 * k * k + 13 * k + 5) * (c + 7919 * k * k + 13 * k + 5) % 1000000007 * 48271 % 998244353 / 11
theorem mixF_ok (c k : Int) : 0 ≤ mixF c k ∧ mixF c k ≤ 90749486 := by
  unfold mixF
  have h1 := Int.emod_nonneg ((c + 7919 * k * k + 13 * k + 5) * (c + 7919 * k * k + 13 * k + 5) % 1000000007 * 48271) (show (998244353 : Int) ≠ 0 by omega)
  have h2 := Int.emod_lt_of_pos ((c + 7919 * k * k + 13 * k + 5) * (c + 7919 * k * k + 13 * k + 5) % 1000000007 * 48271) (show (0 : Int) < 998244353 by omega)
  omega
def mnLet : List Nat := [97, 98, 99, 100, 101, 102, 103, 104, 105, 106, 107, 108, 109, 110, 111, 112, 113, 114, 115, 116, 117, 118, 119, 120, 121, 122, 65, 66, 67, 68, 69, 70, 71, 72, 73, 74, 75, 76, 77, 78, 79, 80, 81, 82, 83, 84, 85, 86, 87, 88, 89, 90, 48, 49, 50, 51, 52, 53, 54, 55, 56, 57]
def mnMark : List Nat := [92, 42, 96, 91, 93, 124, 45, 43, 61, 62, 126, 58, 94, 40, 41]
def mnMore : List Nat := [33, 34, 35, 36, 38, 39, 44, 46, 47, 59, 60, 63, 64, 95, 123, 125]
def menuF (k : Int) : List Nat := if k % 3 = 0 then mnLet else if k % 3 = 1 then mnMark ++ [97, 98] else mnLet ++ mnMark ++ mnMore
/-- a menu of signs, no blank among them -/
def Menu (m : List Nat) : Prop := 0 < m.length ∧ m.length ≤ 1000 ∧ ∀ c ∈ m, 33 ≤ c ∧ c ≤ 126
theorem menu_let : Menu mnLet := ⟨by decide, by decide, by decide⟩
theorem menu_ok (k : Int) : Menu (menuF k) := by
  unfold menuF
  split
  · exact menu_let
  · split
    · exact ⟨by decide, by decide, by decide⟩
    · exact ⟨by decide, by decide, by decide⟩
def sgStep (t : Nat) (n : Int) : Int := (n * 48271 + 7 * (t : Int) * (t : Int) + 11) % 2147483647
def sgGo (m : List Nat) (n0 : Int) : Nat → Int × List Nat
  | 0 => (n0, [])
  | t + 1 => (sgStep t (sgGo m n0 t).1, (sgGo m n0 t).2 ++ [m.getD (sgStep t (sgGo m n0 t).1 / 13 % (m.length : Int)).toNat 0])
def signsF (n size : Int) (m : List Nat) : List Nat := (sgGo m n size.toNat).2
theorem sg_at {m : List Nat} (h : Menu m) (x : Int) : 0 ≤ x % (m.length : Int) ∧ (x % (m.length : Int)).toNat < m.length := by
  have h1 := Int.emod_nonneg x (show (m.length : Int) ≠ 0 by have := h.1; omega)
  have h2 := Int.emod_lt_of_pos x (show (0 : Int) < (m.length : Int) by have := h.1; omega)
  omega
theorem sgGo_ok {m : List Nat} (h : Menu m) (n0 : Int) : ∀ t : Nat, (sgGo m n0 t).2.length = t ∧ (∀ c ∈ (sgGo m n0 t).2, c ∈ m)
  | 0 => ⟨rfl, fun _ z => nomatch z⟩
  | t + 1 => by
    obtain ⟨h1, h2⟩ := sgGo_ok h n0 t
    refine ⟨by show ((sgGo m n0 t).2 ++ [_]).length = _; rw [List.length_append, h1]; rfl, fun c hc => ?_⟩
    rcases List.mem_append.mp (show c ∈ (sgGo m n0 t).2 ++ [_] from hc) with z | z
    · exact h2 c z
    · rw [List.mem_singleton.mp z, List.getD_eq_getElem?_getD, List.getElem?_eq_getElem (sg_at h _).2]
      exact List.getElem_mem _
/-- one word -/
def Wrd (l : List Nat) : Prop := l ≠ [] ∧ ∀ c ∈ l, 33 ≤ c ∧ c ≤ 126
theorem signs_ok {m : List Nat} (h : Menu m) (n size : Int) (hs : 1 ≤ size) : Wrd (signsF n size m) ∧ (signsF n size m).length = size.toNat := by
  obtain ⟨h1, h2⟩ := sgGo_ok h n size.toNat
  refine ⟨⟨fun z => ?_, fun c hc => h.2.2 c (h2 c hc)⟩, h1⟩
  have : (signsF n size m).length = size.toNat := h1
  rw [z] at this
  simp at this
  omega
/-- words with one blank between -/
structure Tdy (l : List Nat) : Prop where
  ne : l ≠ []
  sg : Sg l
  nd : nd l = true
  hd : l.head? ≠ some 32
  la : l.getLast? ≠ some 32
theorem Wrd.tdy {l : List Nat} (h : Wrd l) : Tdy l := by
  have hb : 32 ∉ l := fun z => by have := h.2 32 z; omega
  refine ⟨h.1, fun c hc => by have := h.2 c hc; omega, nd_free hb, fun z => ?_, fun z => ?_⟩
  · exact hb (List.mem_of_head? z)
  · exact hb (List.mem_of_getLast? z)
theorem head_app {a b : List Nat} (h : a ≠ []) : (a ++ b).head? = a.head? := by
  cases a with
  | nil => exact absurd rfl h
  | cons x a => rfl
theorem glast_app {a b : List Nat} (h : b ≠ []) : (a ++ b).getLast? = b.getLast? := by
  rw [List.getLast?_append]
  cases e : b.getLast? with
  | none => exact absurd (List.getLast?_eq_none_iff.mp e) h
  | some x => rfl
theorem Tdy.join {a b : List Nat} (h : Tdy a) (k : Tdy b) : Tdy (a ++ [32] ++ b) := by
  have e : a ++ [32] ++ b = a ++ ([32] ++ b) := List.append_assoc ..
  refine ⟨by simp, (h.sg.app (by intro c hc; rw [List.mem_singleton.mp hc]; omega)).app k.sg, ?_, ?_, ?_⟩
  · rw [e]
    refine nd_app h.nd (nd_app rfl k.nd fun z => k.hd z.2) fun z => h.la z.1
  · rw [e, head_app h.ne]; exact h.hd
  · rw [glast_app k.ne]; exact k.la
theorem glue_tdy : ∀ {ws : List (List Nat)}, ws ≠ [] → (∀ w ∈ ws, Wrd w) → Tdy (glueC [32] ws)
  | [w], _, h => (h w List.mem_cons_self).tdy
  | w :: v :: r, _, h => by
    rw [glueC_cons _ _ _ (by simp)]
    exact (h w List.mem_cons_self).tdy.join (glue_tdy (by simp) fun x hx => h x (List.mem_cons_of_mem _ hx))
theorem glue_len {n : Nat} : ∀ {ws : List (List Nat)}, (∀ w ∈ ws, w.length ≤ n) → (glueC [32] ws).length ≤ (n + 1) * ws.length
  | [], _ => by simp [glueC]
  | [w], h => by have := h w List.mem_cons_self; show w.length ≤ _; simp; omega
  | w :: v :: r, h => by
    have ih := glue_len (ws := v :: r) fun x hx => h x (List.mem_cons_of_mem _ hx)
    have := h w List.mem_cons_self
    rw [glueC_cons _ _ _ (by simp), List.length_append, List.length_append]
    simp only [List.length_cons, List.length_nil, Nat.mul_add, Nat.mul_one] at ih ⊢
    omega
def ownF (n : Int) (t : Nat) : Int := mixF n (3 * (t : Int) + 1)
def wordF (n : Int) (t : Nat) : List Nat := signsF (ownF n t) (1 + ownF n t / 7 % 6) (menuF (ownF n t / 50))
def textF (n most : Int) : List Nat := glueC [32] ((List.range (1 + n % most).toNat).map (wordF n))
theorem word_ok (n : Int) (t : Nat) : Wrd (wordF n t) ∧ (wordF n t).length ≤ 6 := by
  have h := signs_ok (menu_ok (ownF n t / 50)) (ownF n t) (1 + ownF n t / 7 % 6) (by omega)
  exact ⟨h.1, by rw [show wordF n t = signsF (ownF n t) (1 + ownF n t / 7 % 6) (menuF (ownF n t / 50)) from rfl, h.2]; omega⟩
theorem text_ok (n most : Int) (h1 : 1 ≤ most) (h2 : most ≤ 100) : Tdy (textF n most) ∧ (textF n most).length ≤ 700 := by
  have hm := Int.emod_nonneg n (show most ≠ 0 by omega)
  have hm2 := Int.emod_lt_of_pos n (show 0 < most by omega)
  refine ⟨glue_tdy (fun z => ?_) fun w hw => ?_, Nat.le_trans (glue_len (n := 6) fun w hw => ?_) ?_⟩
  · have := congrArg List.length z
    rw [List.length_map, List.length_range] at this
    simp at this
    omega
  · obtain ⟨t, _, rfl⟩ := List.mem_map.mp hw
    exact (word_ok n t).1
  · obtain ⟨t, _, rfl⟩ := List.mem_map.mp hw
    exact (word_ok n t).2
  · rw [List.length_map, List.length_range]
    omega
def nameF (n : Int) : List Nat :=
  if n % 3 = 0 then signsF (n / 40) (1 + n / 3 % 12) mnLet
  else List.replicate (n / 40 % (1 + n / 3 % 12)).toNat 110 ++ signsF (n / 500) 1 mnLet ++ List.replicate (1 + n / 3 % 12 - 1 - n / 40 % (1 + n / 3 % 12)).toNat 110
theorem let_in : ∀ c ∈ mnLet, nameSigns.contains c = true := by decide
theorem name_ok (n : Int) (h : 0 ≤ n) : isNameC (nameF n) = true := by
  have hl : ∀ t, ∀ c ∈ (sgGo mnLet t (1 + n / 3 % 12).toNat).2, c ∈ mnLet := fun t => (sgGo_ok menu_let t _).2
  have hn : nameSigns.contains 110 = true := by decide
  have key : 1 ≤ (nameF n).length ∧ (nameF n).length ≤ 12 ∧ ∀ c ∈ nameF n, nameSigns.contains c = true := by
    unfold nameF
    split
    · have h1 := (signs_ok menu_let (n / 40) (1 + n / 3 % 12) (by omega)).2
      refine ⟨by rw [h1]; omega, by rw [h1]; omega, fun c hc => let_in c ((sgGo_ok menu_let _ _).2 c hc)⟩
    · have h1 := (signs_ok menu_let (n / 500) 1 (by omega)).2
      have hm := Int.emod_nonneg (n / 40) (show 1 + n / 3 % 12 ≠ 0 by omega)
      have hm2 := Int.emod_lt_of_pos (n / 40) (show 0 < 1 + n / 3 % 12 by omega)
      refine ⟨?_, ?_, fun c hc => ?_⟩
      · rw [List.length_append, List.length_append, h1, List.length_replicate, List.length_replicate]; omega
      · rw [List.length_append, List.length_append, h1, List.length_replicate, List.length_replicate]; omega
      · rcases List.mem_append.mp hc with z | z
        · rcases List.mem_append.mp z with z | z
          · rw [(List.mem_replicate.mp z).2]; exact hn
          · exact let_in c ((sgGo_ok menu_let _ _).2 c z)
        · rw [(List.mem_replicate.mp z).2]; exact hn
  unfold isNameC
  rw [decide_eq_true key.1, decide_eq_true key.2.1, Bool.true_and, Bool.true_and, List.all_eq_true]
  exact key.2.2
def endsF (l : List Nat) (n : Int) : List Nat := (if n % 4 = 1 then [32] else []) ++ l ++ (if n / 4 % 4 = 1 then [32] else [])
/-! ### parts drawn -/
/-- a text with a blank at an end or none -/
structure Edg (l : List Nat) : Prop where
  ne : l ≠ []
  sg : Sg l
  nd : nd l = true
  len : l.length ≤ 90000
theorem ends_ok {l : List Nat} (h : Tdy l) (hl : l.length ≤ 80000) (n : Int) : Edg (endsF l n) := by
  unfold endsF
  have hb : Sg ([32] : List Nat) := by intro c hc; rw [List.mem_singleton.mp hc]; omega
  have h1 : ∀ b : Bool, Sg (if b then [32] else []) ∧ nd (if b then [32] else []) = true ∧ (if b then [32] else [] : List Nat).length ≤ 1 := fun b => by cases b; exact ⟨(fun _ z => nomatch z), rfl, by simp⟩; exact ⟨hb, rfl, by simp⟩
  have e1 := h1 (decide (n % 4 = 1))
  have e2 := h1 (decide (n / 4 % 4 = 1))
  simp only [decide_eq_true_eq] at e1 e2
  refine ⟨?_, (e1.1.app h.sg).app e2.1, ?_, ?_⟩
  · intro z
    have h3 := congrArg List.length z
    rw [List.length_append, List.length_append, List.length_nil] at h3
    exact h.ne (List.eq_nil_of_length_eq_zero (by omega))
  · refine nd_app (nd_app e1.2.1 h.nd fun z => h.hd z.2) e2.2.1 fun z => ?_
    rw [glast_app h.ne] at z
    exact h.la z.1
  · rw [List.length_append, List.length_append]
    have := e1.2.2
    have := e2.2.2
    omega
theorem Edg.cons {l : List Nat} (h : Edg l) (c : Nat) (h1 : 33 ≤ c) (h2 : c ≤ 126) : Edg (c :: l) ∨ l.length = 90000 := by
  by_cases z : l.length = 90000
  · exact .inr z
  · refine .inl ⟨by simp, ?_, nd_app (a := [c]) rfl h.nd fun q => by (have : c = 32 := by simpa using q.1); omega, by have := h.len; rw [List.length_cons]; omega⟩
    intro x hx
    rcases List.mem_cons.mp hx with rfl | hx
    · omega
    · exact h.sg x hx
theorem Edg.ok {l : List Nat} (h : Edg l) : okSg (S l) = true := okSg_of h.ne h.sg h.nd
theorem Edg.str {l : List Nat} (h : Edg l) : StrG (S l) := strG_of h.sg (by have := h.len; omega)
/-- normal parts -/
def P1Ok : P1 → Prop
  | .plain s => okSg s = true ∧ StrG s
  | .code s => okCd s = true ∧ StrG s
  | .link w n => (okSg w = true ∧ StrG w) ∧ okNm n = true ∧ StrG n
  | .note n => okNm n = true ∧ StrG n
def P1.isPlain : P1 → Bool
  | .plain _ => true
  | _ => false
def kd1 : P1 → Str
  | .plain _ => kPlain
  | .code _ => kCode
  | .link _ _ => kLink
  | .note _ => kNote
def kdP : PC → Str
  | .one p => kd1 p
  | .strong _ => kStrong
/-- no two plain ones side by side -/
def Alt : Bool → List Bool → Prop
  | _, [] => True
  | prev, b :: r => ¬ (prev = true ∧ b = true) ∧ Alt b r
def PCOk : PC → Prop
  | .one p => P1Ok p
  | .strong ps => ps ≠ [] ∧ ps.length ≤ 100000 ∧ (∀ p ∈ ps, P1Ok p) ∧ Alt false (ps.map P1.isPlain)
theorem partG_2 {go : PyData → Option (List P1)} {k : Str} {a : PyData} : partG go (.tuple [.str k, a]) = if k = kPlain then (sgD a).map fun s => PC.one (.plain s) else if k = kCode then (cdD a).map fun s => PC.one (.code s) else if k = kNote then (nmD a).map fun s => PC.one (.note s) else if k = kStrong then (go a).map PC.strong else none := rfl
theorem partG_3 {go : PyData → Option (List P1)} {k : Str} {a b : PyData} : partG go (.tuple [.str k, a, b]) = if k = kLink then (lnD a b).map PC.one else none := rfl
theorem part_one {go : PyData → Option (List P1)} : ∀ {p : P1}, P1Ok p → partG go (d1 p) = some (.one p)
  | .plain s, h => by
    rw [show d1 (.plain s) = .tuple [.str kPlain, .str s] from rfl, partG_2, if_pos rfl, show sgD (.str s) = some s from if_pos h.1]
    rfl
  | .code s, h => by
    obtain ⟨n1, _⟩ := kinds
    rw [show d1 (.code s) = .tuple [.str kCode, .str s] from rfl, partG_2, if_neg (Ne.symm n1), if_pos rfl, show cdD (.str s) = some s from if_pos h.1]
    rfl
  | .note s, h => by
    obtain ⟨n1, n2, n3, n4, _⟩ := kinds
    rw [show d1 (.note s) = .tuple [.str kNote, .str s] from rfl, partG_2, if_neg (Ne.symm n2), if_neg (Ne.symm n4), if_pos rfl, show nmD (.str s) = some s from if_pos h.1]
    rfl
  | .link w n, h => by
    rw [show d1 (.link w n) = .tuple [.str kLink, .str w, .str n] from rfl, partG_3, if_pos rfl]
    unfold lnD
    rw [show sgD (.str w) = some w from if_pos h.1.1, show nmD (.str n) = some n from if_pos h.2.1]
    rfl
theorem run_of {part : PyData → Option PC} : ∀ {ps : List PC} {prev : Bool}, (∀ p ∈ ps, part (dP p) = some p) → Alt prev (ps.map PC.isPlain) → runG part prev (ps.map dP) = some ps
  | [], _, _, _ => rfl
  | p :: ps, prev, h, k => by
    have h1 := h p List.mem_cons_self
    obtain ⟨k1, k2⟩ := k
    show (match part (dP p) with | none => none | some p => if prev && p.isPlain then none else (runG part p.isPlain (ps.map dP)).map (p :: ·)) = _
    rw [h1]
    dsimp only
    rw [if_neg (by rw [Bool.and_eq_true]; exact k1), run_of (fun q hq => h q (List.mem_cons_of_mem _ hq)) k2]
    rfl
theorem plain_one (ps : List P1) : (ps.map PC.one).map PC.isPlain = ps.map P1.isPlain := by
  rw [List.map_map]
  refine List.map_congr_left fun p _ => ?_
  cases p <;> rfl
theorem ones_one : ∀ ps : List P1, ones (ps.map PC.one) = ps
  | [] => rfl
  | p :: ps => by
    have := ones_one ps
    unfold ones at this ⊢
    rw [List.map_cons, List.filterMap_cons, one?, this]
theorem inner_of {ps : List P1} (h : PCOk (.strong ps)) : innerD (.list (ps.map d1)) = some ps := by
  obtain ⟨h1, _, h3, h4⟩ := h
  have hr : runG (partG noGo) false ((ps.map PC.one).map dP) = some (ps.map PC.one) := run_of (fun p hp => by obtain ⟨q, hq, rfl⟩ := List.mem_map.mp hp; exact part_one (h3 q hq)) (by rw [plain_one]; exact h4)
  have e : (ps.map PC.one).map dP = ps.map d1 := by rw [List.map_map]; rfl
  rw [e] at hr
  show (match runG (partG noGo) false (ps.map d1) with | some (p :: ps) => some (ones (p :: ps)) | _ => none) = _
  rw [hr]
  cases ps with
  | nil => exact absurd rfl h1
  | cons p ps => exact congrArg some (ones_one (p :: ps))
theorem part_of {p : PC} (h : PCOk p) : partD true (dP p) = some p := by
  cases p with
  | one p => exact part_one h
  | strong ps =>
    obtain ⟨n1, n2, n3, n4, n5, n6, _⟩ := kinds
    rw [show dP (.strong ps) = .tuple [.str kStrong, .list (ps.map d1)] from rfl, partD_2, if_neg (Ne.symm n3), if_neg (Ne.symm n5), if_neg (Ne.symm n6), if_pos rfl, if_pos rfl, inner_of h]
    rfl
theorem norm_of {ps : List PC} (h : ∀ p ∈ ps, PCOk p) (k : Alt false (ps.map PC.isPlain)) (e : endsOk ps = true) : normD (.list (ps.map dP)) = some ps := by
  show (match runG (partD true) false (ps.map dP) with | some ps => if endsOk ps then some ps else none | none => none) = _
  rw [run_of (fun p hp => part_of (h p hp)) k]
  dsimp only
  rw [if_pos e]
/-! what the law draws -/
def kinds6 : List Str := [kPlain, kPlain, kCode, kLink, kNote, kStrong]
def kinds3 : List Str := [kCode, kLink, kNote]
def kindF (n : Int) (before : Str) (inner : Bool) : Str :=
  if (inner = true ∧ kinds6.getD (n % 6).toNat kPlain = kStrong) ∨ (before = kPlain ∧ kinds6.getD (n % 6).toNat kPlain = kPlain) then kinds3.getD (n / 6 % 3).toNat kCode else kinds6.getD (n % 6).toNat kPlain
def tickF (l : List Nat) : List Nat := glueC [39] (splitC 96 l)
def smallN (n : Int) : Str := S (smallC (nameF n))
def p1F (n : Int) (before k : Str) : P1 :=
  if k = kNote then .note (smallN (n / 6 / 3))
  else if k = kLink then .link (S ((if n / 6 % 5 = 0 then [94] else []) ++ endsF (textF (mixF (n / 6) 71) 3) (n / 6 / 3))) (smallN (n / 6 / 7))
  else if k = kCode then .code (S (tickF (endsF (textF (mixF (n / 6) 71) 3) (n / 6 / 3))))
  else if before = kNote ∧ n / 6 % 2 = 0 then .plain (S (58 :: endsF (textF (mixF (n / 6) 71) 3) (n / 6 / 3)))
  else .plain (S (endsF (textF (mixF (n / 6) 71) 3) (n / 6 / 3)))
def goF {α : Type} (part : Int → Str → α) (kd : α → Str) (n : Int) : Nat → List α × Str
  | 0 => ([], "")
  | t + 1 => ((goF part kd n t).1 ++ [part (mixF n ((t : Int) + 2)) (goF part kd n t).2], kd (part (mixF n ((t : Int) + 2)) (goF part kd n t).2))
def innerF (n : Int) (before : Str) : P1 := p1F n before (kindF n before true)
def inF (n : Int) (size : Nat) : List P1 := (goF innerF kd1 n size).1
def partF (n : Int) (before : Str) : PC := if kindF n before false = kStrong then .strong (inF (mixF (n / 6) 70) (1 + n / 6 % 3).toNat) else .one (p1F n before (kindF n before false))
def lsP : PC → PC
  | .one (.plain s) => .one (.plain (Txt.lstripChars s " "))
  | p => p
def rsP : PC → PC
  | .one (.plain s) => .one (.plain (Txt.rstripChars s " "))
  | p => p
def hdL {α : Type} (f : α → α) : List α → List α
  | [] => []
  | a :: r => f a :: r
def laL {α : Type} (f : α → α) (l : List α) : List α := (hdL f l.reverse).reverse
def partsF (n : Int) (size : Nat) : List PC := laL rsP (hdL lsP (goF partF kdP n size).1)
/-! ### what is drawn is normal -/
theorem tick_map (c z : Nat) : ∀ l : List Nat, glueC [z] (splitC c l) = l.map fun x => if x = c then z else x
  | [] => rfl
  | x :: r => by
    have ih := tick_map c z r
    by_cases h : x = c
    · subst h
      rw [splitC_sep, glueC_cons _ _ _ (splitC_ne x r), ih, List.map_cons, if_pos rfl]
      rfl
    · obtain ⟨p, t, e1, e2⟩ := splitC_cons c x r h
      rw [e2, List.map_cons, if_neg h, ← ih, e1]
      cases t with
      | nil => rfl
      | cons q t => rfl
theorem nd_map {f : Nat → Nat} (hf : ∀ c, f c = 32 ↔ c = 32) : ∀ l : List Nat, nd (l.map f) = nd l
  | [] => rfl
  | [a] => rfl
  | a :: b :: r => by
    have ih := nd_map hf (b :: r)
    show (!(f a == 32 && f b == 32) && nd (f b :: r.map f)) = (!(a == 32 && b == 32) && nd (b :: r))
    have e : ∀ c : Nat, (f c == 32) = (c == 32) := fun c => by
      rw [Bool.eq_iff_iff]
      simp only [beq_iff_eq]
      exact hf c
    rw [e, e, show nd (f b :: r.map f) = nd ((b :: r).map f) from rfl, ih]
theorem tick_edg {l : List Nat} (h : Edg l) : Edg (tickF l) ∧ 96 ∉ tickF l := by
  have hm : tickF l = l.map fun x => if x = 96 then 39 else x := tick_map 96 39 l
  rw [hm]
  refine ⟨⟨fun z => h.ne (List.map_eq_nil_iff.mp z), fun c hc => ?_, ?_, by rw [List.length_map]; exact h.len⟩, fun hc => ?_⟩
  · obtain ⟨x, hx, rfl⟩ := List.mem_map.mp hc
    have := h.sg x hx
    split <;> omega
  · rw [nd_map, h.nd]
    intro c
    split <;> omega
  · obtain ⟨x, hx, e⟩ := List.mem_map.mp hc
    split at e <;> omega
theorem lo1_lo1 (c : Nat) : PyProof.Rows.lo1 (PyProof.Rows.lo1 c) = PyProof.Rows.lo1 c := by
  unfold PyProof.Rows.lo1
  split
  · rw [if_neg (by omega)]
  · rfl
theorem lo1_name : ∀ c ∈ nameSigns, nameSigns.contains (PyProof.Rows.lo1 c) = true := by decide
theorem small_name {l : List Nat} (h : isNameC l = true) : isNameC (smallC l) = true ∧ smallC (smallC l) = smallC l := by
  unfold isNameC at h ⊢
  rw [Bool.and_eq_true, Bool.and_eq_true] at h
  obtain ⟨⟨h1, h2⟩, h3⟩ := h
  constructor
  · unfold smallC
    rw [List.length_map, h1, h2, Bool.true_and, Bool.true_and, List.all_eq_true]
    intro c hc
    obtain ⟨x, hx, rfl⟩ := List.mem_map.mp hc
    exact lo1_name x (List.contains_iff_mem.mp (List.all_eq_true.mp h3 x hx))
  · unfold smallC
    rw [List.map_map]
    exact List.map_congr_left fun c _ => lo1_lo1 c
theorem smallN_ok {n : Int} (h : 0 ≤ n) : okNm (smallN n) = true ∧ StrG (smallN n) := by
  obtain ⟨h1, h2⟩ := small_name (name_ok n h)
  refine ⟨?_, strOk_S (name_asc h1), ?_⟩
  · unfold okNm smallN
    rw [S_list, h1, h2, decide_eq_true rfl]
    rfl
  · unfold smallN
    rw [S_len]
    unfold isNameC at h1
    rw [Bool.and_eq_true, Bool.and_eq_true] at h1
    have := of_decide_eq_true h1.1.2
    omega
theorem sig_ok (n : Int) : Edg (endsF (textF (mixF (n / 6) 71) 3) (n / 6 / 3)) ∧ (endsF (textF (mixF (n / 6) 71) 3) (n / 6 / 3)).length ≤ 702 := by
  have h := text_ok (mixF (n / 6) 71) 3 (by omega) (by omega)
  refine ⟨ends_ok h.1 (by omega) _, ?_⟩
  have := h.2
  unfold endsF
  rw [List.length_append, List.length_append]
  split <;> split <;> simp <;> omega
/-- the kinds that are not strong -/
def K4 (k : Str) : Prop := k = kNote ∨ k = kLink ∨ k = kCode ∨ k = kPlain
theorem Edg.put {l : List Nat} (h : Edg l) (hl : l.length ≤ 1000) {c : Nat} (h1 : 33 ≤ c) (h2 : c ≤ 126) : Edg (c :: l) := by
  rcases h.cons c h1 h2 with z | z
  · exact z
  · omega
theorem p1F_ok {n : Int} {before k : Str} (h : 0 ≤ n) (hk : K4 k) : P1Ok (p1F n before k) ∧ kd1 (p1F n before k) = k := by
  obtain ⟨n1, n2, n3, n4, n5, n6, n7, n8, n9, n10⟩ := kinds
  obtain ⟨he, hl⟩ := sig_ok n
  unfold p1F
  by_cases h1 : k = kNote
  · subst h1
    rw [if_pos rfl]
    exact ⟨smallN_ok (by omega), rfl⟩
  rw [if_neg h1]
  by_cases h2 : k = kLink
  · subst h2
    rw [if_pos rfl]
    have he2 : Edg ((if n / 6 % 5 = 0 then [94] else []) ++ endsF (textF (mixF (n / 6) 71) 3) (n / 6 / 3)) := by
      split
      · exact he.put (by omega) (c := 94) (by omega) (by omega)
      · exact he
    exact ⟨⟨⟨he2.ok, he2.str⟩, smallN_ok (by omega)⟩, rfl⟩
  rw [if_neg h2]
  by_cases h3 : k = kCode
  · subst h3
    rw [if_pos rfl]
    obtain ⟨t1, t2⟩ := tick_edg he
    refine ⟨⟨?_, t1.str⟩, rfl⟩
    unfold okCd
    rw [t1.ok, show hasS "`" (S (tickF _)) = false from has_one (c := 96) t2]
    rfl
  rw [if_neg h3]
  have h4 : k = kPlain := by
    rcases hk with z | z | z | z
    · exact absurd z h1
    · exact absurd z h2
    · exact absurd z h3
    · exact z
  subst h4
  split
  · have := he.put (by omega) (c := 58) (by omega) (by omega)
    exact ⟨⟨this.ok, this.str⟩, rfl⟩
  · exact ⟨⟨he.ok, he.str⟩, rfl⟩
theorem kindF_in {n : Int} {before : Str} (h : 0 ≤ n) : K4 (kindF n before true) := by
  obtain ⟨n1, n2, n3, n4, n5, n6, n7, n8, n9, n10⟩ := kinds
  have h6 : ∀ j : Nat, j < 6 → kinds6.getD j kPlain ≠ kStrong → K4 (kinds6.getD j kPlain) := fun j hj hne => by
    match j, hj, hne with
    | 0, _, _ => exact .inr (.inr (.inr rfl))
    | 1, _, _ => exact .inr (.inr (.inr rfl))
    | 2, _, _ => exact .inr (.inr (.inl rfl))
    | 3, _, _ => exact .inr (.inl rfl)
    | 4, _, _ => exact .inl rfl
    | 5, _, z => exact absurd rfl z
  have h3 : ∀ j : Nat, j < 3 → K4 (kinds3.getD j kCode) := fun j hj => by
    match j, hj with
    | 0, _ => exact .inr (.inr (.inl rfl))
    | 1, _ => exact .inr (.inl rfl)
    | 2, _ => exact .inl rfl
  unfold kindF
  split
  · exact h3 _ (by omega)
  · rename_i hc
    refine h6 _ (by omega) fun z => hc (.inl ⟨rfl, z⟩)
theorem kindF_out {n : Int} {before : Str} (h : 0 ≤ n) (hs : kindF n before false ≠ kStrong) : K4 (kindF n before false) := by
  have h6 : ∀ j : Nat, j < 6 → kinds6.getD j kPlain ≠ kStrong → K4 (kinds6.getD j kPlain) := fun j hj hne => by
    match j, hj, hne with
    | 0, _, _ => exact .inr (.inr (.inr rfl))
    | 1, _, _ => exact .inr (.inr (.inr rfl))
    | 2, _, _ => exact .inr (.inr (.inl rfl))
    | 3, _, _ => exact .inr (.inl rfl)
    | 4, _, _ => exact .inl rfl
    | 5, _, z => exact absurd rfl z
  have h3 : ∀ j : Nat, j < 3 → K4 (kinds3.getD j kCode) := fun j hj => by
    match j, hj with
    | 0, _ => exact .inr (.inr (.inl rfl))
    | 1, _ => exact .inr (.inl rfl)
    | 2, _ => exact .inl rfl
  unfold kindF at hs ⊢
  split
  · exact h3 _ (by omega)
  · rename_i hc
    rw [if_neg hc] at hs
    exact h6 _ (by omega) hs
/-- a plain one never behind a plain one -/
theorem kindF_alt {n : Int} {before : Str} {inner : Bool} (h : 0 ≤ n) (hb : before = kPlain) : kindF n before inner ≠ kPlain := by
  obtain ⟨n1, n2, n3, n4, n5, n6, n7, n8, n9, n10⟩ := kinds
  have h3 : ∀ j : Nat, j < 3 → kinds3.getD j kCode ≠ kPlain := fun j hj => by
    match j, hj with
    | 0, _ => exact Ne.symm n1
    | 1, _ => exact Ne.symm n7
    | 2, _ => exact Ne.symm n2
  unfold kindF
  split
  · exact h3 _ (by omega)
  · rename_i hc
    exact fun z => hc (.inr ⟨hb, z⟩)
/-! ### blanks taken off the ends -/
theorem nd_rev : ∀ {l : List Nat}, nd l = true → nd l.reverse = true
  | [], _ => rfl
  | [a], _ => rfl
  | a :: b :: r, h => by
    have ih := nd_rev (l := b :: r) (nd_tail h)
    rw [List.reverse_cons]
    refine nd_app ih rfl fun z => ?_
    rw [List.getLast?_reverse] at z
    have h1 : b = 32 := Option.some.inj z.1
    have h2 : a = 32 := Option.some.inj z.2
    unfold nd at h
    rw [h1, h2] at h
    simp at h
def Ink (l : List Nat) : Prop := ∃ c ∈ l, c ≠ 32
theorem dw_drop (p : Nat → Bool) : ∀ l : List Nat, ∃ k, l.dropWhile p = l.drop k
  | [] => ⟨0, rfl⟩
  | x :: l => by
    by_cases h : p x = true
    · obtain ⟨k, e⟩ := dw_drop p l
      exact ⟨k + 1, by rw [List.dropWhile_cons_of_pos h, e]; rfl⟩
    · exact ⟨0, by rw [List.dropWhile_cons_of_neg h]; rfl⟩
theorem ls_edg {l : List Nat} (h : Edg l) (i : Ink l) : Edg (l.dropWhile ([32] : List Nat).contains) ∧ Ink (l.dropWhile ([32] : List Nat).contains) ∧ (l.dropWhile ([32] : List Nat).contains).head? ≠ some 32 := by
  obtain ⟨c, hc, hne⟩ := i
  have hmem : ∀ {l : List Nat}, c ∈ l → c ∈ l.dropWhile ([32] : List Nat).contains := fun {l} hc => by
    induction l with
    | nil => cases hc
    | cons x l ih =>
      by_cases hx : ([32] : List Nat).contains x = true
      · rw [List.dropWhile_cons_of_pos hx]
        rcases List.mem_cons.mp hc with rfl | hc
        · exact absurd (by simpa using hx) hne
        · exact ih hc
      · rw [List.dropWhile_cons_of_neg hx]; exact hc
  have hm := hmem hc
  obtain ⟨k, e⟩ := dw_drop ([32] : List Nat).contains l
  refine ⟨⟨(fun z => by rw [z] at hm; cases hm), (fun x hx => ?_), ?_, ?_⟩, ⟨c, hm, hne⟩, (fun z => ?_)⟩
  · rw [e] at hx; exact h.sg x (List.mem_of_mem_drop hx)
  · rw [e]; exact nd_drop k h.nd
  · rw [e, List.length_drop]; have := h.len; omega
  · have := List.head?_dropWhile_not ([32] : List Nat).contains l
    rw [z] at this
    simp at this
theorem rs_edg {l : List Nat} (h : Edg l) (i : Ink l) : Edg (rstripL ([32] : List Nat).contains l) ∧ (rstripL ([32] : List Nat).contains l).getLast? ≠ some 32 ∧ (l.head? ≠ some 32 → (rstripL ([32] : List Nat).contains l).head? ≠ some 32) := by
  have hr : Edg l.reverse := ⟨fun z => h.ne (List.reverse_eq_nil_iff.mp z), fun c hc => h.sg c (List.mem_reverse.mp hc), nd_rev h.nd, by rw [List.length_reverse]; exact h.len⟩
  obtain ⟨c, hc, hne⟩ := i
  obtain ⟨e1, e2, e3⟩ := ls_edg hr ⟨c, List.mem_reverse.mpr hc, hne⟩
  unfold rstripL
  refine ⟨⟨fun z => e1.ne (List.reverse_eq_nil_iff.mp z), fun c hc => e1.sg c (List.mem_reverse.mp hc), nd_rev e1.nd, by rw [List.length_reverse]; exact e1.len⟩, by rw [List.getLast?_reverse]; exact e3, fun hh z => ?_⟩
  rw [List.head?_reverse] at z
  obtain ⟨k, e⟩ := dw_drop ([32] : List Nat).contains l.reverse
  rw [e] at z
  have hne2 : l.reverse.drop k ≠ [] := e ▸ e1.ne
  have : l.reverse.getLast? = some 32 := by
    rw [← List.take_append_drop k l.reverse, glast_app hne2]
    exact z
  rw [List.getLast?_reverse] at this
  exact hh this
/-- plain parts as they are drawn: their text is one that may be stripped -/
def PInk : PC → Prop
  | .one (.plain s) => ∃ l, s = S l ∧ Edg l ∧ Ink l
  | _ => True
theorem ink_of {a t b : List Nat} (h : Tdy t) : Ink (a ++ t ++ b) := by
  cases t with
  | nil => exact absurd rfl h.ne
  | cons x t =>
    refine ⟨x, List.mem_append_left _ (List.mem_append_right _ List.mem_cons_self), fun z => h.hd (by rw [z]; rfl)⟩
theorem p1F_ink {n : Int} {before k : Str} : PInk (.one (p1F n before k)) := by
  obtain ⟨he, hl⟩ := sig_ok n
  have hi : Ink (endsF (textF (mixF (n / 6) 71) 3) (n / 6 / 3)) := ink_of (text_ok _ 3 (by omega) (by omega)).1
  unfold p1F
  split
  · trivial
  · split
    · trivial
    · split
      · trivial
      · split
        · refine ⟨_, rfl, he.put (by omega) (by omega) (by omega), 58, List.mem_cons_self, by decide⟩
        · exact ⟨_, rfl, he, hi⟩
theorem kd_plain (p : PC) : p.isPlain = true ↔ kdP p = kPlain := by
  obtain ⟨n1, n2, n3, n4, n5, n6, n7, n8, n9, n10⟩ := kinds
  cases p with
  | one p => cases p with
    | plain s => exact ⟨fun _ => rfl, fun _ => rfl⟩
    | code s => exact ⟨(fun z => nomatch z), fun z => absurd z (Ne.symm n1)⟩
    | link a b => exact ⟨(fun z => nomatch z), fun z => absurd z (Ne.symm n7)⟩
    | note s => exact ⟨(fun z => nomatch z), fun z => absurd z (Ne.symm n2)⟩
  | strong ps => exact ⟨(fun z => nomatch z), fun z => absurd z (Ne.symm n3)⟩
theorem Alt.snoc : ∀ {bs : List Bool} {prev b : Bool}, Alt prev bs → ¬ ((bs.getLast?.getD prev) = true ∧ b = true) → Alt prev (bs ++ [b])
  | [], prev, b, _, h => ⟨h, trivial⟩
  | x :: bs, prev, b, ⟨h1, h2⟩, h => by
    refine ⟨h1, Alt.snoc h2 fun z => h ⟨?_, z.2⟩⟩
    cases bs with
    | nil => exact z.1
    | cons y bs =>
      rw [List.getLast?_cons_cons]
      have := z.1
      cases e : (y :: bs).getLast? with
      | none => simp at e
      | some q => rw [e] at this; exact this
theorem goF_ok {α : Type} {part : Int → Str → α} {kd : α → Str} {ok : α → Prop} {pl : α → Bool} (n : Int) (hok : ∀ m b, 0 ≤ m → m ≤ 90749486 → ok (part m b)) (hpl : ∀ a, pl a = true ↔ kd a = kPlain) (halt : ∀ m b, 0 ≤ m → b = kPlain → kd (part m b) ≠ kPlain) :
    ∀ t : Nat, (goF part kd n t).1.length = t ∧ (∀ a ∈ (goF part kd n t).1, ok a) ∧ Alt false ((goF part kd n t).1.map pl) ∧ (((goF part kd n t).1.map pl).getLast?.getD false = true → (goF part kd n t).2 = kPlain)
  | 0 => ⟨rfl, (fun _ z => nomatch z), trivial, fun z => nomatch z⟩
  | t + 1 => by
    obtain ⟨h1, h2, h3, h4⟩ := goF_ok n hok hpl halt t
    have hm := mixF_ok n ((t : Int) + 2)
    refine ⟨?_, fun a ha => ?_, ?_, ?_⟩
    · show ((goF part kd n t).1 ++ [_]).length = _
      rw [List.length_append, h1]
      rfl
    · rcases List.mem_append.mp (show a ∈ (goF part kd n t).1 ++ [_] from ha) with z | z
      · exact h2 a z
      · rw [List.mem_singleton.mp z]; exact hok _ _ hm.1 hm.2
    · show Alt false (((goF part kd n t).1 ++ [part (mixF n ((t : Int) + 2)) (goF part kd n t).2]).map pl)
      rw [List.map_append]
      refine h3.snoc fun z => ?_
      exact halt _ _ hm.1 (h4 z.1) ((hpl _).mp z.2)
    · show (((goF part kd n t).1 ++ [part (mixF n ((t : Int) + 2)) (goF part kd n t).2]).map pl).getLast?.getD false = true → _
      rw [List.map_append, List.map_cons, List.map_nil, List.getLast?_concat]
      exact fun z => (hpl _).mp z
theorem inF_ok (n : Int) (t : Nat) : (inF n t).length = t ∧ (∀ p ∈ inF n t, P1Ok p) ∧ Alt false ((inF n t).map P1.isPlain) := by
  have := goF_ok (part := innerF) (kd := kd1) (ok := P1Ok) (pl := P1.isPlain) n (fun m b h _ => (p1F_ok h (kindF_in h)).1) (fun p => by have := kd_plain (.one p); cases p <;> exact this) (fun m b h hb => by
    show kd1 (p1F m b (kindF m b true)) ≠ _
    rw [(p1F_ok h (kindF_in h)).2]
    exact kindF_alt h hb) t
  exact ⟨this.1, this.2.1, this.2.2.1⟩
theorem partF_ok {n : Int} {before : Str} (h : 0 ≤ n) (h2 : n ≤ 4294967296) : (PCOk (partF n before) ∧ PInk (partF n before)) ∧ kdP (partF n before) = kindF n before false := by
  unfold partF
  split
  · rename_i hk
    have := inF_ok (mixF (n / 6) 70) (1 + n / 6 % 3).toNat
    refine ⟨⟨⟨fun z => ?_, by rw [this.1]; omega, this.2.1, this.2.2⟩, trivial⟩, hk.symm⟩
    have e := this.1
    rw [z] at e
    simp at e
    omega
  · rename_i hk
    have := p1F_ok (before := before) h (kindF_out h hk)
    exact ⟨⟨this.1, p1F_ink⟩, this.2⟩
theorem rawF_ok (n : Int) (t : Nat) : (goF partF kdP n t).1.length = t ∧ (∀ p ∈ (goF partF kdP n t).1, PCOk p ∧ PInk p) ∧ Alt false ((goF partF kdP n t).1.map PC.isPlain) := by
  have := goF_ok (part := partF) (kd := kdP) (ok := fun p => PCOk p ∧ PInk p) (pl := PC.isPlain) n (fun m b h h2 => (partF_ok h (by omega)).1) kd_plain (fun m b h hb => by
    show kdP (partF m b) ≠ _
    unfold partF
    split
    · exact Ne.symm kinds.2.2.1
    · rename_i hk
      show kd1 (p1F m b (kindF m b false)) ≠ _
      rw [(p1F_ok h (kindF_out h hk)).2]
      exact kindF_alt h hb) t
  exact ⟨this.1, this.2.1, this.2.2.1⟩
theorem lsP_ok {p : PC} (h : PCOk p) (i : PInk p) : PCOk (lsP p) ∧ PInk (lsP p) ∧ (lsP p).isPlain = p.isPlain ∧ (match lsP p with | .one (.plain s) => Txt.startswith s " " = false | _ => True) := by
  match p, h, i with
  | .one (.plain s), h, ⟨l, e, hE, hI⟩ =>
    subst e
    obtain ⟨e1, e2, e3⟩ := ls_edg hE hI
    have hl : Txt.lstripChars (S l) " " = S (l.dropWhile ([32] : List Nat).contains) := lstrip_S l [32]
    refine ⟨?_, ?_, rfl, ?_⟩
    · show okSg (Txt.lstripChars (S l) " ") = true ∧ StrG (Txt.lstripChars (S l) " ")
      rw [hl]; exact ⟨e1.ok, e1.str⟩
    · exact ⟨_, hl, e1, e2⟩
    · show Txt.startswith (Txt.lstripChars (S l) " ") " " = false
      rw [hl, show Txt.startswith (S (l.dropWhile ([32] : List Nat).contains)) " " = [32].isPrefixOf (l.dropWhile ([32] : List Nat).contains) from starts_S _ [32]]
      cases hd : l.dropWhile ([32] : List Nat).contains with
      | nil => rfl
      | cons x r =>
        rw [hd] at e3
        have : x ≠ 32 := fun z => e3 (by rw [z]; rfl)
        simp [List.isPrefixOf, Ne.symm this]
  | .one (.code s), h, i => exact ⟨h, i, rfl, trivial⟩
  | .one (.link a b), h, i => exact ⟨h, i, rfl, trivial⟩
  | .one (.note s), h, i => exact ⟨h, i, rfl, trivial⟩
  | .strong ps, h, i => exact ⟨h, i, rfl, trivial⟩
def stP : PC → Bool
  | .one (.plain s) => Txt.startswith s " "
  | _ => false
def enP : PC → Bool
  | .one (.plain s) => Txt.endswith s " "
  | _ => false
theorem starts_no {l : List Nat} : Txt.startswith (S l) " " = false ↔ l.head? ≠ some 32 := by
  rw [show Txt.startswith (S l) " " = [32].isPrefixOf l from starts_S _ [32]]
  cases l with
  | nil => exact ⟨fun _ z => (nomatch z), fun _ => rfl⟩
  | cons x r =>
    constructor
    · intro h z
      have : x = 32 := Option.some.inj z
      subst this
      exact absurd h (by simp [List.isPrefixOf])
    · intro h
      have : x ≠ 32 := fun z => h (by rw [z]; rfl)
      simp [List.isPrefixOf, Ne.symm this]
theorem ends_no {l : List Nat} : Txt.endswith (S l) " " = false ↔ l.getLast? ≠ some 32 := by
  rw [show Txt.endswith (S l) " " = decide (l.getLast? = some 32) from ends_S _ 32]
  exact decide_eq_false_iff_not
theorem ls_st {p : PC} (h : PCOk p) (i : PInk p) : stP (lsP p) = false := by
  have := (lsP_ok h i).2.2.2
  unfold stP
  split
  · rename_i s e
    rw [e] at this
    exact this
  · rfl
theorem rsP_ok {p : PC} (h : PCOk p) (i : PInk p) : PCOk (rsP p) ∧ (rsP p).isPlain = p.isPlain ∧ enP (rsP p) = false ∧ (stP p = false → stP (rsP p) = false) := by
  match p, h, i with
  | .one (.plain s), h, ⟨l, e, hE, hI⟩ =>
    subst e
    obtain ⟨e1, e2, e3⟩ := rs_edg hE hI
    have hl : Txt.rstripChars (S l) " " = S (rstripL ([32] : List Nat).contains l) := rstrip_S l [32]
    refine ⟨?_, rfl, ?_, fun z => ?_⟩
    · show okSg (Txt.rstripChars (S l) " ") = true ∧ StrG (Txt.rstripChars (S l) " ")
      rw [hl]; exact ⟨e1.ok, e1.str⟩
    · show Txt.endswith (Txt.rstripChars (S l) " ") " " = false
      rw [hl]; exact ends_no.mpr e2
    · show Txt.startswith (Txt.rstripChars (S l) " ") " " = false
      rw [hl]; exact starts_no.mpr (e3 (starts_no.mp z))
  | .one (.code s), h, i => exact ⟨h, rfl, rfl, fun _ => rfl⟩
  | .one (.link a b), h, i => exact ⟨h, rfl, rfl, fun _ => rfl⟩
  | .one (.note s), h, i => exact ⟨h, rfl, rfl, fun _ => rfl⟩
  | .strong ps, h, i => exact ⟨h, rfl, rfl, fun _ => rfl⟩
theorem laL_snoc {α : Type} (f : α → α) (q : List α) (x : α) : laL f (q ++ [x]) = q ++ [f x] := by
  unfold laL
  rw [List.reverse_append]
  show (f x :: q.reverse).reverse = _
  rw [List.reverse_cons, List.reverse_reverse]
theorem endsOk_of {l : List PC} (h1 : ∀ p, l.head? = some p → stP p = false) (h2 : ∀ p, l.getLast? = some p → enP p = false) : endsOk l = true := by
  cases l with
  | nil => rfl
  | cons p ps =>
    have a := h1 p rfl
    have b := h2 ((p :: ps).getLast (by simp)) (List.getLast?_eq_some_getLast _)
    have e : endsOk (p :: ps) = (!(stP p) && !(enP ((p :: ps).getLast (by simp)))) := rfl
    rw [e, a, b]
    rfl
theorem partsF_ok (n : Int) (t : Nat) : (partsF n t).length = t ∧ (∀ p ∈ partsF n t, PCOk p) ∧ Alt false ((partsF n t).map PC.isPlain) ∧ endsOk (partsF n t) = true := by
  obtain ⟨h1, h2, h3⟩ := rawF_ok n t
  unfold partsF
  generalize (goF partF kdP n t).1 = l at h1 h2 h3
  cases l with
  | nil => exact ⟨h1, (fun _ z => nomatch z), trivial, rfl⟩
  | cons a r =>
    have ha := h2 a List.mem_cons_self
    obtain ⟨l1, l2, l3, _⟩ := lsP_ok ha.1 ha.2
    have l4 := ls_st ha.1 ha.2
    show (laL rsP (lsP a :: r)).length = _ ∧ (∀ p ∈ laL rsP (lsP a :: r), _) ∧ Alt false ((laL rsP (lsP a :: r)).map PC.isPlain) ∧ endsOk (laL rsP (lsP a :: r)) = true
    have k1 : (lsP a :: r).length = t := h1
    have k2 : ∀ p ∈ lsP a :: r, PCOk p ∧ PInk p := fun p hp => by
      rcases List.mem_cons.mp hp with rfl | z
      · exact ⟨l1, l2⟩
      · exact h2 p (List.mem_cons_of_mem _ z)
    have k3 : Alt false ((lsP a :: r).map PC.isPlain) := by
      rw [List.map_cons, l3]; exact h3
    have k4 : ∀ p, (lsP a :: r).head? = some p → stP p = false := fun p hp => by
      cases hp; exact l4
    generalize lsP a :: r = l at k1 k2 k3 k4
    rcases List.eq_nil_or_concat l with rfl | ⟨q, x, rfl⟩
    · exact ⟨k1, (fun _ z => nomatch z), trivial, rfl⟩
    · rw [List.concat_eq_append] at k1 k2 k3 k4 ⊢
      rw [laL_snoc]
      have hx := k2 x (List.mem_append_right _ (List.mem_singleton.mpr rfl))
      obtain ⟨r1, r2, r3, r4⟩ := rsP_ok hx.1 hx.2
      refine ⟨by rw [List.length_append] at k1 ⊢; exact k1, fun p hp => ?_, ?_, endsOk_of (fun p hp => ?_) (fun p hp => ?_)⟩
      · rcases List.mem_append.mp hp with z | z
        · exact (k2 p (List.mem_append_left _ z)).1
        · rw [List.mem_singleton.mp z]; exact r1
      · rw [List.map_append] at k3 ⊢
        rw [List.map_cons, r2]; exact k3
      · cases q with
        | nil => cases hp; exact r4 (k4 _ rfl)
        | cons y q => exact k4 p hp
      · rw [List.getLast?_concat] at hp
        cases hp; exact r3
theorem partsF_norm (n : Int) (t : Nat) : normD (.list ((partsF n t).map dP)) = some (partsF n t) := by
  obtain ⟨_, h2, h3, h4⟩ := partsF_ok n t
  exact norm_of h2 h3 h4
end Lw

set_option Elab.async false
set_option linter.all false
set_option maxRecDepth 100000
set_option maxHeartbeats 2000000
namespace K7
open PySem L2 Lm Lw
def top (i : Nat) : Stmt := PySem.Challenge.pw_lightmark_k07_parts_refused_or_made.main.body.getD i (.Pass ⟨0, 0, 0, 0⟩)
def clsBody (s : Stmt) : List Stmt := match s with
  | .ClassDef _ _ _ b _ _ _ _ _ _ _ => b
  | _ => []
abbrev meth (i j : Nat) : Stmt := (clsBody (top i)).getD j (.Pass ⟨0, 0, 0, 0⟩)
theorem s_join {f u : TS} {D : Ends} {σ : St} {H : Hp} (J : St → Hp → Prop) (h : ∀ N : St → Hp → Prop, (∀ σ' H', J σ' H' → N σ' H') → f { D with nx := N } σ H) (k : ∀ σ' H', J σ' H' → u D σ' H') : tSeq f u D σ H := h (u D) k
structure TxP (K : PySem.W.Frag) (mg : Str → Option Value) (c : Cp) (BT : Addr) : Prop where
  n_list : mg "list" = none
  n_len : mg "len" = none
  n_isinstance : mg "isinstance" = none
  n_all : mg "all" = none
  n_str : mg "str" = none
  n_tuple : mg "tuple" = none
  g_NAME_SIGNS : ∃ t, mg "NAME_SIGNS" = some (.str (S nameSigns) t)
  g_LONGEST_NAME : ∃ t, mg "LONGEST_NAME" = some (.int 12 t)
  c_BadTree : mg "BadTree" = some (.ref BT)
  x_BadTree : OwnX K BT
  c_Plain : mg "Plain" = some (.ref c.Plain)
  o_Plain : Inst K c.Plain
  o_Code : Inst K c.Code
  o_Strong : Inst K c.Strong
  o_Link : Inst K c.Link
  o_Mark : Inst K c.Mark
  a_Plain : NoAttr K c.Plain "signs"
  a_Code : NoAttr K c.Code "signs"
  a_Strong : NoAttr K c.Strong "parts"
  a_Linkw : NoAttr K c.Link "words"
  a_Linkn : NoAttr K c.Link "name"
  a_Mark : NoAttr K c.Mark "name"
  i_Plain : PySem.W.kitOne K (.ref c.Plain) (.ref c.Plain) = some true
  i_Code : PySem.W.kitOne K (.ref c.Code) (.ref c.Plain) = some false
  i_Strong : PySem.W.kitOne K (.ref c.Strong) (.ref c.Plain) = some false
  i_Link : PySem.W.kitOne K (.ref c.Link) (.ref c.Plain) = some false
  i_Mark : PySem.W.kitOne K (.ref c.Mark) (.ref c.Plain) = some false
theorem TxP.isPlain {K : PySem.W.Frag} {mg : Str → Option Value} {c : Cp} {BT : Addr} (T : TxP K mg c BT) {H : Hp} {a : Addr} : ∀ {p : PC}, PCAt c H a p → ∃ t, TyOf K H (.ref a) t ∧ PySem.W.kitOne K t (.ref c.Plain) = some p.isPlain
  | .one (.plain _), ⟨_, _, e⟩ => ⟨_, T.o_Plain.ty e, T.i_Plain⟩
  | .one (.code _), ⟨_, _, e⟩ => ⟨_, T.o_Code.ty e, T.i_Code⟩
  | .one (.link _ _), ⟨_, _, _, e⟩ => ⟨_, T.o_Link.ty e, T.i_Link⟩
  | .one (.note _), ⟨_, _, e⟩ => ⟨_, T.o_Mark.ty e, T.i_Mark⟩
  | .strong _, ⟨_, _, _, e, _⟩ => ⟨_, T.o_Strong.ty e, T.i_Strong⟩
section
variable {P : Program} {w : World} {K : PySem.W.Frag} {mg : Str → Option Value} {base : Heap} {c : Cp} {BT : Addr}
/-! the classes -/
def spInit1 (C : Addr) (fl : Str) : Sp := fun vs H Q _ => ∃ x dx v, vs = [.ref x, v] ∧ H x = some (.ins C dx []) ∧ Q .non (upd H x (.ins C dx [(fl, v)]))
def spInit2 (C : Addr) (fl gl : Str) : Sp := fun vs H Q _ => ∃ x dx v u, vs = [.ref x, v, u] ∧ H x = some (.ins C dx []) ∧ Q .non (upd (upd H x (.ins C dx [(fl, v)])) x (.ins C dx [(fl, v), (gl, u)]))
def spInitS (C : Addr) : Sp := fun vs H Q _ => ∃ x dx l xs, vs = [.ref x, .ref l] ∧ H x = some (.ins C dx []) ∧ H l = some (.lst xs) ∧ ∀ p, H p = none → Q .non (upd (upd H p (.lst xs)) x (.ins C dx [("parts", .ref p)]))
abbrev sPlainInit : Stmt := meth 10 0
abbrev sCodeInit : Stmt := meth 11 0
abbrev sStrongInit : Stmt := meth 12 0
abbrev sLinkInit : Stmt := meth 13 0
abbrev sMarkInit : Stmt := meth 14 0
abbrev sPlainTold : Stmt := meth 10 1
abbrev sCodeTold : Stmt := meth 11 1
abbrev sStrongTold : Stmt := meth 12 1
abbrev sLinkTold : Stmt := meth 13 1
abbrev sMarkTold : Stmt := meth 14 1
theorem scPlainInit : FnScope ["self", "signs"] ["self", "signs"] (defScope sPlainInit) := ⟨rfl, rfl, rfl, by decide +kernel, rfl, by decide +kernel, by decide +kernel⟩
theorem scCodeInit : FnScope ["self", "signs"] ["self", "signs"] (defScope sCodeInit) := ⟨rfl, rfl, rfl, by decide +kernel, rfl, by decide +kernel, by decide +kernel⟩
theorem scStrongInit : FnScope ["self", "parts"] ["self", "parts"] (defScope sStrongInit) := ⟨rfl, rfl, rfl, by decide +kernel, rfl, by decide +kernel, by decide +kernel⟩
theorem scLinkInit : FnScope ["self", "words", "name"] ["self", "words", "name"] (defScope sLinkInit) := ⟨rfl, rfl, rfl, by decide +kernel, rfl, by decide +kernel, by decide +kernel⟩
theorem scMarkInit : FnScope ["self", "name"] ["self", "name"] (defScope sMarkInit) := ⟨rfl, rfl, rfl, by decide +kernel, rfl, by decide +kernel, by decide +kernel⟩
theorem scPlainTold : FnScope ["self"] ["self"] (defScope sPlainTold) := ⟨rfl, rfl, rfl, by decide +kernel, rfl, by decide +kernel, by decide +kernel⟩
theorem scCodeTold : FnScope ["self"] ["self"] (defScope sCodeTold) := ⟨rfl, rfl, rfl, by decide +kernel, rfl, by decide +kernel, by decide +kernel⟩
theorem scStrongTold : FnScope ["self"] ["self"] (defScope sStrongTold) := ⟨rfl, rfl, rfl, by decide +kernel, rfl, by decide +kernel, by decide +kernel⟩
theorem scLinkTold : FnScope ["self"] ["self"] (defScope sLinkTold) := ⟨rfl, rfl, rfl, by decide +kernel, rfl, by decide +kernel, by decide +kernel⟩
theorem scMarkTold : FnScope ["self"] ["self"] (defScope sMarkTold) := ⟨rfl, rfl, rfl, by decide +kernel, rfl, by decide +kernel, by decide +kernel⟩
theorem ok_PlainInit {f : Addr} {fd : FuncData} (F : Fun K "__init__" "Plain.__init__" sPlainInit f fd) (T : TxP K mg c BT) : FnOk P w K mg base CX0 1 f fd ["self", "signs"] (spInit1 c.Plain "signs") := by
  have sc := scPlainInit
  refine F.ok sc (fun vs H Q E h => ?_) (fun cdv A outer s H vs Q E hr h => ?_)
  · obtain ⟨x, dx, v, rfl, _⟩ := h
    rfl
  obtain ⟨x, dx, v, rfl, e, q⟩ := h
  refine of_XB (xb1 (xsetfld (xv 0) (xv 1))) ?_
  exact ⟨_, rfl, _, rfl, x, _, dx, _, rfl, e, T.o_Plain.cls, T.a_Plain, by decide, q⟩
theorem ok_CodeInit {f : Addr} {fd : FuncData} (F : Fun K "__init__" "Code.__init__" sCodeInit f fd) (T : TxP K mg c BT) : FnOk P w K mg base CX0 1 f fd ["self", "signs"] (spInit1 c.Code "signs") := by
  have sc := scCodeInit
  refine F.ok sc (fun vs H Q E h => ?_) (fun cdv A outer s H vs Q E hr h => ?_)
  · obtain ⟨x, dx, v, rfl, _⟩ := h
    rfl
  obtain ⟨x, dx, v, rfl, e, q⟩ := h
  refine of_XB (xb1 (xsetfld (xv 0) (xv 1))) ?_
  exact ⟨_, rfl, _, rfl, x, _, dx, _, rfl, e, T.o_Code.cls, T.a_Code, by decide, q⟩
theorem ok_MarkInit {f : Addr} {fd : FuncData} (F : Fun K "__init__" "Mark.__init__" sMarkInit f fd) (T : TxP K mg c BT) : FnOk P w K mg base CX0 1 f fd ["self", "name"] (spInit1 c.Mark "name") := by
  have sc := scMarkInit
  refine F.ok sc (fun vs H Q E h => ?_) (fun cdv A outer s H vs Q E hr h => ?_)
  · obtain ⟨x, dx, v, rfl, _⟩ := h
    rfl
  obtain ⟨x, dx, v, rfl, e, q⟩ := h
  refine of_XB (xb1 (xsetfld (xv 0) (xv 1))) ?_
  exact ⟨_, rfl, _, rfl, x, _, dx, _, rfl, e, T.o_Mark.cls, T.a_Mark, by decide, q⟩
theorem ok_LinkInit {f : Addr} {fd : FuncData} (F : Fun K "__init__" "Link.__init__" sLinkInit f fd) (T : TxP K mg c BT) : FnOk P w K mg base CX0 1 f fd ["self", "words", "name"] (spInit2 c.Link "words" "name") := by
  have sc := scLinkInit
  refine F.ok sc (fun vs H Q E h => ?_) (fun cdv A outer s H vs Q E hr h => ?_)
  · obtain ⟨x, dx, v, u, rfl, _⟩ := h
    rfl
  obtain ⟨x, dx, v, u, rfl, e, q⟩ := h
  refine of_XB (xbc (xsetfld (xv 0) (xv 1))
    (xb1 (xsetfld (xv 0) (xv 2)))) ?_
  refine ⟨_, rfl, _, rfl, x, _, dx, _, rfl, e, T.o_Link.cls, T.a_Linkw, by decide, ?_⟩
  exact ⟨_, rfl, _, rfl, x, _, dx, _, rfl, upd_same, T.o_Link.cls, T.a_Linkn, by show 1 < 1000; decide, q⟩
theorem ok_StrongInit {f : Addr} {fd : FuncData} (F : Fun K "__init__" "Strong.__init__" sStrongInit f fd) (T : TxP K mg c BT) : FnOk P w K mg base CX0 1 f fd ["self", "parts"] (spInitS c.Strong) := by
  have sc := scStrongInit
  refine F.ok sc (fun vs H Q E h => ?_) (fun cdv A outer s H vs Q E hr h => ?_)
  · obtain ⟨x, dx, l, xs, rfl, _⟩ := h
    rfl
  obtain ⟨x, dx, l, xs, rfl, e, el, q⟩ := h
  refine of_XB (xb1 (xsetfld (xv 0) (xcTy call_list_of T.n_list rfl (xac (xv 1) xa0)))) ?_
  exact ⟨_, rfl, l, _, rfl, .inl (SqL.of el), fun p hp => ⟨_, rfl, x, _, dx, _, rfl, same_new hp _ _ _ e, T.o_Strong.cls, T.a_Strong, by decide, q p hp⟩⟩
/-! told -/
def R1 (p : PC) : Prop := one? p ≠ none
theorem ok_PlainTold {f : Addr} {fd : FuncData} (F : Fun K "told" "Plain.told" sPlainTold f fd) (T : TxP K mg c BT) : FnOk P w K mg base CX0 1 f fd ["self"] (spTold c fun p => ∃ s, p = .one (.plain s)) := by
  have sc := scPlainTold
  refine F.ok sc (fun vs H Q E h => ?_) (fun cdv A outer s H vs Q E hr h => ?_)
  · obtain ⟨a, p, rfl, _⟩ := h
    rfl
  obtain ⟨a, p, rfl, ha, ⟨s, rfl⟩, q⟩ := h
  obtain ⟨g, dx, e⟩ := ha
  refine of_XB (xb1 (xret (xtup (xac xstr (xac (xfld (xv 0)) xa0))))) ?_
  exact ⟨_, rfl, a, _, dx, _, _, rfl, e, T.o_Plain.cls, T.a_Plain, rfl, big (show (2 : Nat) ≤ 1000000 by decide), fun p hp => q _ _ (same_new hp _) (.tup (by rw [dif_at hp, upd_same]) (.cons (.str _ (by decide +kernel) (by decide +kernel)) (.cons g.dn .nil)))⟩
theorem ok_CodeTold {f : Addr} {fd : FuncData} (F : Fun K "told" "Code.told" sCodeTold f fd) (T : TxP K mg c BT) : FnOk P w K mg base CX0 1 f fd ["self"] (spTold c fun p => ∃ s, p = .one (.code s)) := by
  have sc := scCodeTold
  refine F.ok sc (fun vs H Q E h => ?_) (fun cdv A outer s H vs Q E hr h => ?_)
  · obtain ⟨a, p, rfl, _⟩ := h
    rfl
  obtain ⟨a, p, rfl, ha, ⟨s, rfl⟩, q⟩ := h
  obtain ⟨g, dx, e⟩ := ha
  refine of_XB (xb1 (xret (xtup (xac xstr (xac (xfld (xv 0)) xa0))))) ?_
  exact ⟨_, rfl, a, _, dx, _, _, rfl, e, T.o_Code.cls, T.a_Code, rfl, big (show (2 : Nat) ≤ 1000000 by decide), fun p hp => q _ _ (same_new hp _) (.tup (by rw [dif_at hp, upd_same]) (.cons (.str _ (by decide +kernel) (by decide +kernel)) (.cons g.dn .nil)))⟩
theorem ok_MarkTold {f : Addr} {fd : FuncData} (F : Fun K "told" "Mark.told" sMarkTold f fd) (T : TxP K mg c BT) : FnOk P w K mg base CX0 1 f fd ["self"] (spTold c fun p => ∃ s, p = .one (.note s)) := by
  have sc := scMarkTold
  refine F.ok sc (fun vs H Q E h => ?_) (fun cdv A outer s H vs Q E hr h => ?_)
  · obtain ⟨a, p, rfl, _⟩ := h
    rfl
  obtain ⟨a, p, rfl, ha, ⟨s, rfl⟩, q⟩ := h
  obtain ⟨g, dx, e⟩ := ha
  refine of_XB (xb1 (xret (xtup (xac xstr (xac (xfld (xv 0)) xa0))))) ?_
  exact ⟨_, rfl, a, _, dx, _, _, rfl, e, T.o_Mark.cls, T.a_Mark, rfl, big (show (2 : Nat) ≤ 1000000 by decide), fun p hp => q _ _ (same_new hp _) (.tup (by rw [dif_at hp, upd_same]) (.cons (.str _ (by decide +kernel) (by decide +kernel)) (.cons g.dn .nil)))⟩
theorem ok_LinkTold {f : Addr} {fd : FuncData} (F : Fun K "told" "Link.told" sLinkTold f fd) (T : TxP K mg c BT) : FnOk P w K mg base CX0 1 f fd ["self"] (spTold c fun p => ∃ s n, p = .one (.link s n)) := by
  have sc := scLinkTold
  refine F.ok sc (fun vs H Q E h => ?_) (fun cdv A outer s H vs Q E hr h => ?_)
  · obtain ⟨a, p, rfl, _⟩ := h
    rfl
  obtain ⟨a, p, rfl, ha, ⟨s, n, rfl⟩, q⟩ := h
  obtain ⟨g, g2, dx, e⟩ := ha
  refine of_XB (xb1 (xret (xtup (xac xstr (xac (xfld (xv 0)) (xac (xfld (xv 0)) xa0)))))) ?_
  exact ⟨_, rfl, a, _, dx, _, _, rfl, e, T.o_Link.cls, T.a_Linkw, rfl, _, rfl, a, _, dx, _, _, rfl, e, T.o_Link.cls, T.a_Linkn, rfl, big (show (3 : Nat) ≤ 1000000 by decide), fun p hp => q _ _ (same_new hp _) (.tup (by rw [dif_at hp, upd_same]) (.cons (.str _ (by decide +kernel) (by decide +kernel)) (.cons g.dn (.cons g2.dn .nil))))⟩
abbrev sTolds : Stmt := top 15
theorem scTolds : FnScope ["parts"] ["parts"] (defScope sTolds) := ⟨rfl, rfl, rfl, by decide +kernel, rfl, by decide +kernel, by decide +kernel⟩
theorem range_getD (ps : List PC) : (List.range ps.length).map (fun i => dP (ps.getD i (.one (.note "")))) = ps.map dP := by
  apply List.ext_getElem?
  intro i
  rw [List.getElem?_map, List.getElem?_map]
  by_cases hi : i < ps.length
  · rw [List.getElem?_range hi, List.getElem?_eq_getElem hi]
    simp only [Option.map_some, List.getD_eq_getElem?_getD, List.getElem?_eq_getElem hi, Option.getD_some]
  · rw [List.getElem?_eq_none (by rw [List.length_range]; omega), List.getElem?_eq_none (by omega)]
    rfl
theorem ok_tolds {f : Addr} {fd : FuncData} {k : Nat} {R : PC → Prop} (F : Fun K "told_parts" "told_parts" sTolds f fd) (hM : ToldV P w K mg base k c R) : FnOk P w K mg base CX0 (k + 1) f fd ["parts"] (spTolds c R) := by
  have sc := scTolds
  refine F.ok sc (fun vs H Q E h => ?_) (fun cdv A outer s H vs Q E hr h => ?_)
  · obtain ⟨l, as, ps, rfl, _⟩ := h
    rfl
  obtain ⟨l, as, ps, rfl, el, hps, hR, hl, q⟩ := h
  refine of_XB (xb1 (xret (xlc (cl := []) (own := ["part"]) (fr := []) (N' := ["part"]) rfl (compN (xs := []) trivial trivial (by decide +kernel)) (by decide +kernel) (by decide +kernel) (by with_unfolding_all rfl)
    (xil (xv 0))
    (fun _ _ _ _ => xgn (i := 0) (show (["part"] : List Str).Nodup by decide +kernel) rfl (Or.inl rfl)) (fun _ _ _ _ => xq0) (fun _ _ _ _ => (xmV0C (k := k) (xv 0) (hr.mono (by omega))))))) ?_
  refine ⟨_, rfl, l, rfl, ⟨_, SqL.of el⟩, ?_⟩
  have hlen := hps.len
  refine lc_newD (fun i => dP (ps.getD i (.one (.note "")))) (SqL.of el) (by rw [List.length_map]; exact hl) ?_ ?_
  · intro i x hx H2 s2 C N hC
    rw [List.getElem?_map] at hx
    cases hai : as[i]? with
    | none => rw [hai] at hx; cases hx
    | some a =>
    rw [hai] at hx
    cases hx
    obtain ⟨p, hp1, hp2⟩ := hps.get hai
    obtain ⟨Cc, dx, fs, sp, e1, e2, V, hsp⟩ := hM p (hR p (List.mem_of_getElem? hp1)) H2 a (hp2.same s2)
    refine ⟨(nfLe.refl _ _ _).set (by decide) _, iteT (B := N H2) ⟨_, rfl, a, Cc, dx, fs, _, sp, rfl, e1, e2, V, hsp _ _ fun v H4 s4 d4 => hC v H4 s4 ?_⟩⟩
    rw [List.getD_eq_getElem?_getD, hp1]
    exact d4
  · intro D H2 hD s2 dD
    refine q D H2 s2 ?_
    rw [List.length_map, hlen, range_getD] at dD
    exact dD
theorem ok_StrongTold {f : Addr} {fd : FuncData} {k : Nat} (F : Fun K "told" "Strong.told" sStrongTold f fd) (T : TxP K mg c BT) (D_told_parts : Def P w K mg base k "told_parts" ["parts"] (spTolds c R1)) : FnOk P w K mg base CX0 (k + 1) f fd ["self"] (spTold c fun p => ∃ ps, p = .strong ps ∧ ps.length ≤ 100000) := by
  have sc := scStrongTold
  refine F.ok sc (fun vs H Q E h => ?_) (fun cdv A outer s H vs Q E hr h => ?_)
  · obtain ⟨a, p, rfl, _⟩ := h
    rfl
  obtain ⟨a, p, rfl, ha, ⟨ps, rfl, hpl⟩, q⟩ := h
  obtain ⟨dx, l, as, e, el, hps⟩ := ha
  refine of_XB (xb1 (xret (xtup (xac xstr (xac (xcD D_told_parts (hr.mono (by omega)) (xac (xfld (xv 0)) xa0)) xa0))))) ?_
  refine ⟨_, rfl, a, _, dx, _, _, rfl, e, T.o_Strong.cls, T.a_Strong, rfl, l, as, ps.map .one, rfl, el, hps.toC, fun p hp => ?_, by rw [hps.len]; exact hpl, fun r H1 s1 d1' => ⟨big (show (2 : Nat) ≤ 1000000 by decide), fun t ht => q _ _ (s1.trans (same_new ht _)) ?_⟩⟩
  · obtain ⟨x, _, rfl⟩ := List.mem_map.mp hp
    unfold R1
    simp [one?]
  · refine .tup (by rw [dif_at (s1.free ht), upd_same]) (.cons (.str _ (by decide +kernel) (by decide +kernel)) (.cons ?_ .nil))
    have := d1'.same (dif_grow (Same.refl H) (same_new ht (.tup [V.str "strong", .ref r])))
    rw [List.map_map] at this
    exact this
/-! need -/
abbrev sNeedSigns : Stmt := top 26
theorem scNeedSigns : FnScope ["thing"] ["thing"] (defScope sNeedSigns) := ⟨rfl, rfl, rfl, by decide +kernel, rfl, by decide +kernel, by decide +kernel⟩
theorem ok_needSigns {f : Addr} {fd : FuncData} (F : Fun K "need_signs" "need_signs" sNeedSigns f fd) (T : TxP K mg c BT) : FnOk P w K mg base (CXr P w) 1 f fd ["thing"] (spStr BT sgD) := by
  have sc := scNeedSigns
  refine F.okR sc (fun vs H Q E h => ?_) (fun cdv A outer s H vs Q E hr h => ?_)
  · obtain ⟨v, d, rfl, _⟩ := h
    rfl
  obtain ⟨v, d, rfl, hd, q, qe⟩ := h
  refine of_XB (xbc (xif (xor (xnotT (xvalT (xcB call_isT T.n_isinstance rfl (xac (xv 0) (xac (xty (T := "str") T.n_str rfl) xa0))))) (xor1 (xcmpT op_eq (xv 0) xstr (nomark _)))).xt (xb1 (xraise T.x_BadTree T.c_BadTree rfl raises_cx (xac xstr xa0))) xb0)
    (xbc (xif (xor (xcmpT op_in_str xstr (xv 0) (by with_unfolding_all rfl)) (xor (xcmpT op_in_str xstr (xv 0) (by with_unfolding_all rfl)) (xor1 (xcmpT op_in_str xstr (xv 0) (by with_unfolding_all rfl))))).xt (xb1 (xraise T.x_BadTree T.c_BadTree rfl raises_cx (xac xstr xa0))) xb0)
    (xb1 (xret (xv 0))))) ?_
  have hk := (kit_D K d).1
  rcases Dn.strCase hd with ⟨x, rfl, rfl, g⟩ | ⟨h1, h2⟩
  · have hk' : PySem.W.kitOne K (.type (tyD (.str x))) (.type "str") = some true := hk
    by_cases c1 : x = ("" : Str)
    · refine s_yes (t_or false true (t_not true (t_isT (ev_v rfl) hd hk')) (fun _ H1 s1 => ?_)) fun H1 s1 => ⟨big (show (1 : Nat) ≤ 1000000 by decide), qe ?_ H1 s1⟩
      · have := t_eqS (σ := start ["thing"] [V.str x]) (H := H1) (x := x) (y := "") (ev_v (k := 0) rfl) ev_c
        rw [decide_eq_true c1] at this
        exact this
      · show (if okSg x then some x else none) = none
        rw [if_neg]
        unfold okSg
        rw [decide_eq_true c1]
        simp
    · refine s_no1 (t_or false false (t_not true (t_isT (ev_v rfl) hd hk')) (fun _ H1 s1 => ?_)) fun H1 s1 => ?_
      · have := t_eqS (σ := start ["thing"] [V.str x]) (H := H1) (x := x) (y := "") (ev_v (k := 0) rfl) ev_c
        rw [decide_eq_false c1] at this
        exact this
      have hT : Tells _ (start ["thing"] [V.str x]) H1 (hasS "  " x || (hasS "\t" x || hasS "\n" x)) := t_or _ _ (t_hasS (ev_v (k := 0) rfl)) fun _ _ _ => t_or _ _ (t_hasS (ev_v (k := 0) rfl)) fun _ _ _ => t_hasS (ev_v (k := 0) rfl)
      by_cases c2 : (hasS "  " x || (hasS "\t" x || hasS "\n" x)) = true
      · rw [c2] at hT
        refine s_yes hT fun H2 s2 => ⟨big (show (1 : Nat) ≤ 1000000 by decide), qe ?_ H2 (s1.trans s2)⟩
        show (if okSg x then some x else none) = none
        rw [if_neg]
        unfold okSg
        rw [c2]
        simp
      · have c2 := Bool.eq_false_iff.mpr c2
        rw [c2] at hT
        refine s_no1 hT fun H2 s2 => ⟨_, rfl, q x ?_ g rfl H2 (s1.trans s2)⟩
        show (if okSg x then some x else none) = some x
        rw [if_pos]
        unfold okSg
        rw [c2, decide_eq_false c1]
        rfl
  · rw [h1] at hk
    refine s_yes (t_or true false (t_not false (t_isT (ev_v rfl) hd hk)) (fun z => Bool.noConfusion z)) fun H1 s1 => ⟨big (show (1 : Nat) ≤ 1000000 by decide), qe ?_ H1 s1⟩
    cases d <;> first | rfl | exact absurd rfl (h2 _)
end
end K7

set_option Elab.async false
set_option linter.all false
set_option maxRecDepth 100000
set_option maxHeartbeats 2000000
namespace K7
open PySem L2 Lm Lw
section
variable {P : Program} {w : World} {K : PySem.W.Frag} {mg : Str → Option Value} {base : Heap} {c : Cp} {BT : Addr}
abbrev sName : Stmt := top 19
theorem scName : FnScope ["thing"] ["thing"] (defScope sName) := ⟨rfl, rfl, rfl, by decide +kernel, rfl, by decide +kernel, by decide +kernel⟩
theorem ok_nameD {f : Addr} {fd : FuncData} (F : Fun K "is_name" "is_name" sName f fd) (T : TxP K mg c BT) : FnOk P w K mg base CX0 1 f fd ["thing"] spNameD := by
  have sc := scName
  refine F.ok sc (fun vs H Q E h => ?_) (fun cdv A outer s H vs Q E hr h => ?_)
  · obtain ⟨v, d, rfl, _⟩ := h
    rfl
  obtain ⟨v, d, rfl, hd, q⟩ := h
  refine of_XB (xbc (xif (xnotT (xvalT (xcB call_isT T.n_isinstance rfl (xac (xv 0) (xac (xty (T := "str") T.n_str rfl) xa0))))) (xb1 (xret xbl)) xb0)
    (xbc (xif (xor (xcmpT op_lt (xcB call_len_str T.n_len PySem.boot_len (xac (xv 0) xa0)) xint (nomark _)) (xor1 (xcmpT op_gt (xcB call_len_str T.n_len PySem.boot_len (xac (xv 0) xa0)) (xgI T.g_LONGEST_NAME) (nomark _)))).xt (xb1 (xret xbl)) xb0)
    (xb1 (xret (xcB (call_all rfl) T.n_all rfl (xac (xlc (cl := []) (own := ["sign"]) (fr := []) (N' := ["sign"]) rfl (compN (xs := []) trivial trivial (by decide +kernel)) (by decide +kernel) (by decide +kernel) (by with_unfolding_all rfl)
    (xis (xv 0))
    (fun _ _ _ _ => xgn (i := 0) (show (["sign"] : List Str).Nodup by decide +kernel) rfl (Or.inl rfl)) (fun _ _ _ _ => xq0) (fun _ _ _ _ => (xcmp op_in_str (xv 0) (xgS T.g_NAME_SIGNS) (by with_unfolding_all rfl)))) xa0)))))) ?_
  have hk := (kit_D K d).1
  rcases Dn.strCase hd with ⟨x, rfl, rfl, g⟩ | ⟨h1, h2⟩
  rotate_left
  · rw [h1] at hk
    refine s_yes (t_not false (t_isT (ev_v rfl) hd hk)) fun H1 s1 => ?_
    have : (isNmD d) = false := by cases d <;> first | rfl | exact absurd rfl (h2 _)
    rw [this] at q
    exact q H1 s1
  obtain ⟨l, hl0⟩ : ∃ l : List Nat, x = S l := ⟨x.cps.toList, (S_of x).symm⟩
  subst hl0
  have hl : l.length ≤ 1000000 := by have := g.2; rw [S_len] at this; omega
  have q : ∀ H', Same H H' → Q (.bl (isNameC l)) H' := fun H' s' => by have := q H' s'; rw [isNm_S] at this; exact this
  refine ⟨_, rfl, _, _, _, true, rfl, .str _, kit_same _ _, _, rfl, ?_⟩
  refine ite2 (fun c => absurd c (by decide)) (fun _ => ?_)
  refine ⟨_, rfl, _, rfl, bigS hl, _, _, rfl, rfl, _, rfl, ?_⟩
  refine ite2 (fun c => ?_) (fun c => ?_)
  · refine ite2 (fun _ => ?_) (fun c => absurd rfl c)
    have e : isNameC l = false := by
      have := of_decide_eq_true c
      rw [S_len] at this
      unfold isNameC
      rw [decide_eq_false (show ¬ 1 ≤ l.length by omega)]; rfl
    rw [e] at q
    exact q H (Same.refl H)
  refine ⟨_, rfl, _, rfl, bigS hl, _, _, rfl, rfl, _, rfl, ?_⟩
  have h1 : 1 ≤ l.length := by
    have := of_decide_eq_false (Bool.eq_false_iff.mpr c)
    rw [S_len] at this
    omega
  refine ite2 (fun d => ?_) (fun d => ?_)
  · have e : isNameC l = false := by
      have := of_decide_eq_true d
      rw [S_len] at this
      unfold isNameC
      rw [decide_eq_false (show ¬ l.length ≤ 12 by omega), Bool.and_false]; rfl
    rw [e] at q
    exact q H (Same.refl H)
  have h2 : l.length ≤ 12 := by
    have := of_decide_eq_false (Bool.eq_false_iff.mpr d)
    rw [S_len] at this
    omega
  refine ⟨_, rfl, _, rfl, ?_⟩
  refine lc_str (fun _ => true) inNames (bigS hl) ?_ ?_
  · intro c hc H' sm C N hC hN
    refine ⟨(nfLe.refl _ _ _).set (by decide) _, ?_⟩
    refine ⟨_, rfl, _, _, rfl, rfl, ?_⟩
    have := hC H' (Same.refl H') rfl
    have e : inNames (.str ⟨#[c]⟩) = .bl (!(Builtin.Str.occurrences (S nameSigns) (S [c]) 0 (S nameSigns).length 1).isEmpty) := by
      rw [contains_S]
      show V.bl ([c].all nameSigns.contains) = _
      simp
    rw [e] at this
    exact this
  intro D H' hD sm eD
  refine ⟨D, l.map nameSigns.contains, rfl, SqL.of ?_, ?_⟩
  · rw [eD, S_list, List.filter_eq_self.mpr (fun _ _ => rfl), List.map_map, List.map_map]
    congr 2
    refine List.map_congr_left fun c _ => ?_
    show V.bl ([c].all nameSigns.contains) = _
    simp
  · have e : isNameC l = (l.map nameSigns.contains).all id := by
      unfold isNameC
      rw [decide_eq_true h1, decide_eq_true h2, List.all_map]
      simp
    rw [← e]
    exact q H' sm
abbrev sNameOf : Stmt := top 20
theorem scNameOf : FnScope ["thing"] ["thing"] (defScope sNameOf) := ⟨rfl, rfl, rfl, by decide +kernel, rfl, by decide +kernel, by decide +kernel⟩
theorem ok_nameOf {f : Addr} {fd : FuncData} (F : Fun K "name_of" "name_of" sNameOf f fd) (T : TxP K mg c BT) (D_is_name : Def P w K mg base 1 "is_name" ["thing"] spNameD) : FnOk P w K mg base CX0 2 f fd ["thing"] spNameOf := by
  have sc := scNameOf
  refine F.ok sc (fun vs H Q E h => ?_) (fun cdv A outer s H vs Q E hr h => ?_)
  · obtain ⟨l, rfl, _⟩ := h
    rfl
  obtain ⟨l, rfl, hl, hn, q⟩ := h
  have hl12 : l.length ≤ 12 := by unfold isNameC at hn; rw [Bool.and_eq_true, Bool.and_eq_true] at hn; exact of_decide_eq_true hn.1.2
  refine of_XB (xbc (xif (xnotT (xvalT (xcD D_is_name (hr.mono (by omega)) (xac (xv 0) xa0)))) (xb1 xnever) xb0)
    (xb1 (xret (xm0 PySem.F.plainAttrs_str PySem.F.slot_str_lower PySem.F.type_str_lower mt_lower (xv 0))))) ?_
  refine ⟨_, rfl, vS l, .str (S l), rfl, .str _ (strOk_S (name_asc hn)) (by rw [S_len]; omega), fun H' sm => ⟨_, rfl, ?_⟩⟩
  rw [isNm_S]
  refine ite2 (fun c => by rw [hn] at c; cases c) (fun _ => ?_)
  refine ⟨_, rfl, rfl, _, rfl, rfl, by rw [S_len]; exact hl, ?_⟩
  rw [lower_S l (name_asc hn)]
  exact q H' sm
abbrev sNeedCode : Stmt := top 27
theorem scNeedCode : FnScope ["thing", "signs"] ["thing"] (defScope sNeedCode) := ⟨rfl, rfl, rfl, by decide +kernel, rfl, by decide +kernel, by decide +kernel⟩
theorem ok_needCode {f : Addr} {fd : FuncData} (F : Fun K "need_code" "need_code" sNeedCode f fd) (T : TxP K mg c BT) (D_need_signs : DefR P w K mg base 1 "need_signs" ["thing"] (spStr BT sgD)) : FnOk P w K mg base (CXr P w) 2 f fd ["thing"] (spStr BT cdD) := by
  have sc := scNeedCode
  refine F.okR sc (fun vs H Q E h => ?_) (fun cdv A outer s H vs Q E hr h => ?_)
  · obtain ⟨v, d, rfl, _⟩ := h
    rfl
  obtain ⟨v, d, rfl, hd, q, qe⟩ := h
  refine of_XB (xbc (xset (i := 1) sc.nd rfl (Or.inl rfl) (xcP D_need_signs (hr.mono (by omega)) (xac (xv 0) xa0)))
    (xbc (xif (xcmpT op_in_str xstr (xv 1) (by with_unfolding_all rfl)) (xb1 (xraise T.x_BadTree T.c_BadTree rfl raises_cx (xac xstr xa0))) xb0)
    (xb1 (xret (xv 1))))) ?_
  rw [show start ["thing", "signs"] [v] = [some v, none] from rfl]
  refine ⟨_, rfl, v, d, rfl, hd, fun x hx g hv H1 s1 => ?_, fun hn H1 s1 => qe ?_ H1 s1⟩
  · dsimp only [gName, List.set_cons_succ, List.set_cons_zero]
    have hde := sgD_eq hx
    subst hde hv
    have hok : okSg x = true := by
      have hx : (if okSg x = true then some x else none) = some x := hx
      by_cases z : okSg x = true
      · exact z
      · rw [if_neg z] at hx; cases hx
    by_cases c1 : hasS "`" x = true
    · refine s_yes ((t_hasS (ev_v (k := 1) rfl)).eq c1) fun H2 s2 => ⟨big (show (1 : Nat) ≤ 1000000 by decide), qe ?_ H2 (s1.trans s2)⟩
      show (if okCd x then some x else none) = none
      rw [if_neg]
      unfold okCd
      rw [c1]
      simp
    · have c1 := Bool.eq_false_iff.mpr c1
      refine s_no1 ((t_hasS (ev_v (k := 1) rfl)).eq c1) fun H2 s2 => ⟨_, rfl, q x ?_ g rfl H2 (s1.trans s2)⟩
      show (if okCd x then some x else none) = some x
      rw [if_pos]
      unfold okCd
      rw [c1, hok]
      rfl
  · cases d with
    | str x =>
      show (if okCd x then some x else none) = none
      rw [if_neg]
      intro z
      unfold okCd at z
      rw [Bool.and_eq_true] at z
      have hn : (if okSg x = true then some x else none) = none := hn
      rw [if_pos z.1] at hn
      cases hn
    | _ => rfl
abbrev sNeedName : Stmt := top 28
theorem scNeedName : FnScope ["thing"] ["thing"] (defScope sNeedName) := ⟨rfl, rfl, rfl, by decide +kernel, rfl, by decide +kernel, by decide +kernel⟩
theorem ok_needName {f : Addr} {fd : FuncData} (F : Fun K "need_small_name" "need_small_name" sNeedName f fd) (T : TxP K mg c BT) (D_is_name : Def P w K mg base 1 "is_name" ["thing"] spNameD) (D_name_of : Def P w K mg base 2 "name_of" ["thing"] spNameOf) : FnOk P w K mg base (CXr P w) 3 f fd ["thing"] (spStr BT nmD) := by
  have sc := scNeedName
  refine F.okR sc (fun vs H Q E h => ?_) (fun cdv A outer s H vs Q E hr h => ?_)
  · obtain ⟨v, d, rfl, _⟩ := h
    rfl
  obtain ⟨v, d, rfl, hd, q, qe⟩ := h
  refine of_XB (xbc (xif (xor (xnotT (xvalT (xcD D_is_name (hr.mono (by omega)) (xac (xv 0) xa0)))) (xor1 (xcmpT op_ne (xv 0) (xcD D_name_of (hr.mono (by omega)) (xac (xv 0) xa0)) (nomark _)))).xt (xb1 (xraise T.x_BadTree T.c_BadTree rfl raises_cx (xac xstr xa0))) xb0)
    (xb1 (xret (xv 0)))) ?_
  have evN : Tells (tB (tCall spNameD [] E0 (tCons (tVar 0) tNil))) (start ["thing"] [v]) H (isNmD d) := fun R k => ⟨_, rfl, v, d, rfl, hd, fun H' s' => ⟨_, rfl, k _ s'⟩⟩
  by_cases c1 : (isNmD d) = true
  · rcases Dn.strCase hd with ⟨x, rfl, rfl, g⟩ | ⟨h1, h2⟩
    rotate_left
    · exfalso
      cases d <;> first | (simp [isNmD] at c1; done) | exact absurd rfl (h2 _)
    have c1 : isNameC x.cps.toList = true := c1
    have hx : V.str x = vS x.cps.toList := by rw [show vS x.cps.toList = V.str (S x.cps.toList) from rfl, S_of]
    have hl : x.cps.toList.length ≤ 1000000 := by have := g.2; rw [← S_of x, S_len] at this; omega
    have evM : ∀ H1, Same H H1 → Tells (tTest (tOp rNe (tVar 0) (tCall spNameOf [] E0 (tCons (tVar 0) tNil)))) (start ["thing"] [V.str x]) H1 (!decide (x = S (smallC x.cps.toList))) := fun H1 s1 R k => ⟨_, rfl, _, rfl, x.cps.toList, congrArg (fun z => [z]) hx, hl, c1, fun H' s' => ⟨rfl, _, rfl, by
      rw [show decide (V.str x = vS (smallC x.cps.toList)) = decide (x = S (smallC x.cps.toList)) by rw [decide_eq_decide]; exact ⟨fun z => V.str.inj z, fun z => congrArg V.str z⟩]
      exact k _ s'⟩⟩
    by_cases c2 : x = S (smallC x.cps.toList)
    · refine s_no1 (t_or false false (t_not true (evN.eq c1)) fun _ H1 s1 => (evM H1 s1).eq (by rw [decide_eq_true c2]; rfl)) fun H2 s2 => ⟨_, rfl, q x ?_ g rfl H2 s2⟩
      show (if okNm x then some x else none) = some x
      rw [if_pos]
      unfold okNm
      rw [c1, decide_eq_true c2.symm]
      rfl
    · refine s_yes (t_or false true (t_not true (evN.eq c1)) fun _ H1 s1 => (evM H1 s1).eq (by rw [decide_eq_false c2]; rfl)) fun H2 s2 => ⟨big (show (1 : Nat) ≤ 1000000 by decide), qe ?_ H2 s2⟩
      show (if okNm x then some x else none) = none
      rw [if_neg]
      unfold okNm
      rw [decide_eq_false (fun z => c2 z.symm)]
      simp
  · have c1 := Bool.eq_false_iff.mpr c1
    refine s_yes (t_or true false (t_not false (evN.eq c1)) fun z => Bool.noConfusion z) fun H2 s2 => ⟨big (show (1 : Nat) ≤ 1000000 by decide), qe ?_ H2 s2⟩
    cases d with
    | str x =>
      have c1 : isNameC x.cps.toList = false := c1
      show (if okNm x then some x else none) = none
      rw [if_neg]
      unfold okNm
      rw [c1]
      simp
    | _ => rfl
/-! begins, ends -/
def begB : PC → Bool
  | .one (.plain s) => Txt.startswith s " "
  | _ => false
def endB : PC → Bool
  | .one (.plain s) => Txt.endswith s " "
  | _ => false
def spBlank (c : Cp) (g : PC → Bool) : Sp := fun vs H Q _ => ∃ a p, vs = [.ref a] ∧ PCAt c H a p ∧ Q (.bl (g p)) H
abbrev sBegins : Stmt := top 29
abbrev sEndsB : Stmt := top 30
theorem scBegins : FnScope ["part"] ["part"] (defScope sBegins) := ⟨rfl, rfl, rfl, by decide +kernel, rfl, by decide +kernel, by decide +kernel⟩
theorem scEndsB : FnScope ["part"] ["part"] (defScope sEndsB) := ⟨rfl, rfl, rfl, by decide +kernel, rfl, by decide +kernel, by decide +kernel⟩
theorem ok_begins {f : Addr} {fd : FuncData} (F : Fun K "begins_with_blank" "begins_with_blank" sBegins f fd) (T : TxP K mg c BT) : FnOk P w K mg base CX0 1 f fd ["part"] (spBlank c begB) := by
  have sc := scBegins
  refine F.ok sc (fun vs H Q E h => ?_) (fun cdv A outer s H vs Q E hr h => ?_)
  · obtain ⟨a, p, rfl, _⟩ := h
    rfl
  obtain ⟨a, p, rfl, ha, q⟩ := h
  refine of_XB (xb1 (xret (xandV (xcB call_isC T.n_isinstance rfl (xac (xv 0) (xac (xgC T.c_Plain) xa0))) (xone (xm PySem.F.plainAttrs_str PySem.F.slot_str_startswith PySem.F.type_str_startswith mt_startswith (xfld (xv 0)) (xac xstr xa0)))))) ?_
  obtain ⟨t, ht, hk⟩ := T.isPlain ha
  refine ⟨_, rfl, _, t, _, _, rfl, ht, hk, _, rfl, ?_⟩
  match p, ha, hk, q with
  | .one (.plain x), ⟨g, dx, e⟩, hk, q => exact iteT ⟨_, rfl, a, _, dx, _, _, rfl, e, T.o_Plain.cls, T.a_Plain, rfl, rfl, _, _, rfl, rfl, by rw [sizeLine_eq]; have := g.2; omega, q⟩
  | .one (.code x), _, hk, q => exact iteF q
  | .one (.link x y), _, hk, q => exact iteF q
  | .one (.note x), _, hk, q => exact iteF q
  | .strong x, _, hk, q => exact iteF q
theorem ok_endsB {f : Addr} {fd : FuncData} (F : Fun K "ends_with_blank" "ends_with_blank" sEndsB f fd) (T : TxP K mg c BT) : FnOk P w K mg base CX0 1 f fd ["part"] (spBlank c endB) := by
  have sc := scEndsB
  refine F.ok sc (fun vs H Q E h => ?_) (fun cdv A outer s H vs Q E hr h => ?_)
  · obtain ⟨a, p, rfl, _⟩ := h
    rfl
  obtain ⟨a, p, rfl, ha, q⟩ := h
  refine of_XB (xb1 (xret (xandV (xcB call_isC T.n_isinstance rfl (xac (xv 0) (xac (xgC T.c_Plain) xa0))) (xone (xm PySem.F.plainAttrs_str PySem.F.slot_str_endswith PySem.F.type_str_endswith mt_endswith (xfld (xv 0)) (xac xstr xa0)))))) ?_
  obtain ⟨t, ht, hk⟩ := T.isPlain ha
  refine ⟨_, rfl, _, t, _, _, rfl, ht, hk, _, rfl, ?_⟩
  match p, ha, hk, q with
  | .one (.plain x), ⟨g, dx, e⟩, hk, q => exact iteT ⟨_, rfl, a, _, dx, _, _, rfl, e, T.o_Plain.cls, T.a_Plain, rfl, rfl, _, _, rfl, rfl, by rw [sizeLine_eq]; have := g.2; omega, q⟩
  | .one (.code x), _, hk, q => exact iteF q
  | .one (.link x y), _, hk, q => exact iteF q
  | .one (.note x), _, hk, q => exact iteF q
  | .strong x, _, hk, q => exact iteF q
end
end K7

set_option Elab.async false
set_option linter.all false
set_option maxRecDepth 100000
set_option maxHeartbeats 4000000
namespace K7
open PySem L2 Lm Lw
theorem made_same {H H2 : Hp} {x dx : Addr} {o1 o2 : HO} (s : Same H H2) (hx : H2 x = none) (hd : H2 dx = none) : Same H (upd (upd H2 dx o1) x o2) := same_grow (s.free hx) (same_grow (s.free hd) s)
section
variable {P : Program} {w : World} {K : PySem.W.Frag} {mg : Str → Option Value} {base : Heap} {c : Cp} {BT : Addr}
abbrev sNeedPart : Stmt := top 24
theorem scNeedPart : FnScope ["thing", "strong_too", "sort"] ["thing", "strong_too"] (defScope sNeedPart) := ⟨rfl, rfl, rfl, by decide +kernel, rfl, by decide +kernel, by decide +kernel⟩
theorem ok_needPart {f : Addr} {fd : FuncData} {n : Nat} {st : Bool} {spI : Sp} (F : Fun K "need_part" "need_part" sNeedPart f fd) (T : TxP K mg c BT)
    (D_Link : New P w K mg base 1 "Link" c.Link ["self", "words", "name"] (spInit2 c.Link "words" "name")) (D_Plain : New P w K mg base 1 "Plain" c.Plain ["self", "signs"] (spInit1 c.Plain "signs")) (D_Code : New P w K mg base 1 "Code" c.Code ["self", "signs"] (spInit1 c.Code "signs"))
    (D_Mark : New P w K mg base 1 "Mark" c.Mark ["self", "name"] (spInit1 c.Mark "name")) (D_Strong : New P w K mg base 1 "Strong" c.Strong ["self", "parts"] (spInitS c.Strong))
    (D_need_signs : DefR P w K mg base 1 "need_signs" ["thing"] (spStr BT sgD)) (D_need_code : DefR P w K mg base 2 "need_code" ["thing"] (spStr BT cdD)) (D_need_small_name : DefR P w K mg base 3 "need_small_name" ["thing"] (spStr BT nmD))
    (D_need_inner : DefR P w K mg base n "need_inner" ["told"] spI) (hI : st = true → ∀ vs H Q E, spInner BT c vs H Q E → spI vs H Q E) : FnOk P w K mg base (CXr P w) (n + 4) f fd ["thing", "strong_too"] (spPart BT c st) := by
  have sc := scNeedPart
  refine F.okR sc (fun vs H Q E h => ?_) (fun cdv A outer s H vs Q E hr h => ?_)
  · obtain ⟨v, d, rfl, _⟩ := h
    rfl
  obtain ⟨v, d, rfl, hd, q, qe⟩ := h
  refine of_XB (xbc (xif (xor (xnotT (xvalT (xcB call_isT T.n_isinstance rfl (xac (xv 0) (xac (xty (T := "tuple") T.n_tuple rfl) xa0))))) (xor (xcmpT op_lt (xcB call_len_seq T.n_len PySem.boot_len (xac (xv 0) xa0)) xint (nomark _)) (xor1 (xnotT (xvalT (xcB call_isT T.n_isinstance rfl (xac (xix ix_tup (xv 0) xint (fun _ _ => rfl)) (xac (xty (T := "str") T.n_str rfl) xa0)))))))).xt (xb1 (xraise T.x_BadTree T.c_BadTree rfl raises_cx (xac xstr xa0))) xb0)
    (xbc (xset (i := 2) sc.nd rfl (Or.inl rfl) (xix ix_tup (xv 0) xint (fun _ _ => rfl)))
    (xbc (xif (xand (xcmpT op_eq (xv 2) xstr (nomark _)) (xand1 (xcmpT op_eq (xcB call_len_seq T.n_len PySem.boot_len (xac (xv 0) xa0)) xint (nomark _)))).xt (xb1 (xret (xnew D_Link (hr.mono (by omega)) (xac (xcP D_need_signs (hr.mono (by omega)) (xac (xix ix_tup (xv 0) xint (fun _ _ => rfl)) xa0)) (xac (xcP D_need_small_name (hr.mono (by omega)) (xac (xix ix_tup (xv 0) xint (fun _ _ => rfl)) xa0)) xa0))))) xb0)
    (xbc (xif (xand (xcmpT op_eq (xcB call_len_seq T.n_len PySem.boot_len (xac (xv 0) xa0)) xint (nomark _)) (xand1 (xcmpT op_eq (xv 2) xstr (nomark _)))).xt (xb1 (xret (xnew D_Plain (hr.mono (by omega)) (xac (xcP D_need_signs (hr.mono (by omega)) (xac (xix ix_tup (xv 0) xint (fun _ _ => rfl)) xa0)) xa0)))) xb0)
    (xbc (xif (xand (xcmpT op_eq (xcB call_len_seq T.n_len PySem.boot_len (xac (xv 0) xa0)) xint (nomark _)) (xand1 (xcmpT op_eq (xv 2) xstr (nomark _)))).xt (xb1 (xret (xnew D_Code (hr.mono (by omega)) (xac (xcP D_need_code (hr.mono (by omega)) (xac (xix ix_tup (xv 0) xint (fun _ _ => rfl)) xa0)) xa0)))) xb0)
    (xbc (xif (xand (xcmpT op_eq (xcB call_len_seq T.n_len PySem.boot_len (xac (xv 0) xa0)) xint (nomark _)) (xand1 (xcmpT op_eq (xv 2) xstr (nomark _)))).xt (xb1 (xret (xnew D_Mark (hr.mono (by omega)) (xac (xcP D_need_small_name (hr.mono (by omega)) (xac (xix ix_tup (xv 0) xint (fun _ _ => rfl)) xa0)) xa0)))) xb0)
    (xbc (xif (xand (xcmpT op_eq (xcB call_len_seq T.n_len PySem.boot_len (xac (xv 0) xa0)) xint (nomark _)) (xand (xcmpT op_eq (xv 2) xstr (nomark _)) (xand1 (xvalT (xv 1))))).xt (xb1 (xret (xnew D_Strong (hr.mono (by omega)) (xac (xcP D_need_inner (hr.mono (by omega)) (xac (xix ix_tup (xv 0) xint (fun _ _ => rfl)) xa0)) xa0)))) xb0)
    (xb1 (xraise T.x_BadTree T.c_BadTree rfl raises_cx (xac xstr xa0)))))))))) ?_
  rw [show start ["thing", "strong_too", "sort"] [v, V.bl st] = [some v, some (V.bl st), none] from rfl]
  have hk := (kit_D K d).2.2
  rcases Dn.tupCase hd with ⟨a, xs, ds, rfl, rfl, ea, hxs⟩ | ⟨h1, h2⟩
  rotate_left
  · rw [h1] at hk
    refine s_yes (t_or true false (t_not false (t_isT (ev_v rfl) hd hk)) (fun z => Bool.noConfusion z)) fun H1 s1 => ⟨big (show (1 : Nat) ≤ 1000000 by decide), qe ?_ H1 s1⟩
    cases d <;> first | rfl | exact absurd rfl (h2 _)
  have hk : PySem.W.kitOne K (.type (tyD (.tuple ds))) (.type "tuple") = some true := hk
  have hlen := hxs.len
  have evL : ∀ {x2 : Option V} {H1 : Hp}, Same H H1 → Ev (tCB (fun xs H Q => ∃ p ys, xs = [.ref p] ∧ (SqL K H p ys ∨ SqT K H p ys) ∧ Q (.int ys.length) H) (tCons (tVar 0) tNil)) [some (.ref a), some (.bl st), x2] H1 (.int xs.length) := fun s1 => ev_lenS (ev_v rfl) (.inr (SqT.of (s1 _ _ ea)))
  -- fewer than two
  by_cases hl2 : xs.length < 2
  · refine s_yes (t_or false true (t_not true (t_isT (ev_v rfl) hd hk)) fun _ H1 s1 => (t_or true false ((t_relG (p := fun i j => decide (i < j)) (evL s1) ev_c).eq (decide_eq_true (by omega))) (fun z => Bool.noConfusion z))) fun H1 s1 => ⟨big (show (1 : Nat) ≤ 1000000 by decide), qe ?_ H1 s1⟩
    match ds, hlen with
    | [], _ => rfl
    | [d0], _ => cases d0 <;> rfl
    | d0 :: d1 :: r, h => (rw [h, List.length_cons, List.length_cons] at hl2; omega)
  obtain ⟨d0, d1', rest, rfl⟩ : ∃ d0 d1' rest, ds = d0 :: d1' :: rest := by
    match ds, hlen with
    | [], h => exact absurd (show xs.length < 2 by rw [h]; decide) hl2
    | [_], h => exact absurd (show xs.length < 2 by rw [h]; exact Nat.lt_succ_self 1) hl2
    | d0 :: d1 :: r, _ => exact ⟨_, _, _, rfl⟩
  obtain ⟨x0, e0, hd0⟩ := hxs.get (i := 0) rfl
  obtain ⟨x1, e1, hd1⟩ := hxs.get (i := 1) rfl
  have hk0 := (kit_D K d0).1
  have ev0 : ∀ {x2 : Option V} {H1 : Hp}, Same H H1 → Ev (tOp (rIxT K) (tVar 0) (tC (.int 0))) [some (.ref a), some (.bl st), x2] H1 x0 := fun s1 => ev_ixT (ev_v rfl) ev_c (SqT.of (s1 _ _ ea)) (atI_nat (j := 0) e0)
  have ev1 : ∀ {x2 : Option V} {H1 : Hp}, Same H H1 → Ev (tOp (rIxT K) (tVar 0) (tC (.int 1))) [some (.ref a), some (.bl st), x2] H1 x1 := fun s1 => ev_ixT (ev_v rfl) ev_c (SqT.of (s1 _ _ ea)) (atI_nat (j := 1) e1)
  have tL2 : ∀ H1, Same H H1 → Tells (tTest (tOp (rI0 fun i j => .bl (decide (i < j))) (tCB (fun xs H Q => ∃ p ys, xs = [.ref p] ∧ (SqL K H p ys ∨ SqT K H p ys) ∧ Q (.int ys.length) H) (tCons (tVar 0) tNil)) (tC (.int 2)))) [some (.ref a), some (.bl st), none] H1 false := fun H1 s1 => (t_relG (p := fun i j => decide (i < j)) (evL s1) ev_c).eq (decide_eq_false (by omega))
  rcases Dn.strCase hd0 with ⟨k, rfl, rfl, gk⟩ | ⟨h1, h2⟩
  rotate_left
  · rw [h1] at hk0
    refine s_yes (t_or false true (t_not true (t_isT (ev_v rfl) hd hk)) fun _ H1 s1 => (t_or false true (tL2 H1 s1) fun _ H2 s2 => t_not false (t_isT (ev0 (s1.trans s2)) (hd0.same (s1.trans s2)) hk0))) fun H1 s1 => ⟨big (show (1 : Nat) ≤ 1000000 by decide), qe ?_ H1 s1⟩
    cases d0 <;> first | exact absurd rfl (h2 _) | (match rest with
      | [] => rfl
      | [_] => rfl
      | _ :: _ :: _ => rfl)
  have hk0 : PySem.W.kitOne K (.type (tyD (.str k))) (.type "str") = some true := hk0
  refine s_no1 (t_or false false (t_not true (t_isT (ev_v rfl) hd hk)) fun _ H1 s1 => (t_or false false (tL2 H1 s1) fun _ H2 s2 => t_not true (t_isT (ev0 (s1.trans s2)) (hd0.same (s1.trans s2)) hk0))) fun H1 s1 => ?_
  refine ev0 s1 _ ?_
  dsimp only [gName, List.set_cons_succ, List.set_cons_zero]
  have tK : ∀ (y : Str) H2, Tells (tTest (tOp rEq (tVar 2) (tC (.str y)))) [some (.ref a), some (.bl st), some (.str k)] H2 (decide (k = y)) := fun y H2 => t_eqS (ev_v rfl) ev_c
  have tM : ∀ (m : Int) H2, Same H H2 → Tells (tTest (tOp rEq (tCB (fun xs H Q => ∃ p ys, xs = [.ref p] ∧ (SqL K H p ys ∨ SqT K H p ys) ∧ Q (.int ys.length) H) (tCons (tVar 0) tNil)) (tC (.int m)))) [some (.ref a), some (.bl st), some (.str k)] H2 (decide ((xs.length : Int) = m)) := fun m H2 s2 => t_eqi (evL s2) ev_c
  have tF : ∀ (y : Str) (m : Int) (b : Bool) H2, Same H H2 → (decide (k = y) && decide ((xs.length : Int) = m)) = b → Tells (tAnd (tTest (tOp rEq (tVar 2) (tC (.str y)))) (tTest (tOp rEq (tCB (fun xs H Q => ∃ p ys, xs = [.ref p] ∧ (SqL K H p ys ∨ SqT K H p ys) ∧ Q (.int ys.length) H) (tCons (tVar 0) tNil)) (tC (.int m))))) [some (.ref a), some (.bl st), some (.str k)] H2 b := fun y m b H2 s2 e => (t_and _ _ (tK y H2) fun _ H3 s3 => tM m H3 (s2.trans s3)).eq e
  have tG : ∀ (y : Str) (m : Int) (b : Bool) H2, Same H H2 → (decide ((xs.length : Int) = m) && decide (k = y)) = b → Tells (tAnd (tTest (tOp rEq (tCB (fun xs H Q => ∃ p ys, xs = [.ref p] ∧ (SqL K H p ys ∨ SqT K H p ys) ∧ Q (.int ys.length) H) (tCons (tVar 0) tNil)) (tC (.int m)))) (tTest (tOp rEq (tVar 2) (tC (.str y))))) [some (.ref a), some (.bl st), some (.str k)] H2 b := fun y m b H2 s2 e => (t_and _ _ (tM m H2 s2) fun _ H3 s3 => tK y H3).eq e
  have tS : ∀ (y : Str) (m : Int) (b : Bool) H2, Same H H2 → (decide ((xs.length : Int) = m) && (decide (k = y) && st)) = b → Tells (tAnd (tTest (tOp rEq (tCB (fun xs H Q => ∃ p ys, xs = [.ref p] ∧ (SqL K H p ys ∨ SqT K H p ys) ∧ Q (.int ys.length) H) (tCons (tVar 0) tNil)) (tC (.int m)))) (tAnd (tTest (tOp rEq (tVar 2) (tC (.str y)))) (tB (tVar 1)))) [some (.ref a), some (.bl st), some (.str k)] H2 b := fun y m b H2 s2 e => (t_and _ _ (tM m H2 s2) fun _ H3 s3 => t_and _ _ (tK y H3) fun _ H4 s4 => t_bv (ev_v rfl)).eq e
  obtain ⟨n1, n2, n3, n4, n5, n6, n7, n8, n9, n10⟩ := kinds
  have hxl : xs.length = rest.length + 2 := by rw [hlen]; rfl
  -- three of them
  by_cases h3 : rest.length = 1
  · obtain ⟨d2, rfl⟩ : ∃ d2, rest = [d2] := by
      match rest, h3 with
      | [d2], _ => exact ⟨d2, rfl⟩
    obtain ⟨x2, e2, hd2⟩ := hxs.get (i := 2) rfl
    have h23 : decide ((xs.length : Int) = 2) = false := decide_eq_false (by omega)
    by_cases hkl : k = kLink
    · subst hkl
      refine s_yes (tF "link" 3 true H1 s1 (by rw [decide_eq_true rfl, decide_eq_true (by omega)]; rfl)) fun H2 s2 => ?_
      have s12 := s1.trans s2
      refine ev1 s12 _ ⟨x1, d1', rfl, hd1.same s12, fun wd hw gw ew H3 s3 => ?_, fun hn H3 s3 => qe ?_ H3 (s12.trans s3)⟩
      · have s13 := s12.trans s3
        refine ev_ixT (ev_v rfl) ev_c (SqT.of (s13 _ _ ea)) (atI_nat (j := 2) e2) _ ⟨x2, d2, rfl, hd2.same s13, fun nm hn gn en H4 s4 x dx hx hdx hne => ?_, fun hn H4 s4 => qe ?_ H4 (s13.trans s4)⟩
        · have s14 := s13.trans s4
          subst ew en
          refine ⟨x, dx, _, _, rfl, upd_same, rfl, q (.one (.link wd nm)) ?_ x _ (same_grow (s14.free hx) (same_grow (s14.free hx) (made_same s14 hx hdx))) ⟨gw, gn, dx, by rw [dif_at (s14.free hx)]; exact upd_same⟩⟩
          rw [partD_3, if_pos rfl]
          unfold lnD
          rw [hw, hn]
          rfl
        · rw [partD_3, if_pos rfl]
          unfold lnD
          rw [hw, hn]
          rfl
      · rw [partD_3, if_pos rfl]
        unfold lnD
        rw [hn]
        rfl
    · refine s_no1 (tF "link" 3 false H1 s1 (by rw [decide_eq_false hkl]; rfl)) fun H2 s2 => ?_
      refine s_no1 (tG "plain" 2 false H2 (s1.trans s2) (by rw [h23]; rfl)) fun H3 s3 => ?_
      refine s_no1 (tG "code" 2 false H3 ((s1.trans s2).trans s3) (by rw [h23]; rfl)) fun H4 s4 => ?_
      refine s_no1 (tG "note" 2 false H4 (((s1.trans s2).trans s3).trans s4) (by rw [h23]; rfl)) fun H5 s5 => ?_
      refine s_no1 (tS "strong" 2 false H5 ((((s1.trans s2).trans s3).trans s4).trans s5) (by rw [h23]; rfl)) fun H6 s6 => ⟨big (show (1 : Nat) ≤ 1000000 by decide), qe ?_ H6 (((((s1.trans s2).trans s3).trans s4).trans s5).trans s6)⟩
      rw [partD_3, if_neg hkl]
  have hl3 : decide ((xs.length : Int) = 3) = false := decide_eq_false (by omega)
  refine s_no1 (tF "link" 3 false H1 s1 (by rw [hl3, Bool.and_false])) fun H2 s2' => ?_
  have s2 := s1.trans s2'
  by_cases h0 : rest = []
  rotate_left
  · have h22 : decide ((xs.length : Int) = 2) = false := decide_eq_false (by have : rest.length ≠ 0 := fun z => h0 (List.eq_nil_of_length_eq_zero z); omega)
    refine s_no1 (tG "plain" 2 false H2 s2 (by rw [h22]; rfl)) fun H3 s3 => ?_
    refine s_no1 (tG "code" 2 false H3 (s2.trans s3) (by rw [h22]; rfl)) fun H4 s4 => ?_
    refine s_no1 (tG "note" 2 false H4 ((s2.trans s3).trans s4) (by rw [h22]; rfl)) fun H5 s5 => ?_
    refine s_no1 (tS "strong" 2 false H5 (((s2.trans s3).trans s4).trans s5) (by rw [h22]; rfl)) fun H6 s6 => ⟨big (show (1 : Nat) ≤ 1000000 by decide), qe ?_ H6 ((((s2.trans s3).trans s4).trans s5).trans s6)⟩
    match rest, h0, h3 with
    | [], z, _ => exact absurd rfl z
    | [_], _, z => exact absurd rfl z
    | _ :: _ :: _, _, _ => rfl
  subst h0
  have h22 : decide ((xs.length : Int) = 2) = true := decide_eq_true (by have : xs.length = 2 := hxl; omega)
  by_cases hp : k = kPlain
  · subst hp
    refine s_yes (tG "plain" 2 true H2 s2 (by rw [h22, decide_eq_true rfl]; rfl)) fun H3 s3' => ?_
    have s3 := s2.trans s3'
    refine ev1 s3 _ ⟨x1, d1', rfl, hd1.same s3, fun wd hw gw ew H4 s4' x dx hx hdx hne => ?_, fun hn H4 s4 => qe (by rw [partD_2, if_pos rfl, hn]; rfl) H4 (s3.trans s4)⟩
    have s4 := s3.trans s4'
    subst ew
    exact ⟨x, dx, _, rfl, upd_same, rfl, q (.one (.plain wd)) (by rw [partD_2, if_pos rfl, hw]; rfl) x _ (same_grow (s4.free hx) (made_same s4 hx hdx)) ⟨gw, dx, by rw [dif_at (s4.free hx)]; exact upd_same⟩⟩
  refine s_no1 (tG "plain" 2 false H2 s2 (by rw [decide_eq_false hp, Bool.and_false])) fun H3 s3' => ?_
  have s3 := s2.trans s3'
  by_cases hc : k = kCode
  · subst hc
    refine s_yes (tG "code" 2 true H3 s3 (by rw [h22, decide_eq_true rfl]; rfl)) fun H4 s4' => ?_
    have s4 := s3.trans s4'
    refine ev1 s4 _ ⟨x1, d1', rfl, hd1.same s4, fun wd hw gw ew H5 s5' x dx hx hdx hne => ?_, fun hn H5 s5 => qe (by rw [partD_2, if_neg (Ne.symm n1), if_pos rfl, hn]; rfl) H5 (s4.trans s5)⟩
    have s5 := s4.trans s5'
    subst ew
    exact ⟨x, dx, _, rfl, upd_same, rfl, q (.one (.code wd)) (by rw [partD_2, if_neg (Ne.symm n1), if_pos rfl, hw]; rfl) x _ (same_grow (s5.free hx) (made_same s5 hx hdx)) ⟨gw, dx, by rw [dif_at (s5.free hx)]; exact upd_same⟩⟩
  refine s_no1 (tG "code" 2 false H3 s3 (by rw [decide_eq_false hc, Bool.and_false])) fun H4 s4' => ?_
  have s4 := s3.trans s4'
  by_cases hn' : k = kNote
  · subst hn'
    refine s_yes (tG "note" 2 true H4 s4 (by rw [h22, decide_eq_true rfl]; rfl)) fun H5 s5' => ?_
    have s5 := s4.trans s5'
    refine ev1 s5 _ ⟨x1, d1', rfl, hd1.same s5, fun wd hw gw ew H6 s6' x dx hx hdx hne => ?_, fun hn H6 s6 => qe (by rw [partD_2, if_neg (Ne.symm n2), if_neg (Ne.symm n4), if_pos rfl, hn]; rfl) H6 (s5.trans s6)⟩
    have s6 := s5.trans s6'
    subst ew
    exact ⟨x, dx, _, rfl, upd_same, rfl, q (.one (.note wd)) (by rw [partD_2, if_neg (Ne.symm n2), if_neg (Ne.symm n4), if_pos rfl, hw]; rfl) x _ (same_grow (s6.free hx) (made_same s6 hx hdx)) ⟨gw, dx, by rw [dif_at (s6.free hx)]; exact upd_same⟩⟩
  refine s_no1 (tG "note" 2 false H4 s4 (by rw [decide_eq_false hn', Bool.and_false])) fun H5 s5' => ?_
  have s5 := s4.trans s5'
  by_cases hs : k = kStrong ∧ st = true
  · obtain ⟨rfl, rfl⟩ := hs
    refine s_yes (tS "strong" 2 true H5 s5 (by rw [h22, decide_eq_true rfl]; rfl)) fun H6 s6' => ?_
    have s6 := s5.trans s6'
    refine ev1 s6 _ (hI rfl _ _ _ _ ⟨x1, d1', rfl, hd1.same s6, fun ps hps r as H7 s7' hr7 er hP x dx hx hdx hne => ?_, fun hn H7 s7 => qe (by rw [partD_2, if_neg hp, if_neg hc, if_neg hn', if_pos rfl, if_pos rfl, hn]; rfl) H7 (s6.trans s7)⟩)
    have s7 := s6.trans s7'
    have sm := made_same (H := H7) (Same.refl _) (o1 := .own x) (o2 := .ins c.Strong dx []) hx hdx
    refine ⟨x, dx, r, _, rfl, upd_same, sm _ _ er, fun p hp' => ⟨rfl, q (.strong ps) (by rw [partD_2, if_neg hp, if_neg hc, if_neg hn', if_pos rfl, if_pos rfl, hps]; rfl) x _ ?_ ?_⟩⟩
    · have sA := made_same s7 (o1 := .own x) (o2 := .ins c.Strong dx []) hx hdx
      exact same_grow (s7.free hx) (same_grow (sA.free hp') sA)
    · have npx : p ≠ x := fun z => by rw [z, upd_same] at hp'; cases hp'
      have sA := made_same s7 (o1 := .own x) (o2 := .ins c.Strong dx []) hx hdx
      refine ⟨dx, p, as, by rw [dif_at (s7.free hx)]; exact upd_same, by rw [dif_at (sA.free hp'), upd_ne npx, upd_same], hP.same (dif_grow s6 fun b o e => ?_)⟩
      have nb : b ≠ x := fun z => by rw [z, hx] at e; cases e
      rw [upd_ne nb]
      exact same_new hp' _ _ _ (sm _ _ e)
  · refine s_no1 (tS "strong" 2 false H5 s5 ?_) fun H6 s6 => ⟨big (show (1 : Nat) ≤ 1000000 by decide), qe ?_ H6 (s5.trans s6)⟩
    · by_cases z : k = kStrong
      · have : st = false := Bool.eq_false_iff.mpr fun y => hs ⟨z, y⟩
        rw [this, Bool.and_false, Bool.and_false]
      · rw [decide_eq_false z, Bool.false_and, Bool.and_false]
    · rw [partD_2, if_neg hp, if_neg hc, if_neg hn']
      by_cases z : k = kStrong
      · have : st = false := Bool.eq_false_iff.mpr fun y => hs ⟨z, y⟩
        rw [this, if_pos z]
        rfl
      · rw [if_neg z]
abbrev sNeedRun : Stmt := top 23
theorem scNeedRun : FnScope ["told", "strong_too", "parts", "thing", "part"] ["told", "strong_too"] (defScope sNeedRun) := ⟨rfl, rfl, rfl, by decide +kernel, rfl, by decide +kernel, by decide +kernel⟩
/-- parts that reach nothing of what was there, nor p -/
def NewP (c : Cp) (H0 : Hp) (p : Addr) (H : Hp) (as : List Addr) (ps : List PC) : Prop := ∃ G, Same G H ∧ G p = none ∧ (∀ b, H0 b ≠ none → G b = none) ∧ PCs c G as ps
theorem NewP.same {c : Cp} {H0 H H' : Hp} {p : Addr} {as : List Addr} {ps : List PC} (h : NewP c H0 p H as ps) (s : Same H H') : NewP c H0 p H' as ps := let ⟨G, a, b, d, e⟩ := h; ⟨G, a.trans s, b, d, e⟩
theorem NewP.upd {c : Cp} {H0 H : Hp} {p : Addr} {as : List Addr} {ps : List PC} {o : HO} (h : NewP c H0 p H as ps) : NewP c H0 p (L2.upd H p o) as ps :=
  let ⟨G, a, b, d, e⟩ := h; ⟨G, fun x u q => (upd_ne (fun z => by rw [z, b] at q; cases q)).trans (a x u q), b, d, e⟩
theorem NewP.out {c : Cp} {H0 H : Hp} {p : Addr} {as : List Addr} {ps : List PC} (h : NewP c H0 p H as ps) : PCs c H as ps := let ⟨G, a, b, d, e⟩ := h; e.same a
theorem NewP.dif {c : Cp} {H0 H : Hp} {p : Addr} {as : List Addr} {ps : List PC} (h : NewP c H0 p H as ps) : PCs c (L2.dif H0 H) as ps :=
  let ⟨G, a, b, d, e⟩ := h; e.same fun x u q => by
    have : H0 x = none := Classical.byContradiction fun z => by rw [d x z] at q; cases q
    rw [dif_at this]
    exact a _ _ q
theorem NewP.snoc {c : Cp} {H0 H H' : Hp} {p b : Addr} {as : List Addr} {ps : List PC} {pc : PC} (h : NewP c H0 p H as ps) (s0 : Same H0 H) (s : Same H H') (hp : H p ≠ none) (k : PCAt c (L2.dif H H') b pc) : NewP c H0 p H' (as ++ [b]) (ps ++ [pc]) := by
  obtain ⟨G, a, b', d, e⟩ := h
  have i1 := a.trans s
  refine ⟨both G (L2.dif H H'), both_in i1 dif_same, ?_, fun x hx => ?_, (e.same both_l).snoc (k.same (both_r i1 dif_same))⟩
  · unfold both
    rw [b']
    exact dif_none hp
  · unfold both
    rw [d x hx]
    refine dif_none ?_
    cases q : H0 x with
    | none => exact absurd q hx
    | some o => rw [s0 _ _ q]; simp
theorem run_step {part : PyData → Option PC} {ds : List PyData} {i : Nat} {d : PyData} {prev : Bool} (h : ds[i]? = some d) : runG part prev (ds.drop i) = match part d with
    | none => none
    | some p => if prev && p.isPlain then none else (runG part p.isPlain (ds.drop (i + 1))).map (p :: ·) := by
  obtain ⟨hi, he⟩ := List.getElem?_eq_some_iff.mp h
  rw [List.drop_eq_getElem_cons hi, he]
  rfl
def lastP (ps : List PC) : Bool := match ps.getLast? with
  | some p => p.isPlain
  | none => false
theorem lastP_snoc (ps : List PC) (p : PC) : lastP (ps ++ [p]) = p.isPlain := by unfold lastP; rw [List.getLast?_concat]
theorem ok_needRun {f : Addr} {fd : FuncData} {n : Nat} {st : Bool} (F : Fun K "need_run" "need_run" sNeedRun f fd) (T : TxP K mg c BT) (D_need_part : DefR P w K mg base n "need_part" ["thing", "strong_too"] (spPart BT c st)) : FnOk P w K mg base (CXr P w) (n + 1) f fd ["told", "strong_too"] (spRun K BT c st) := by
  have sc := scNeedRun
  refine F.okR sc (fun vs H Q E h => ?_) (fun cdv A outer s H vs Q E hr h => ?_)
  · obtain ⟨v, rfl, _⟩ := h
    rfl
  obtain ⟨v, rfl, h⟩ := h
  have hu : (A.deeper (PyProof.Rows.envOfC "need_run" (defScope sNeedRun) s.heap.objs.size f cdv)).units + 64 < cLine := by
    have := hr.un
    omega
  refine of_XB (xbc (xif (xnotT (xvalT (xcB call_isT T.n_isinstance rfl (xac (xv 0) (xac (xty (T := "list") T.n_list rfl) xa0))))) (xb1 (xraise T.x_BadTree T.c_BadTree rfl raises_cx (xac xstr xa0))) xb0)
    (xbc (xset (i := 2) sc.nd rfl (Or.inl rfl) (xlst xa0))
    (xbc (xfor PassesOwn.leaving rfl (xil (xv 0)) (xgn (i := 3) sc.nd rfl (Or.inl rfl))
    (xbc (xset (i := 4) sc.nd rfl (Or.inl rfl) (xcP D_need_part (hr.mono (by omega)) (xac (xv 3) (xac (xv 1) xa0))))
    (xbc (xif (xand (xcmpT (op_ne0 hu) (xv 2) (xlst xa0) (nomark _)) (xand (xvalT (xcB call_isC T.n_isinstance rfl (xac (xv 4) (xac (xgC T.c_Plain) xa0)))) (xand1 (xvalT (xcB call_isC T.n_isinstance rfl (xac (xix ix_list (xv 2) (xun un_neg xint) (fun _ _ => rfl)) (xac (xgC T.c_Plain) xa0))))))).xt (xb1 (xraise T.x_BadTree T.c_BadTree rfl raises_cx (xac xstr xa0))) xb0)
    (xb1 (xexpr (xm PySem.F.plainAttrs_list PySem.F.slot_list_append PySem.F.type_list_append mt_append (xv 2) (xac (xv 4) xa0)))))))
    (xb1 (xret (xv 2)))))) ?_
  rw [show start ["told", "strong_too", "parts", "thing", "part"] [v, V.bl st] = [some v, some (V.bl st), none, none, none] from rfl]
  rcases h with ⟨a, xs, ds, rfl, ea, hds, hdl, q, qe⟩ | ⟨⟨t, ht, hk⟩, qe⟩
  rotate_left
  · exact s_yes (t_not false fun R k => ⟨_, rfl, _, _, _, _, rfl, ht, hk, _, rfl, k _ (Same.refl _)⟩) fun H1 s1 => ⟨big (show (1 : Nat) ≤ 1000000 by decide), qe H1 s1⟩
  refine s_no1 (t_not true fun R k => ⟨_, rfl, _, _, _, _, rfl, .lst ea, kit_same _ _, _, rfl, k _ (Same.refl _)⟩) fun H1 s1 => ?_
  have hlen := hds.len
  refine ⟨big (show (0 : Nat) ≤ 1000000 by decide), fun p hp => ?_⟩
  have s2 := s1.trans (same_new hp (.lst []))
  have hp0 : H p = none := s1.free hp
  have ep2 : upd H1 p (.lst []) p = some (.lst []) := upd_same
  dsimp only [gName, List.set_cons_succ, List.set_cons_zero]
  generalize upd H1 p (.lst []) = H2 at s2 ep2 ⊢
  have hs : sizeLine = 16777216 := sizeLine_eq
  refine ⟨_, rfl, a, rfl, ⟨_, SqL.of (s2 _ _ ea)⟩, ?_⟩
  refine for_list (xs := xs) (fun i σ H' => ∃ as ps x3 x4, σ = [some (.ref a), some (.bl st), some (.ref p), x3, x4] ∧ Same H H' ∧ H' p = some (.lst (as.map V.ref)) ∧ NewP c H p H' as ps ∧ as.length = i ∧ runG (partD st) false ds = (runG (partD st) (lastP ps) (ds.drop i)).map (ps ++ ·))
    ⟨[], [], none, none, rfl, s2, ep2, ⟨fun _ => none, (fun _ _ z => nomatch z), rfl, (fun _ _ => rfl), trivial⟩, rfl, by show _ = (runG _ false ds).map _; cases runG (partD st) false ds <;> rfl⟩ ?_ ?_ ?_
  · rintro i σ H3 _ ⟨as, ps, x3, x4, _, s3, _⟩
    exact SqL.of (s3 _ _ ea)
  · rintro i x σ H3 hx ⟨as, ps, x3, x4, rfl, s3, ep3, hnew, hal, hrun⟩
    obtain ⟨d, hdi, hdx⟩ := hds.getV hx
    rw [run_step hdi] at hrun
    dsimp only [gName, List.set_cons_succ, List.set_cons_zero]
    have hil := (List.getElem?_eq_some_iff.mp hx).1
    refine ⟨_, rfl, _, rfl, x, d, rfl, hdx.same s3, fun pc hpc b H4 s4 hPb' => ?_, fun hn H4 s4 => qe (by rw [hrun, hn]; rfl) H4 (s3.trans s4)⟩
    have hps := hnew.out
    have hPb := hPb'.same dif_same
    rw [hpc] at hrun
    dsimp only at hrun
    dsimp only [gName, List.set_cons_succ, List.set_cons_zero]
    have s34 := s3.trans s4
    have ep4 := s4 _ _ ep3
    have hps4 := hps.same s4
    obtain ⟨t1, ht1, hk1⟩ := T.isPlain hPb
    have hpl := hps.len
    -- the test: two plain ones
    have hT : Tells (tAnd (tTest (tOp (rEq0 K true) (tVar 2) (tLst tNil))) (tAnd (tB (tCB (rIsC K) (tCons (tVar 4) (tCons (tC (.ref c.Plain)) tNil)))) (tB (tCB (rIsC K) (tCons (tOp (rIxL K) (tVar 2) (tUn (rU fun i => .int (-i)) (tC (.int 1)))) (tCons (tC (.ref c.Plain)) tNil)))))) [some (.ref a), some (.bl st), some (.ref p), some x, some (.ref b)] H4 (lastP ps && pc.isPlain) := by
      rcases List.eq_nil_or_concat ps with hz | ⟨ps', pl, hz⟩
      · have hz2 : as = [] := List.eq_nil_of_length_eq_zero (by rw [hpl, hz]; rfl)
        refine (t_and false false (fun R k => t_ne0 (ev_v rfl) (SqL.of ep4) R fun H' s' => by rw [hz2]; exact k H' s') (fun z => Bool.noConfusion z)).eq ?_
        rw [hz]
        rfl
      · rw [List.concat_eq_append] at hz
        obtain ⟨as', al, hal2⟩ : ∃ as' al, as = as' ++ [al] := by
          rcases List.eq_nil_or_concat as with hz2 | ⟨as', al, hz2⟩
          · rw [hz2, hz] at hpl; simp at hpl
          · exact ⟨as', al, by rw [hz2, List.concat_eq_append]⟩
        have hat : PCAt c H4 al pl := by
          have h1 : as[as'.length]? = some al := by rw [hal2, List.getElem?_append_right (Nat.le_refl _), Nat.sub_self]; rfl
          obtain ⟨pp, h2, h3⟩ := hps4.get h1
          have h4 : as'.length = ps'.length := by rw [hal2, hz, List.length_append, List.length_append] at hpl; simpa using hpl
          rw [hz, h4, List.getElem?_append_right (Nat.le_refl _), Nat.sub_self] at h2
          cases h2
          exact h3
        obtain ⟨t2, ht2, hk2⟩ := T.isPlain hat
        have hlast : lastP ps = pl.isPlain := by rw [hz]; exact lastP_snoc ps' pl
        have hev : ∀ H5, Same H4 H5 → Ev (tOp (rIxL K) (tVar 2) (tUn (rU fun i => .int (-i)) (tC (.int 1)))) [some (.ref a), some (.bl st), some (.ref p), some x, some (.ref b)] H5 (.ref al) := fun H5 s5 => ev_ixL (ev_v rfl) (ev_un ev_c rfl) (SqL.of (s5 _ _ ep4)) (by rw [hal2, List.map_append]; exact atI_last _ _)
        refine (t_and true (pc.isPlain && pl.isPlain) (fun R k => t_ne0 (ev_v rfl) (SqL.of ep4) R fun H' s' => by rw [hal2, show (!(List.map V.ref (as' ++ [al])).isEmpty) = true by simp]; exact k H' s') (fun _ H5 s5 => t_and _ _ (fun R k => ?_) (fun _ H6 s6 R k => ?_))).eq ?_
        · obtain ⟨t3, h3, k3⟩ := T.isPlain (hPb.same s5)
          exact t_isC (ev_v rfl) h3 k3 R k
        · obtain ⟨t3, h3, k3⟩ := T.isPlain (hat.same (s5.trans s6))
          exact t_isC (hev H6 (s5.trans s6)) h3 k3 R k
        · rw [hlast]
          cases pc.isPlain <;> cases pl.isPlain <;> rfl
    by_cases hc2 : (lastP ps && pc.isPlain) = true
    · rw [if_pos hc2] at hrun
      refine s_yes (hT.eq hc2) fun H5 s5 => ⟨big (show (1 : Nat) ≤ 1000000 by decide), qe (by rw [hrun]; rfl) H5 (s34.trans s5)⟩
    · rw [if_neg hc2] at hrun
      refine s_no1 (hT.eq (Bool.eq_false_iff.mpr hc2)) fun H5 s5 => ?_
      have ep5 := s5 _ _ ep4
      refine ⟨_, rfl, .inl ⟨rfl, _, SqL.of ep5⟩, _, rfl, p, _, _, rfl, rfl, ep5, by rw [List.length_map]; omega, ?_⟩
      refine ⟨as ++ [b], ps ++ [pc], _, _, rfl, same_grow hp0 (s34.trans s5), by rw [upd_same, List.map_append]; rfl, (((hnew.snoc s3 s4 (by rw [ep3]; simp) hPb').same s5).upd), by rw [List.length_append, hal]; rfl, ?_⟩
      · rw [hrun, lastP_snoc]
        cases runG (partD st) pc.isPlain (ds.drop (i + 1)) with
        | none => rfl
        | some qs => show some _ = some _; simp
  · rintro σ H3 ⟨as, ps, x3, x4, rfl, s3, ep3, hnew, hal, hrun⟩
    rw [hlen, List.drop_length] at hrun
    exact ⟨_, rfl, q ps (by rw [hrun]; show (some []).map _ = _; simp) p as H3 s3 hp0 ep3 hnew.dif⟩
end
end K7

set_option Elab.async false
set_option linter.all false
set_option maxRecDepth 100000
set_option maxHeartbeats 4000000
namespace K7
open PySem L2 Lm Lw
theorem partD_false : partD false = partG noGo := rfl
theorem Dn.noList {K : PySem.W.Frag} {H : Hp} {v : V} {d : PyData} (h : Dn H v d) (hn : (tyD d == "list") = false) : ∃ t, TyOf K H v t ∧ PySem.W.kitOne K t (.type "list") = some false := ⟨_, h.ty, by rw [(kit_D K d).2.1, hn]⟩
section
variable {P : Program} {w : World} {K : PySem.W.Frag} {mg : Str → Option Value} {base : Heap} {c : Cp} {BT : Addr}
abbrev sNeedInner : Stmt := top 25
theorem scNeedInner : FnScope ["told", "parts"] ["told"] (defScope sNeedInner) := ⟨rfl, rfl, rfl, by decide +kernel, rfl, by decide +kernel, by decide +kernel⟩
theorem ok_needInner {f : Addr} {fd : FuncData} {n : Nat} (F : Fun K "need_inner" "need_inner" sNeedInner f fd) (T : TxP K mg c BT) (D_need_run : DefR P w K mg base n "need_run" ["told", "strong_too"] (spRun K BT c false)) : FnOk P w K mg base (CXr P w) (n + 1) f fd ["told"] (spInner BT c) := by
  have sc := scNeedInner
  refine F.okR sc (fun vs H Q E h => ?_) (fun cdv A outer s H vs Q E hr h => ?_)
  · obtain ⟨v, d, rfl, _⟩ := h
    rfl
  obtain ⟨v, d, rfl, hd, q, qe⟩ := h
  have hu : (A.deeper (PyProof.Rows.envOfC "need_inner" (defScope sNeedInner) s.heap.objs.size f cdv)).units + 64 < cLine := by
    have := hr.un
    omega
  refine of_XB (xbc (xset (i := 1) sc.nd rfl (Or.inl rfl) (xcP D_need_run (hr.mono (by omega)) (xac (xv 0) (xac xbl xa0))))
    (xbc (xif (xcmpT (op_eq0 hu) (xv 1) (xlst xa0) (nomark _)) (xb1 (xraise T.x_BadTree T.c_BadTree rfl raises_cx (xac xstr xa0))) xb0)
    (xb1 (xret (xv 1))))) ?_
  rw [show start ["told", "parts"] [v] = [some v, none] from rfl]
  rcases Dn.lstCase hd with ⟨a, xs, ds, rfl, rfl, ea, hds, hl⟩ | ⟨h1, h2⟩
  rotate_left
  · refine ⟨_, rfl, v, rfl, .inr ⟨Dn.noList hd h1, fun H' s' => qe ?_ H' s'⟩⟩
    cases d <;> first | rfl | exact absurd rfl (h2 _)
  refine ⟨_, rfl, .ref a, rfl, .inl ⟨a, xs, ds, rfl, ea, hds, hl, fun ps hps r as H1 s1 hr1 er hP => ?_, fun hn H1 s1 => qe ?_ H1 s1⟩⟩
  · dsimp only [gName, List.set_cons_succ, List.set_cons_zero]
    rw [partD_false] at hps
    have hlen := hP.len
    cases ps with
    | nil =>
      have hz : as = [] := List.eq_nil_of_length_eq_zero hlen
      refine s_yes (fun R k => t_eq0 (ev_v rfl) (SqL.of er) R fun H' s' => by rw [hz]; exact k H' s') fun H2 s2 => ⟨big (show (1 : Nat) ≤ 1000000 by decide), qe ?_ H2 (s1.trans s2)⟩
      show (match runG (partG noGo) false ds with | some (p :: ps) => some (ones (p :: ps)) | _ => none) = none
      rw [hps]
    | cons p0 ps =>
      have hz : (as.map V.ref).isEmpty = false := by
        cases as with
        | nil => simp at hlen
        | cons _ _ => rfl
      refine s_no1 ((t_eq0 (ev_v rfl) (SqL.of er)).eq hz) fun H2 s2 => ⟨_, rfl, q (ones (p0 :: ps)) ?_ r as H2 (s1.trans s2) hr1 (s2 _ _ er) ((hP.same (dif_grow (Same.refl _) s2)).ones (run0_ones hps))⟩
      show (match runG (partG noGo) false ds with | some (p :: ps) => some (ones (p :: ps)) | _ => none) = _
      rw [hps]
  · rw [partD_false] at hn
    show (match runG (partG noGo) false ds with | some (p :: ps) => some (ones (p :: ps)) | _ => none) = none
    rw [hn]
abbrev sNeedParts : Stmt := top 22
theorem scNeedParts : FnScope ["told", "parts"] ["told"] (defScope sNeedParts) := ⟨rfl, rfl, rfl, by decide +kernel, rfl, by decide +kernel, by decide +kernel⟩
theorem ends_cons (p : PC) (ps : List PC) {pl : PC} {ps' : List PC} (h : p :: ps = ps' ++ [pl]) : endsOk (p :: ps) = (!begB p && !endB pl) := by
  have hl : (p :: ps).getLast (by simp) = pl := by
    have : (p :: ps).getLast? = some pl := by rw [h, List.getLast?_concat]
    rw [List.getLast?_eq_some_getLast (by simp)] at this
    exact Option.some.inj this
  unfold endsOk
  dsimp only
  rw [hl]
  cases p with
  | one p => cases p <;> (cases pl with
    | one q => cases q <;> rfl
    | strong _ => rfl)
  | strong _ => (cases pl with
    | one q => cases q <;> rfl
    | strong _ => rfl)
theorem ok_needParts {f : Addr} {fd : FuncData} {n : Nat} (F : Fun K "need_parts" "need_parts" sNeedParts f fd) (T : TxP K mg c BT) (D_need_run : DefR P w K mg base (n + 1) "need_run" ["told", "strong_too"] (spRun K BT c true)) (D_begins_with_blank : Def P w K mg base 1 "begins_with_blank" ["part"] (spBlank c begB)) (D_ends_with_blank : Def P w K mg base 1 "ends_with_blank" ["part"] (spBlank c endB)) :
    FnOk P w K mg base (CXr P w) (n + 2) f fd ["told"] (spNeed K BT c) := by
  have sc := scNeedParts
  refine F.okR sc (fun vs H Q E h => ?_) (fun cdv A outer s H vs Q E hr h => ?_)
  · obtain ⟨v, rfl, _⟩ := h
    rfl
  obtain ⟨v, rfl, h⟩ := h
  have hu : (A.deeper (PyProof.Rows.envOfC "need_parts" (defScope sNeedParts) s.heap.objs.size f cdv)).units + 64 < cLine := by
    have := hr.un
    omega
  refine of_XB (xbc (xset (i := 1) sc.nd rfl (Or.inl rfl) (xcP D_need_run (hr.mono (by omega)) (xac (xv 0) (xac xbl xa0))))
    (xbc (xif (xand (xcmpT (op_ne0 hu) (xv 1) (xlst xa0) (nomark _)) (xand1 (xor (xvalT (xcD D_begins_with_blank (hr.mono (by omega)) (xac (xix ix_list (xv 1) xint (fun _ _ => rfl)) xa0))) (xor1 (xvalT (xcD D_ends_with_blank (hr.mono (by omega)) (xac (xix ix_list (xv 1) (xun un_neg xint) (fun _ _ => rfl)) xa0))))).xt)).xt (xb1 (xraise T.x_BadTree T.c_BadTree rfl raises_cx (xac xstr xa0))) xb0)
    (xb1 (xret (xv 1))))) ?_
  rw [show start ["told", "parts"] [v] = [some v, none] from rfl]
  rcases h with ⟨a, xs, ds, rfl, ea, hds, hdl, q, qe⟩ | ⟨ht, qe⟩
  rotate_left
  · exact ⟨_, rfl, v, rfl, .inr ⟨ht, fun H' s' => qe H' s'⟩⟩
  refine ⟨_, rfl, .ref a, rfl, .inl ⟨a, xs, ds, rfl, ea, hds, hdl, fun ps hps r as H1 s1 hr1 er hP => ?_, fun hn H1 s1 => qe ?_ H1 s1⟩⟩
  rotate_left
  · show (match runG (partD true) false ds with | some ps => if endsOk ps then some ps else none | none => none) = none
    rw [hn]
  dsimp only [gName, List.set_cons_succ, List.set_cons_zero]
  have hlen := hP.len
  have hP1 := hP.same dif_same
  have hnorm : normD (.list ds) = if endsOk ps then some ps else none := by
    show (match runG (partD true) false ds with | some ps => if endsOk ps then some ps else none | none => none) = _
    rw [hps]
  rcases List.eq_nil_or_concat ps with hz | ⟨ps', pl, hz⟩
  · subst hz
    have hz : as = [] := List.eq_nil_of_length_eq_zero hlen
    refine s_no1 (t_and false false (fun R k => t_ne0 (ev_v rfl) (SqL.of er) R fun H' s' => by rw [hz]; exact k H' s') (fun z => Bool.noConfusion z)) fun H2 s2 => ⟨_, rfl, q [] (by rw [hnorm]; rfl) r as H2 (s1.trans s2) hr1 (s2 _ _ er) (hP.same (dif_grow (Same.refl _) s2))⟩
  rw [List.concat_eq_append] at hz
  obtain ⟨p0, pr, hp0⟩ : ∃ p0 pr, ps = p0 :: pr := by
    cases ps with
    | nil => simp at hz
    | cons p0 pr => exact ⟨p0, pr, rfl⟩
  obtain ⟨a0, ar, ha0⟩ : ∃ a0 ar, as = a0 :: ar := by
    cases as with
    | nil => rw [hp0] at hlen; simp at hlen
    | cons a0 ar => exact ⟨a0, ar, rfl⟩
  obtain ⟨as', al, hal⟩ : ∃ as' al, as = as' ++ [al] := by
    rcases List.eq_nil_or_concat as with hz2 | ⟨as', al, hz2⟩
    · rw [hz2] at ha0; cases ha0
    · exact ⟨as', al, by rw [hz2, List.concat_eq_append]⟩
  have hA0 : PCAt c H1 a0 p0 := by
    obtain ⟨pp, h2, h3⟩ := hP1.get (i := 0) (a := a0) (by rw [ha0]; rfl)
    rw [hp0] at h2
    cases h2
    exact h3
  have hAl : PCAt c H1 al pl := by
    have h1 : as[as'.length]? = some al := by rw [hal, List.getElem?_append_right (Nat.le_refl _), Nat.sub_self]; rfl
    obtain ⟨pp, h2, h3⟩ := hP1.get h1
    have h4 : as'.length = ps'.length := by rw [hal, hz, List.length_append, List.length_append] at hlen; simpa using hlen
    rw [hz, h4, List.getElem?_append_right (Nat.le_refl _), Nat.sub_self] at h2
    cases h2
    exact h3
  have hends : endsOk ps = (!begB p0 && !endB pl) := by rw [hp0]; exact ends_cons p0 pr (by rw [← hp0]; exact hz)
  have hT : Tells (tAnd (tTest (tOp (rEq0 K true) (tVar 1) (tLst tNil))) (tOr (tB (tCall (spBlank c begB) [] E0 (tCons (tOp (rIxL K) (tVar 1) (tC (.int 0))) tNil))) (tB (tCall (spBlank c endB) [] E0 (tCons (tOp (rIxL K) (tVar 1) (tUn (rU fun i => .int (-i)) (tC (.int 1)))) tNil))))) [some (.ref a), some (.ref r)] H1 (true && (begB p0 || endB pl)) := by
    refine t_and true _ (fun R k => t_ne0 (ev_v rfl) (SqL.of er) R fun H' s' => by rw [ha0]; exact k H' s') (fun _ H2 s2 => t_or _ _ (fun R k => ?_) (fun _ H3 s3 R k => ?_))
    · exact ⟨_, rfl, r, _, _, _, rfl, rfl, SqL.of (s2 _ _ er), atI_nat (j := 0) (by rw [ha0]; rfl), a0, p0, rfl, hA0.same s2, _, rfl, k _ (Same.refl _)⟩
    · exact ⟨_, rfl, _, rfl, r, _, _, _, rfl, rfl, SqL.of ((s2.trans s3) _ _ er), (by rw [hal, List.map_append]; exact atI_last _ _), al, pl, rfl, hAl.same (s2.trans s3), _, rfl, k _ (Same.refl _)⟩
  by_cases hb : (begB p0 || endB pl) = true
  · refine s_yes (hT.eq (by rw [hb]; rfl)) fun H2 s2 => ⟨big (show (1 : Nat) ≤ 1000000 by decide), qe ?_ H2 (s1.trans s2)⟩
    rw [hnorm, if_neg]
    rw [hends, ← Bool.not_or, hb]
    simp
  · have hb := Bool.eq_false_iff.mpr hb
    refine s_no1 (hT.eq (by rw [hb]; rfl)) fun H2 s2 => ⟨_, rfl, q ps ?_ r as H2 (s1.trans s2) hr1 (s2 _ _ er) (hP.same (dif_grow (Same.refl _) s2))⟩
    rw [hnorm, if_pos]
    rw [hends, ← Bool.not_or, hb]
    rfl
end
end K7

set_option Elab.async false
set_option linter.all false
set_option maxRecDepth 100000
set_option maxHeartbeats 2000000
namespace K7
open PySem L2 Lm Lw PySem.Builtin.Int
structure TxL (mg : Str → Option Value) : Prop where
  n_len : mg "len" = none
  n_range : mg "range" = none
  n_int : mg "int" = none
abbrev vI (ns : List Int) : List V := ns.map V.int
theorem bits64 {i : Int} (h1 : -(2 ^ 64) < i) (h2 : i < 2 ^ 64) : intBits i ≤ 1048576 := Nat.le_trans (intBits_le_64 h1 h2) (by decide)
section
variable {P : Program} {w : World} {K : PySem.W.Frag} {mg : Str → Option Value} {base : Heap}
abbrev sCell : Stmt := top 32
theorem scCell : FnScope ["_law_script", "_law_k"] ["_law_script", "_law_k"] (defScope sCell) := ⟨rfl, rfl, rfl, by decide +kernel, rfl, by decide +kernel, by decide +kernel⟩
def spCell (K : PySem.W.Frag) : Sp := fun vs H Q _ => ∃ (a : Addr) (ns : List Int) (k : Int), vs = [.ref a, .int k] ∧ 0 ≤ k ∧ SqL K H a (vI ns) ∧ (∀ n ∈ ns, intBits n ≤ 1048576) ∧ ∀ i, intBits i ≤ 1048576 → Q (.int i) H
theorem ok_cell {f : Addr} {fd : FuncData} (F : Fun K "_law_cell" "_law_cell" sCell f fd) (T : TxL mg) : FnOk P w K mg base CX0 1 f fd ["_law_script", "_law_k"] (spCell K) := by
  have sc := scCell
  refine F.ok sc (fun vs H Q E h => ?_) (fun cdv A outer s H vs Q E hr h => ?_)
  · obtain ⟨a, ns, k, rfl, _⟩ := h
    rfl
  obtain ⟨a, ns, k, rfl, k0, hq, hn, q⟩ := h
  refine of_XB (xbc (xif (xcmpT op_lt (xv 1) (xcB call_len_seq T.n_len PySem.boot_len (xac (xv 0) xa0)) (nomark _)) (xb1 (xret (xix ix_list (xv 0) (xv 1) (fun _ _ => rfl)))) xb0)
    (xb1 (xret xint))) ?_
  refine ⟨_, rfl, _, rfl, a, _, rfl, .inl hq, _, _, rfl, rfl, _, rfl, ?_⟩
  rw [List.length_map]
  refine ite2 (fun c => ?_) (fun _ => q 0 (by decide))
  have c := of_decide_eq_true c
  obtain ⟨j, rfl⟩ : ∃ j : Nat, k = (j : Int) := ⟨k.toNat, (Int.toNat_of_nonneg k0).symm⟩
  have hk : j < ns.length := by omega
  exact ⟨_, rfl, _, rfl, a, _, _, .int ns[j], rfl, rfl, hq, atI_nat (by rw [List.getElem?_map, List.getElem?_eq_getElem hk]; rfl), q _ (hn _ (List.getElem_mem hk))⟩
abbrev sMixed : Stmt := top 33
theorem scMixed : FnScope ["_law_cell_here", "_law_k", "_law_number"] ["_law_cell_here", "_law_k"] (defScope sMixed) := ⟨rfl, rfl, rfl, by decide +kernel, rfl, by decide +kernel, by decide +kernel⟩
def spMixed : Sp := fun vs H Q _ => ∃ c k : Int, vs = [.int c, .int k] ∧ intBits c ≤ 1048576 ∧ 0 ≤ k ∧ k ≤ 10000 ∧ Q (.int (mixF c k)) H
theorem ok_mixed {f : Addr} {fd : FuncData} (F : Fun K "_law_mixed" "_law_mixed" sMixed f fd) : FnOk P w K mg base CX0 1 f fd ["_law_cell_here", "_law_k"] spMixed := by
  have sc := scMixed
  refine F.ok sc (fun vs H Q E h => ?_) (fun cdv A outer s H vs Q E hr h => ?_)
  · obtain ⟨c, k, rfl, _⟩ := h
    rfl
  obtain ⟨c, k, rfl, hc, h0, h1, q⟩ := h
  refine of_XB (xbc (xset (i := 2) sc.nd rfl (Or.inl rfl) (xop op_add (xop op_add (xop op_add (xv 0) (xop op_mul (xop op_mul xint (xv 1)) (xv 1))) (xop op_mul xint (xv 1))) xint))
    (xb1 (xret (xop op_fdiv (xop op_mod (xop op_mul (xop op_mod (xop op_mulB (xv 2) (xv 2)) xint) xint) xint) xint)))) ?_
  have hk2 : 0 ≤ 7919 * k * k ∧ 7919 * k * k ≤ 791900000000 := by
    constructor
    · exact Int.mul_nonneg (by omega) h0
    · calc 7919 * k * k ≤ 79190000 * 10000 := Int.mul_le_mul (by omega) h1 h0 (by omega)
        _ = 791900000000 := rfl
  have hn : intBits (c + 7919 * k * k + 13 * k + 5) ≤ 1048580 := by
    have h2 := intBits_add_le (intBits_add_le (intBits_add_le hc (intBits_le_64 (k := 7919 * k * k) (by omega) (by omega))) (intBits_le_64 (k := 13 * k) (by omega) (by omega))) (intBits_le_64 (k := 5) (by omega) (by omega))
    exact Nat.le_trans h2 (by decide)
  refine ⟨_, rfl, _, rfl, _, _, rfl, rfl, .inl ⟨by decide, by decide⟩, _, rfl, _, _, rfl, rfl, .inr ⟨by omega, by omega⟩, _, _, rfl, rfl, _, rfl, _, _, rfl, rfl, .inl ⟨by decide, by decide⟩, _, _, rfl, rfl, _, _, rfl, rfl, ?_⟩
  refine ⟨_, rfl, _, rfl, _, _, rfl, rfl, IntMulOk.of_le hn hn (by decide), _, _, rfl, rfl, show (0 : Int) < 1000000007 by decide, _, _, rfl, rfl, .inr ⟨by decide, by decide⟩, _, _, rfl, rfl, show (0 : Int) < 998244353 by decide, _, _, rfl, rfl, ⟨by decide, by decide⟩, q⟩
abbrev sMenu : Stmt := top 34
theorem scMenu : FnScope ["_law_kind_here", "_law_letters", "_law_marks"] ["_law_kind_here"] (defScope sMenu) := ⟨rfl, rfl, rfl, by decide +kernel, rfl, by decide +kernel, by decide +kernel⟩
def spMenu : Sp := fun vs H Q _ => ∃ k : Int, vs = [.int k] ∧ ∀ H', Same H H' → Q (vS (menuF k)) H'
theorem ok_menu {f : Addr} {fd : FuncData} (F : Fun K "_law_menu" "_law_menu" sMenu f fd) : FnOk P w K mg base CX0 1 f fd ["_law_kind_here"] spMenu := by
  have sc := scMenu
  refine F.ok sc (fun vs H Q E h => ?_) (fun cdv A outer s H vs Q E hr h => ?_)
  · obtain ⟨k, rfl, _⟩ := h
    rfl
  obtain ⟨k, rfl, q⟩ := h
  refine of_XB (xbc (xset (i := 1) sc.nd rfl (Or.inl rfl) xstr)
    (xbc (xset (i := 2) sc.nd rfl (Or.inl rfl) xstr)
    (xb1 (xret (xix ix_list (xlst (xac (xv 1) (xac (xop op_add_str (xv 2) xstr) (xac (xop op_add_str (xop op_add_str (xv 1) (xv 2)) xstr) xa0)))) (xop op_mod (xv 0) xint) (fun _ _ => rfl)))))) ?_
  have hs : sizeLine = 16777216 := sizeLine_eq
  refine ⟨_, rfl, _, rfl, _, _, rfl, rfl, by rw [hs]; decide +kernel, _, rfl, _, rfl, _, _, rfl, rfl, by rw [hs]; decide +kernel, _, _, rfl, rfl, by rw [hs]; decide +kernel, big (show (3 : Nat) ≤ 1000000 by decide), fun p hp => ?_⟩
  have e1 : V.str (Str.ofString "abcdefghijklmnopqrstuvwxyzABCDEFGHIJKLMNOPQRSTUVWXYZ0123456789") = vS mnLet := by decide +kernel
  have e2 : V.str (Str.ofString "\\*`[]|-+=>~:^()" ++ Str.ofString "ab") = vS (mnMark ++ [97, 98]) := by decide +kernel
  have e3 : V.str (Str.ofString "abcdefghijklmnopqrstuvwxyzABCDEFGHIJKLMNOPQRSTUVWXYZ0123456789" ++ Str.ofString "\\*`[]|-+=>~:^()" ++ Str.ofString "!\"#$&',./;<?@_{}") = vS (mnLet ++ mnMark ++ mnMore) := by decide +kernel
  have hm := Int.emod_nonneg k (show (3 : Int) ≠ 0 by decide)
  have hm2 := Int.emod_lt_of_pos k (show (0 : Int) < 3 by decide)
  refine ⟨_, rfl, _, _, rfl, rfl, show (0 : Int) < 3 by decide, p, _, k % 3, vS (menuF k), rfl, rfl, SqL.of upd_same, ?_, q _ (same_new hp _)⟩
  unfold menuF
  rcases (show k % 3 = 0 ∨ k % 3 = 1 ∨ k % 3 = 2 by omega) with z | z | z
  · rw [z, if_pos rfl]; exact atI_nat (j := 0) (congrArg some e1)
  · rw [z, if_neg (by decide), if_pos rfl]; exact atI_nat (j := 1) (congrArg some e2)
  · rw [z, if_neg (by decide), if_neg (by decide)]; exact atI_nat (j := 2) (congrArg some e3)
abbrev sSigns : Stmt := top 35
theorem scSigns : FnScope ["_law_number", "_law_size", "_law_menu_here", "_law_found", "_law_turn"] ["_law_number", "_law_size", "_law_menu_here"] (defScope sSigns) := ⟨rfl, rfl, rfl, by decide +kernel, rfl, by decide +kernel, by decide +kernel⟩
def spSigns : Sp := fun vs H Q _ => ∃ (n size : Int) (m : List Nat), vs = [.int n, .int size, vS m] ∧ Menu m ∧ 0 ≤ size ∧ size ≤ 1000 ∧ 0 ≤ n ∧ n ≤ 4294967296 ∧ Q (vS (signsF n size m)) H
theorem ok_signs {f : Addr} {fd : FuncData} (F : Fun K "_law_signs" "_law_signs" sSigns f fd) (T : TxL mg) : FnOk P w K mg base CX0 1 f fd ["_law_number", "_law_size", "_law_menu_here"] spSigns := by
  have sc := scSigns
  refine F.ok sc (fun vs H Q E h => ?_) (fun cdv A outer s H vs Q E hr h => ?_)
  · obtain ⟨n, size, m, rfl, _⟩ := h
    rfl
  obtain ⟨n, size, m, rfl, hm, s0, s1, n0, n1, q⟩ := h
  refine of_XB (xbc (xset (i := 3) sc.nd rfl (Or.inl rfl) xstr)
    (xbc (xfor PassesOwn.never rfl (xir1 rfl T.n_range (xac (xv 1) xa0)) (xgn (i := 4) sc.nd rfl (Or.inl rfl))
    (xbc (xset (i := 0) sc.nd rfl (Or.inl rfl) (xop op_mod (xop op_add (xop op_add (xop op_mul (xv 0) xint) (xop op_mul (xop op_mul xint (xv 4)) (xv 4))) xint) xint))
    (xb1 (xset (i := 3) sc.nd rfl (Or.inl rfl) (xop op_add_str (xv 3) (xix ix_str (xv 2) (xop op_mod (xop op_fdiv (xv 0) xint) (xcB call_len_str T.n_len PySem.boot_len (xac (xv 2) xa0))) (fun _ _ => rfl)))))))
    (xb1 (xret (xv 3))))) ?_
  have hs : sizeLine = 16777216 := sizeLine_eq
  rw [show start ["_law_number", "_law_size", "_law_menu_here", "_law_found", "_law_turn"] [V.int n, V.int size, vS m] = [some (V.int n), some (V.int size), some (vS m), none, none] from rfl]
  obtain ⟨sz, rfl⟩ : ∃ sz : Nat, size = (sz : Int) := ⟨size.toNat, (Int.toNat_of_nonneg s0).symm⟩
  refine ⟨_, rfl, _, rfl, by omega, by omega, ?_⟩
  rw [Int.toNat_natCast]
  have hbd : ∀ t : Nat, 0 ≤ (sgGo m n t).1 ∧ (sgGo m n t).1 ≤ 4294967296 := fun t => by
    cases t with
    | zero => exact ⟨n0, n1⟩
    | succ t =>
      have h1 := Int.emod_nonneg ((sgGo m n t).1 * 48271 + 7 * (t : Int) * (t : Int) + 11) (show (2147483647 : Int) ≠ 0 by decide)
      have h2 := Int.emod_lt_of_pos ((sgGo m n t).1 * 48271 + 7 * (t : Int) * (t : Int) + 11) (show (0 : Int) < 2147483647 by decide)
      show 0 ≤ sgStep t (sgGo m n t).1 ∧ sgStep t (sgGo m n t).1 ≤ 4294967296
      unfold sgStep
      omega
  have hml := hm.2.1
  refine for_range (n := sz) (fun t σ H' => ∃ x4, σ = [some (.int (sgGo m n t).1), some (.int (sz : Nat)), some (vS m), some (vS (sgGo m n t).2), x4] ∧ H' = H) ⟨none, rfl, rfl⟩ ?_ ?_
  · rintro t σ H' ht ⟨x4, rfl, rfl⟩
    obtain ⟨b1, b2⟩ := hbd t
    obtain ⟨l1, l2⟩ := sgGo_ok hm n t
    have ht2 : 0 ≤ 7 * (t : Int) * (t : Int) := Int.mul_nonneg (by omega) (by omega)
    refine ⟨_, rfl, _, _, rfl, rfl, .inr ⟨by decide, by decide⟩, _, rfl, _, _, rfl, rfl, .inl ⟨by decide, by decide⟩, _, rfl, _, _, rfl, rfl, .inr ⟨by omega, by omega⟩, _, _, rfl, rfl, _, _, rfl, rfl, _, _, rfl, rfl, show (0 : Int) < 2147483647 by decide, ?_⟩
    dsimp only [gName, List.set_cons_succ, List.set_cons_zero]
    rw [show ((sgGo m n t).1 * 48271 + 7 * (0 + (t : Int)) * (0 + (t : Int)) + 11) % 2147483647 = sgStep t (sgGo m n t).1 by rw [Int.zero_add]; rfl]
    have hat := sg_at hm (sgStep t (sgGo m n t).1 / 13)
    have evI : Ev (tOp rIxS (tVar 2) (tOp (rI (fun _ j => 0 < j) fun i j => .int (i % j)) (tOp (rI CDiv fun i j => .int (i / j)) (tVar 0) (tC (.int 13))) (tCB (fun xs H Q => ∃ z, xs = [.str z] ∧ z.length ≤ sizeLine ∧ Q (.int z.length) H) (tCons (tVar 2) tNil)))) [some (.int (sgStep t (sgGo m n t).1)), some (.int (sz : Nat)), some (vS m), some (vS (sgGo m n t).2), some (.int (0 + (t : Int)))] H' (vS [m.getD (sgStep t (sgGo m n t).1 / 13 % (m.length : Int)).toNat 0]) := by
      intro R r
      refine ⟨_, rfl, _, rfl, _, _, rfl, rfl, ⟨by decide, by decide⟩, _, rfl, _, rfl, bigS (by omega), _, _, rfl, rfl, by rw [S_len]; have := hm.1; omega, ?_⟩
      rw [S_len]
      exact w_ixs (by omega) hat.1 (by omega) r
    refine ⟨_, rfl, evI _ ⟨_, _, rfl, rfl, ?_, ?_⟩⟩
    · rw [S_len, S_len, hs]; show _ + 1 ≤ _; omega
    · rw [catS]
      exact ⟨_, rfl, rfl⟩
  · rintro σ H' ⟨x4, rfl, rfl⟩
    exact ⟨_, rfl, q⟩
abbrev sText : Stmt := top 36
theorem scText : FnScope ["_law_number", "_law_most", "_law_words", "_law_turn", "_law_own"] ["_law_number", "_law_most"] (defScope sText) := ⟨rfl, rfl, rfl, by decide +kernel, rfl, by decide +kernel, by decide +kernel⟩
def spText : Sp := fun vs H Q _ => ∃ n most : Int, vs = [.int n, .int most] ∧ 0 ≤ n ∧ n ≤ 4294967296 ∧ 1 ≤ most ∧ most ≤ 100 ∧ ∀ H', Same H H' → Q (vS (textF n most)) H'
theorem ok_text {f : Addr} {fd : FuncData} (F : Fun K "_law_text" "_law_text" sText f fd) (T : TxL mg) (D_l_mixed : Def P w K mg base 1 "_law_mixed" ["_law_cell_here", "_law_k"] spMixed) (D_l_menu : Def P w K mg base 1 "_law_menu" ["_law_kind_here"] spMenu) (D_l_signs : Def P w K mg base 1 "_law_signs" ["_law_number", "_law_size", "_law_menu_here"] spSigns) :
    FnOk P w K mg base CX0 2 f fd ["_law_number", "_law_most"] spText := by
  have sc := scText
  refine F.ok sc (fun vs H Q E h => ?_) (fun cdv A outer s H vs Q E hr h => ?_)
  · obtain ⟨n, most, rfl, _⟩ := h
    rfl
  obtain ⟨n, most, rfl, n0, n1, m0, m1, q⟩ := h
  refine of_XB (xbc (xset (i := 2) sc.nd rfl (Or.inl rfl) (xlst xa0))
    (xbc (xfor PassesOwn.never rfl (xir1 rfl T.n_range (xac (xop op_add xint (xop op_mod (xv 0) (xv 1))) xa0)) (xgn (i := 3) sc.nd rfl (Or.inl rfl))
    (xbc (xset (i := 4) sc.nd rfl (Or.inl rfl) (xcD D_l_mixed (hr.mono (by omega)) (xac (xv 0) (xac (xop op_add (xop op_mul xint (xv 3)) xint) xa0))))
    (xb1 (xexpr (xm PySem.F.plainAttrs_list PySem.F.slot_list_append PySem.F.type_list_append mt_append (xv 2) (xac (xcD D_l_signs (hr.mono (by omega)) (xac (xv 4) (xac (xop op_add xint (xop op_mod (xop op_fdiv (xv 4) xint) xint)) (xac (xcD D_l_menu (hr.mono (by omega)) (xac (xop op_fdiv (xv 4) xint) xa0)) xa0)))) xa0))))))
    (xb1 (xret (xm PySem.F.plainAttrs_str PySem.F.slot_str_join PySem.F.type_str_join mt_join xstr (xac (xv 2) xa0)))))) ?_
  have hs : sizeLine = 16777216 := sizeLine_eq
  rw [show start ["_law_number", "_law_most", "_law_words", "_law_turn", "_law_own"] [V.int n, V.int most] = [some (V.int n), some (V.int most), none, none, none] from rfl]
  have hm := Int.emod_nonneg n (show most ≠ 0 by omega)
  have hm2 := Int.emod_lt_of_pos n (show 0 < most by omega)
  refine ⟨big (show (0 : Nat) ≤ 1000000 by decide), fun p hp => ?_⟩
  have s1 := same_new hp (.lst [])
  have ep1 : upd H p (.lst []) p = some (.lst []) := upd_same
  dsimp only [gName, List.set_cons_succ, List.set_cons_zero]
  generalize upd H p (.lst []) = H1 at s1 ep1 ⊢
  refine ⟨_, rfl, _, rfl, _, _, rfl, rfl, show (0 : Int) < most by omega, _, _, rfl, rfl, _, rfl, by omega, by omega, ?_⟩
  obtain ⟨cnt, hcnt⟩ : ∃ cnt : Nat, cnt = (1 + n % most).toNat := ⟨_, rfl⟩
  rw [← hcnt]
  refine for_range (n := cnt) (fun t σ H' => ∃ x3 x4, σ = [some (.int n), some (.int most), some (.ref p), x3, x4] ∧ Same H H' ∧ H' p = some (.lst (((List.range t).map (wordF n)).map vS))) ⟨none, none, rfl, s1, ep1⟩ ?_ ?_
  · rintro t σ H2 ht ⟨x3, x4, rfl, s2, ep2⟩
    have hmx := mixF_ok n (3 * (t : Int) + 1)
    refine ⟨_, rfl, _, rfl, _, _, rfl, rfl, .inl ⟨by decide, by decide⟩, _, _, rfl, rfl, n, 3 * (0 + (t : Int)) + 1, rfl, bits64 (by omega) (by omega), by omega, by omega, ?_⟩
    dsimp only [gName, List.set_cons_succ, List.set_cons_zero]
    rw [Int.zero_add, show mixF n (3 * (t : Int) + 1) = ownF n t from rfl]
    rw [show mixF n (3 * (t : Int) + 1) = ownF n t from rfl] at hmx
    have hw := word_ok n t
    refine ⟨_, rfl, .inl ⟨rfl, _, SqL.of ep2⟩, _, rfl, _, rfl, _, _, rfl, rfl, ⟨by decide, by decide⟩, _, _, rfl, rfl, show (0 : Int) < 6 by decide, _, _, rfl, rfl, _, rfl, _, _, rfl, rfl, ⟨by decide, by decide⟩, ownF n t / 50, rfl, fun H3 s3 => ?_⟩
    have ep3 := s3 _ _ ep2
    refine ⟨ownF n t, 1 + ownF n t / 7 % 6, menuF (ownF n t / 50), rfl, menu_ok _, by omega, by omega, by omega, by omega, p, _, _, rfl, rfl, ep3, by rw [List.length_map, List.length_map, List.length_range]; omega, ?_⟩
    refine ⟨_, _, rfl, same_grow (by
      cases e : H p with
      | none => rfl
      | some o => rw [e] at hp; cases hp) (s2.trans s3), ?_⟩
    rw [upd_same, List.range_succ, List.map_append, List.map_append]
    rfl
  · rintro σ H2 ⟨x3, x4, rfl, s2, ep2⟩
    have hl := (text_ok n most m0 m1).2
    refine ⟨rfl, _, rfl, S [32], p, ((List.range cnt).map (wordF n)).map S, rfl, rfl, SqL.of (by rw [ep2, map_S_V]), glue_fit (by unfold textF at hl; rw [← hcnt] at hl; omega), ?_⟩
    rw [joinT_S]
    have := q H2 s2
    unfold textF at this
    rw [← hcnt] at this
    exact this
abbrev sName7 : Stmt := top 37
theorem scName7 : FnScope ["_law_number", "_law_size", "_law_at"] ["_law_number"] (defScope sName7) := ⟨rfl, rfl, rfl, by decide +kernel, rfl, by decide +kernel, by decide +kernel⟩
def spName7 : Sp := fun vs H Q _ => ∃ n : Int, vs = [.int n] ∧ 0 ≤ n ∧ n ≤ 4294967296 ∧ ∀ H', Same H H' → Q (vS (nameF n)) H'
theorem ok_name7 {f : Addr} {fd : FuncData} (F : Fun K "_law_name" "_law_name" sName7 f fd) (T : TxL mg) (D_l_menu : Def P w K mg base 1 "_law_menu" ["_law_kind_here"] spMenu) (D_l_signs : Def P w K mg base 1 "_law_signs" ["_law_number", "_law_size", "_law_menu_here"] spSigns) :
    FnOk P w K mg base CX0 2 f fd ["_law_number"] spName7 := by
  have sc := scName7
  refine F.ok sc (fun vs H Q E h => ?_) (fun cdv A outer s H vs Q E hr h => ?_)
  · obtain ⟨n, rfl, _⟩ := h
    rfl
  obtain ⟨n, rfl, n0, n1, q⟩ := h
  refine of_XB (xbc (xset (i := 1) sc.nd rfl (Or.inl rfl) (xop op_add xint (xop op_mod (xop op_fdiv (xv 0) xint) xint)))
    (xbc (xif (xcmpT op_eq (xop op_mod (xv 0) xint) xint (nomark _)) (xb1 (xret (xcD D_l_signs (hr.mono (by omega)) (xac (xop op_fdiv (xv 0) xint) (xac (xv 1) (xac (xcD D_l_menu (hr.mono (by omega)) (xac xint xa0)) xa0)))))) xb0)
    (xbc (xset (i := 2) sc.nd rfl (Or.inl rfl) (xop op_mod (xop op_fdiv (xv 0) xint) (xv 1)))
    (xb1 (xret (xop op_add_str (xop op_add_str (xop op_mulS xstr (xv 2)) (xcD D_l_signs (hr.mono (by omega)) (xac (xop op_fdiv (xv 0) xint) (xac xint (xac (xcD D_l_menu (hr.mono (by omega)) (xac xint xa0)) xa0))))) (xop op_mulS xstr (xop op_sub (xop op_sub (xv 1) xint) (xv 2))))))))) ?_
  have hs : sizeLine = 16777216 := sizeLine_eq
  rw [show start ["_law_number", "_law_size", "_law_at"] [V.int n] = [some (V.int n), none, none] from rfl]
  refine ⟨_, rfl, _, _, rfl, rfl, ⟨by decide, by decide⟩, _, _, rfl, rfl, show (0 : Int) < 12 by decide, _, _, rfl, rfl, ?_⟩
  dsimp only [gName, List.set_cons_succ, List.set_cons_zero]
  have hz : 1 ≤ 1 + n / 3 % 12 ∧ 1 + n / 3 % 12 ≤ 12 := by omega
  have hmenu : menuF 0 = mnLet := rfl
  by_cases h3 : n % 3 = 0
  · refine s_yes (fun R k => ⟨_, rfl, _, _, rfl, rfl, show (0 : Int) < 3 by decide, rfl, _, rfl, ?_⟩) fun H1 s1 => ?_
    · rw [decide_eq_true (congrArg V.int h3)]
      exact k _ (Same.refl _)
    · refine ⟨_, rfl, _, _, rfl, rfl, ⟨by decide, by decide⟩, _, rfl, 0, rfl, fun H2 s2 => ⟨n / 40, 1 + n / 3 % 12, mnLet, rfl, menu_let, by omega, by omega, by omega, by omega, ?_⟩⟩
      have := q H2 (s1.trans s2)
      unfold nameF at this
      rw [if_pos h3] at this
      exact this
  · refine s_no1 (fun R k => ⟨_, rfl, _, _, rfl, rfl, show (0 : Int) < 3 by decide, rfl, _, rfl, ?_⟩) fun H1 s1 => ?_
    · rw [decide_eq_false (fun z => h3 (V.int.inj z))]
      exact k _ (Same.refl _)
    generalize hsz : 1 + n / 3 % 12 = size at hz ⊢
    have hm := Int.emod_nonneg (n / 40) (show size ≠ 0 by omega)
    have hm2 := Int.emod_lt_of_pos (n / 40) (show 0 < size by omega)
    refine ⟨_, rfl, _, _, rfl, rfl, ⟨by decide, by decide⟩, _, rfl, _, _, rfl, rfl, show 0 < size by omega, ?_⟩
    dsimp only [gName, List.set_cons_succ, List.set_cons_zero]
    obtain ⟨at_, hat⟩ : ∃ at_ : Nat, n / 40 % size = (at_ : Int) := ⟨_, (Int.toNat_of_nonneg hm).symm⟩
    have hsg := (signs_ok menu_let (n / 500) 1 (by omega)).2
    refine ⟨_, rfl, _, _, rfl, rfl, by decide, by rw [hat]; omega, by rw [hat]; omega, _, rfl, _, _, rfl, rfl, ⟨by decide, by decide⟩, 0, rfl, fun H2 s2 => ⟨n / 500, 1, mnLet, rfl, menu_let, by omega, by omega, by omega, by omega, _, _, rfl, rfl, ?_, _, rfl, _, _, rfl, rfl, _, rfl, _, _, rfl, rfl, _, _, rfl, rfl, by decide, by rw [hat]; omega, by rw [hat]; omega, _, _, rfl, rfl, ?_, ?_⟩⟩
    · rw [hat, show Txt.mul (Str.ofString "n") (at_ : Int) = S (List.replicate at_ 110) from mul_S 110 at_, S_len, S_len, List.length_replicate, hsg, hs]
      omega
    · rw [hat, show Txt.mul (Str.ofString "n") (at_ : Int) = S (List.replicate at_ 110) from mul_S 110 at_, S_app, S_len, List.length_append, List.length_replicate, hsg, hs]
      rw [show size - 1 - (at_ : Int) = ((size - 1 - at_).toNat : Nat) by omega, show Txt.mul (Str.ofString "n") (((size - 1 - (at_ : Int)).toNat : Nat) : Int) = S (List.replicate (size - 1 - at_).toNat 110) from mul_S 110 _, S_len, List.length_replicate]
      omega
    · have := q H2 (s1.trans s2)
      unfold nameF at this
      rw [if_neg h3, hsz, hat, Int.toNat_natCast, show ∀ a b c : List Nat, vS (a ++ b ++ c) = V.str (S a ++ S b ++ S c) from fun a b c => by rw [S_app, S_app]] at this
      rw [hat, show Txt.mul (Str.ofString "n") (at_ : Int) = S (List.replicate at_ 110) from mul_S 110 at_]
      rw [show size - 1 - (at_ : Int) = ((size - 1 - at_).toNat : Nat) by omega, show Txt.mul (Str.ofString "n") (((size - 1 - (at_ : Int)).toNat : Nat) : Int) = S (List.replicate (size - 1 - at_).toNat 110) from mul_S 110 _]
      exact this
abbrev sEnds : Stmt := top 38
theorem scEnds : FnScope ["_law_signs_here", "_law_number"] ["_law_signs_here", "_law_number"] (defScope sEnds) := ⟨rfl, rfl, rfl, by decide +kernel, rfl, by decide +kernel, by decide +kernel⟩
def spEnds : Sp := fun vs H Q _ => ∃ (l : List Nat) (n : Int), vs = [vS l, .int n] ∧ l.length ≤ 10000 ∧ Q (vS (endsF l n)) H
theorem mul1 (b : Bool) : Txt.mul (Str.ofString " ") (if b then 1 else 0) = S (if b then [32] else []) := by
  cases b
  · exact mul_S 32 0
  · exact mul_S 32 1
theorem ok_ends {f : Addr} {fd : FuncData} (F : Fun K "_law_ends" "_law_ends" sEnds f fd) (T : TxL mg) : FnOk P w K mg base CX0 1 f fd ["_law_signs_here", "_law_number"] spEnds := by
  have sc := scEnds
  refine F.ok sc (fun vs H Q E h => ?_) (fun cdv A outer s H vs Q E hr h => ?_)
  · obtain ⟨l, n, rfl, _⟩ := h
    rfl
  obtain ⟨l, n, rfl, hl, q⟩ := h
  refine of_XB (xb1 (xret (xop op_add_str (xop op_add_str (xop op_mulS xstr (xcTy call_int1 T.n_int rfl (xac (xcmp op_eq (xop op_mod (xv 1) xint) xint (nomark _)) xa0))) (xv 0)) (xop op_mulS xstr (xcTy call_int1 T.n_int rfl (xac (xcmp op_eq (xop op_mod (xop op_fdiv (xv 1) xint) xint) xint (nomark _)) xa0)))))) ?_
  have hs : sizeLine = 16777216 := sizeLine_eq
  have hb : ∀ b : Bool, 0 ≤ (if b then (1 : Int) else 0) ∧ (if b then (1 : Int) else 0) ≤ 1000 := fun b => by cases b <;> decide
  have hbl : ∀ b : Bool, (if b then [32] else [] : List Nat).length ≤ 1 := fun b => by cases b <;> decide
  have hd : ∀ i j : Int, decide (V.int i = V.int j) = decide (i = j) := fun i j => by rw [decide_eq_decide]; exact ⟨V.int.inj, congrArg V.int⟩
  refine ⟨_, rfl, _, _, rfl, rfl, show (0 : Int) < 4 by decide, rfl, .inr ⟨_, rfl, _, _, rfl, rfl, by decide, (hb _).1, (hb _).2, _, rfl, _, _, rfl, rfl, ?_, _, rfl, _, _, rfl, rfl, ⟨by decide, by decide⟩, _, _, rfl, rfl, show (0 : Int) < 4 by decide, rfl, .inr ⟨_, rfl, _, _, rfl, rfl, by decide, (hb _).1, (hb _).2, _, _, rfl, rfl, ?_, ?_⟩⟩⟩
  · dsimp only
    rw [mul1, S_len, S_len, hs]
    have := hbl (decide (V.int (n % 4) = V.int 1))
    omega
  · dsimp only
    rw [mul1, mul1, S_app, S_len, S_len, hs, List.length_append]
    have := hbl (decide (V.int (n % 4) = V.int 1))
    have := hbl (decide (V.int (n / 4 % 4) = V.int 1))
    omega
  · dsimp only
    rw [mul1, mul1, hd, hd]
    unfold endsF at q
    rw [S_app, S_app]
    simpa only [decide_eq_true_eq] using q
end
end K7

set_option Elab.async false
set_option linter.all false
set_option maxRecDepth 100000
set_option maxHeartbeats 4000000
namespace K7
open PySem L2 Lm Lw PySem.Builtin.Int
def outD (inner : Bool) (n : Int) (before : Str) : PyData := if inner then d1 (innerF n before) else dP (partF n before)
def outsD (inner : Bool) (n : Int) (size : Nat) : List PyData := if inner then (inF n size).map d1 else (partsF n size).map dP
def spPart7 (inner : Bool) : Sp := fun vs H Q _ => ∃ (n : Int) (before : Str), vs = [.int n, .str before, .bl inner] ∧ 0 ≤ n ∧ n ≤ 4294967296 ∧ ∀ t xs H', Same H H' → H t = none → H' t = some (.tup xs) → DnAll (dif H H') xs (match outD inner n before with | .tuple ds => ds | _ => []) → Q (.ref t) H'
def spParts7 (inner : Bool) : Sp := fun vs H Q _ => ∃ (n size : Int), vs = [.int n, .int size, .bl inner] ∧ 0 ≤ n ∧ n ≤ 4294967296 ∧ 1 ≤ size ∧ size ≤ 100 ∧ ∀ r xs H', Same H H' → H r = none → H' r = some (.lst xs) → Offs (fun b => b = r ∨ H b ≠ none) H' xs (outsD inner n size.toNat) → Q (.ref r) H'
section
variable {P : Program} {w : World} {K : PySem.W.Frag} {mg : Str → Option Value} {base : Heap}
abbrev sPart7 : Stmt := top 39
theorem scPart7 : FnScope ["_law_number", "_law_before", "_law_is_inner", "_law_kind_here", "_law_more", "_law_signs_here"] ["_law_number", "_law_before", "_law_is_inner"] (defScope sPart7) := ⟨rfl, rfl, rfl, by decide +kernel, rfl, by decide +kernel, by decide +kernel⟩
theorem ok_part7 {f : Addr} {fd : FuncData} {m : Nat} {inner : Bool} {spP : Sp} (F : Fun K "_law_part" "_law_part" sPart7 f fd) (T : TxL mg) (D_l_mixed : Def P w K mg base 1 "_law_mixed" ["_law_cell_here", "_law_k"] spMixed) (D_l_text : Def P w K mg base 2 "_law_text" ["_law_number", "_law_most"] spText)
    (D_l_name : Def P w K mg base 2 "_law_name" ["_law_number"] spName7) (D_l_ends : Def P w K mg base 1 "_law_ends" ["_law_signs_here", "_law_number"] spEnds) (D_l_parts : Def P w K mg base m "_law_parts" ["_law_number", "_law_size", "_law_is_inner"] spP) (hP : inner = false → ∀ vs H Q E, spParts7 true vs H Q E → spP vs H Q E) :
    FnOk P w K mg base CX0 (m + 3) f fd ["_law_number", "_law_before", "_law_is_inner"] (spPart7 inner) := by
  have sc := scPart7
  refine F.ok sc (fun vs H Q E h => ?_) (fun cdv A outer s H vs Q E hr h => ?_)
  · obtain ⟨n, before, rfl, _⟩ := h
    rfl
  obtain ⟨n, before, rfl, n0, n1, q⟩ := h
  refine of_XB (xbc (xset (i := 3) sc.nd rfl (Or.inl rfl) (xix ix_list (xlst (xac xstr (xac xstr (xac xstr (xac xstr (xac xstr (xac xstr xa0))))))) (xop op_mod (xv 0) xint) (fun _ _ => rfl)))
    (xbc (xset (i := 4) sc.nd rfl (Or.inl rfl) (xop op_fdiv (xv 0) xint))
    (xbc (xif (xor (xand (xvalT (xv 2)) (xand1 (xcmpT op_eq (xv 3) xstr (nomark _)))).xt (xor1 (xand (xcmpT op_eq (xv 1) xstr (nomark _)) (xand1 (xcmpT op_eq (xv 3) xstr (nomark _)))).xt)).xt (xb1 (xset (i := 3) sc.nd rfl (Or.inl rfl) (xix ix_list (xlst (xac xstr (xac xstr (xac xstr xa0)))) (xop op_mod (xv 4) xint) (fun _ _ => rfl)))) xb0)
    (xbc (xif (xcmpT op_eq (xv 3) xstr (nomark _)) (xb1 (xret (xtup (xac (xv 3) (xac (xm0 PySem.F.plainAttrs_str PySem.F.slot_str_lower PySem.F.type_str_lower mt_lower (xcD D_l_name (hr.mono (by omega)) (xac (xop op_fdiv (xv 4) xint) xa0))) xa0))))) xb0)
    (xbc (xif (xcmpT op_eq (xv 3) xstr (nomark _)) (xb1 (xret (xtup (xac (xv 3) (xac (xcD D_l_parts (hr.mono (by omega)) (xac (xcD D_l_mixed (hr.mono (by omega)) (xac (xv 4) (xac xint xa0))) (xac (xop op_add xint (xop op_mod (xv 4) xint)) (xac xbl xa0)))) xa0))))) xb0)
    (xbc (xset (i := 5) sc.nd rfl (Or.inl rfl) (xcD D_l_ends (hr.mono (by omega)) (xac (xcD D_l_text (hr.mono (by omega)) (xac (xcD D_l_mixed (hr.mono (by omega)) (xac (xv 4) (xac xint xa0))) (xac xint xa0))) (xac (xop op_fdiv (xv 4) xint) xa0))))
    (xbc (xif (xcmpT op_eq (xv 3) xstr (nomark _)) (xb1 (xret (xtup (xac (xv 3) (xac (xop op_add_str (xop op_mulS xstr (xcTy call_int1 T.n_int rfl (xac (xcmp op_eq (xop op_mod (xv 4) xint) xint (nomark _)) xa0))) (xv 5)) (xac (xm0 PySem.F.plainAttrs_str PySem.F.slot_str_lower PySem.F.type_str_lower mt_lower (xcD D_l_name (hr.mono (by omega)) (xac (xop op_fdiv (xv 4) xint) xa0))) xa0)))))) xb0)
    (xbc (xif (xcmpT op_eq (xv 3) xstr (nomark _)) (xb1 (xret (xtup (xac (xv 3) (xac (xrepl (xv 5) (by decide +kernel) (by decide +kernel)) xa0))))) xb0)
    (xbc (xif (xand (xcmpT op_eq (xv 1) xstr (nomark _)) (xand1 (xcmpT op_eq (xop op_mod (xv 4) xint) xint (nomark _)))).xt (xb1 (xret (xtup (xac (xv 3) (xac (xop op_add_str xstr (xv 5)) xa0))))) xb0)
    (xb1 (xret (xtup (xac (xv 3) (xac (xv 5) xa0)))))))))))))) ?_
  have hs : sizeLine = 16777216 := sizeLine_eq
  rw [show start ["_law_number", "_law_before", "_law_is_inner", "_law_kind_here", "_law_more", "_law_signs_here"] [V.int n, V.str before, V.bl inner] = [some (V.int n), some (V.str before), some (V.bl inner), none, none, none] from rfl]
  have k6 : atI ([V.str "plain", V.str "plain", V.str "code", V.str "link", V.str "note", V.str "strong"] : List V) (n % 6) = some (V.str (kinds6.getD (n % 6).toNat kPlain)) := by
    obtain ⟨j, hj, hj6⟩ : ∃ j : Nat, n % 6 = (j : Int) ∧ j < 6 := ⟨(n % 6).toNat, by omega, by omega⟩
    rw [hj, Int.toNat_natCast]
    refine atI_nat ?_
    match j, hj6 with
    | 0, _ => rfl
    | 1, _ => rfl
    | 2, _ => rfl
    | 3, _ => rfl
    | 4, _ => rfl
    | 5, _ => rfl
  have k3 : atI ([V.str "code", V.str "link", V.str "note"] : List V) (n / 6 % 3) = some (V.str (kinds3.getD (n / 6 % 3).toNat kCode)) := by
    obtain ⟨j, hj, hj6⟩ : ∃ j : Nat, n / 6 % 3 = (j : Int) ∧ j < 3 := ⟨(n / 6 % 3).toNat, by omega, by omega⟩
    rw [hj, Int.toNat_natCast]
    refine atI_nat ?_
    match j, hj6 with
    | 0, _ => rfl
    | 1, _ => rfl
    | 2, _ => rfl
  refine ⟨big (show (6 : Nat) ≤ 1000000 by decide), fun l0 hl0 => ⟨_, rfl, _, _, rfl, rfl, show (0 : Int) < 6 by decide, l0, _, n % 6, _, rfl, rfl, SqL.of upd_same, k6, ?_⟩⟩
  have s1 := same_new hl0 (.lst ([V.str "plain", V.str "plain", V.str "code", V.str "link", V.str "note", V.str "strong"] : List V))
  dsimp only [gName, List.set_cons_succ, List.set_cons_zero]
  generalize upd H l0 (.lst ([V.str "plain", V.str "plain", V.str "code", V.str "link", V.str "note", V.str "strong"] : List V)) = H1 at s1 ⊢
  refine ⟨_, rfl, _, _, rfl, rfl, ⟨by decide, by decide⟩, ?_⟩
  dsimp only [gName, List.set_cons_succ, List.set_cons_zero]
  refine s_join (fun σ' H' => σ' = [some (.int n), some (.str before), some (.bl inner), some (.str (kindF n before inner)), some (.int (n / 6)), none] ∧ Same H H') (fun N hN => ?_) ?_
  · refine s_if ((inner && decide (kinds6.getD (n % 6).toNat kPlain = kStrong)) || (decide (before = kPlain) && decide (kinds6.getD (n % 6).toNat kPlain = kPlain))) (t_or _ _ (t_and _ _ (t_bv (ev_v rfl)) fun _ _ _ => t_eqS (ev_v rfl) ev_c) fun _ _ _ => t_and _ _ (t_eqS (ev_v rfl) ev_c) fun _ _ _ => t_eqS (ev_v rfl) ev_c) (fun H2 s2 c => ?_) (fun H2 s2 c => ?_)
    · have hc : (inner = true ∧ kinds6.getD (n % 6).toNat kPlain = kStrong) ∨ (before = kPlain ∧ kinds6.getD (n % 6).toNat kPlain = kPlain) := by simpa using c
      refine ⟨big (show (3 : Nat) ≤ 1000000 by decide), fun l1 hl1 => ⟨_, rfl, _, _, rfl, rfl, show (0 : Int) < 3 by decide, l1, _, n / 6 % 3, _, rfl, rfl, SqL.of upd_same, k3, hN _ _ ⟨?_, (s1.trans s2).trans (same_new hl1 _)⟩⟩⟩
      unfold kindF
      rw [if_pos hc]
      rfl
    · have hc : ¬ ((inner = true ∧ kinds6.getD (n % 6).toNat kPlain = kStrong) ∨ (before = kPlain ∧ kinds6.getD (n % 6).toNat kPlain = kPlain)) := by simpa using c
      refine hN _ _ ⟨?_, s1.trans s2⟩
      unfold kindF
      rw [if_neg hc]
  clear s1
  rintro σ2 H2 ⟨rfl, s2⟩
  generalize hk : kindF n before inner = k
  obtain ⟨n1', n2, n3, n4, n5, n6, n7, n8, n9, n10⟩ := kinds
  have gK : StrG k := by
    have : K4 k ∨ k = kStrong := by
      cases inner with
      | true => exact .inl (hk ▸ kindF_in n0)
      | false =>
        by_cases z : kindF n before false = kStrong
        · exact .inr (hk ▸ z)
        · exact .inl (hk ▸ kindF_out n0 z)
    rcases this with (z | z | z | z) | z <;> (rw [z]; exact ⟨by decide +kernel, by decide +kernel⟩)
  have tK : ∀ (y : Str) {x5 : Option V} (b : Bool) H', decide (k = y) = b → Tells (tTest (tOp rEq (tVar 3) (tC (.str y)))) [some (.int n), some (.str before), some (.bl inner), some (.str k), some (.int (n / 6)), x5] H' b := fun y x5 b H' e => (t_eqS (ev_v rfl) ev_c).eq e
  have out4 : k ≠ kStrong → outD inner n before = d1 (p1F n before k) ∧ K4 k := fun hne => by
    unfold outD innerF partF
    cases inner with
    | true => rw [if_pos rfl, hk]; exact ⟨rfl, hk ▸ kindF_in n0⟩
    | false => rw [if_neg Bool.false_ne_true, hk, if_neg hne]; exact ⟨rfl, by have := kindF_out (before := before) n0 (by rw [hk]; exact hne); rw [hk] at this; exact this⟩
  have name_go : ∀ (j : Int), 0 ≤ j → Txt.lower (S (nameF j)) = smallN j := fun j hj => by rw [lower_S _ (name_asc (name_ok j hj))]; rfl
  have nameL : ∀ (j : Int), 0 ≤ j → (S (nameF j)).length ≤ 1000000 := fun j hj => by
    have := name_ok j hj
    unfold isNameC at this
    rw [Bool.and_eq_true, Bool.and_eq_true] at this
    have := of_decide_eq_true this.1.2
    rw [S_len]
    omega
  by_cases hnote : k = kNote
  · refine s_yes (tK "note" true H2 (decide_eq_true hnote)) fun H3 s3 => ?_
    obtain ⟨o1, o2⟩ := out4 (by rw [hnote]; exact n6)
    have hok := p1F_ok (before := before) n0 o2
    refine ⟨_, rfl, _, rfl, _, _, rfl, rfl, ⟨by decide, by decide⟩, n / 6 / 3, rfl, by omega, by omega, fun H4 s4 => ⟨rfl, _, rfl, rfl, nameL _ (by omega), big (show (2 : Nat) ≤ 1000000 by decide), fun t ht => ?_⟩⟩
    have s24 := (s2.trans s3).trans s4
    refine q t _ _ (s24.trans (same_new ht _)) (s24.free ht) upd_same ?_
    rw [o1, name_go _ (by omega)]
    have e : p1F n before k = .note (smallN (n / 6 / 3)) := by unfold p1F; rw [if_pos hnote]
    rw [e] at hok ⊢
    refine .cons (.str _ gK.1 gK.2 |> fun z => hnote ▸ z) (.cons hok.1.2.dn .nil)
  refine s_no1 (tK "note" false H2 (decide_eq_false hnote)) fun H3 s3' => ?_
  have s3 := s2.trans s3'
  by_cases hstr : k = kStrong
  · have hin : inner = false := by
      cases inner with
      | false => rfl
      | true =>
        exfalso
        rcases hk ▸ kindF_in (before := before) n0 with z | z | z | z
        · exact hnote z
        · rw [z] at hstr; exact n10 hstr.symm
        · rw [z] at hstr; exact n5 hstr
        · rw [z] at hstr; exact n3 hstr
    subst hin
    have hmx := mixF_ok (n / 6) 70
    refine s_yes (tK "strong" true H3 (decide_eq_true hstr)) fun H4 s4' => ?_
    have s4 := s3.trans s4'
    refine ⟨_, rfl, _, rfl, n / 6, 70, rfl, bits64 (by omega) (by omega), by omega, by omega, _, rfl, _, _, rfl, rfl, show (0 : Int) < 3 by decide, _, _, rfl, rfl, hP rfl _ _ _ _ ⟨mixF (n / 6) 70, 1 + n / 6 % 3, rfl, by omega, by omega, by omega, by omega, fun r xs H5 s5 hr5 er hof => ⟨big (show (2 : Nat) ≤ 1000000 by decide), fun t ht => ?_⟩⟩⟩
    have s5' := s4.trans s5
    refine q t _ _ (s5'.trans (same_new ht _)) (s5'.free ht) upd_same ?_
    have ho : outD false n before = .tuple [.str kStrong, .list ((inF (mixF (n / 6) 70) (1 + n / 6 % 3).toNat).map d1)] := by
      show dP (partF n before) = _
      unfold partF
      rw [hk, if_pos hstr]
      rfl
    rw [ho]
    have hlen := hof.len
    refine .cons (hstr ▸ .str _ gK.1 gK.2) (.cons (.lst (xs := xs) ?_ ?_ ?_) .nil)
    · rw [dif_at (s4.free hr5)]
      exact same_new ht _ _ _ er
    · have h2 := hof.toDif (H0 := H4) (fun b hb => .inr hb)
      exact h2.same (dif_grow s4 (same_new ht _))
    · rw [hlen]
      show ((inF _ _).map d1).length ≤ _
      rw [List.length_map]
      have hg : ∀ c : Nat, (goF innerF kd1 (mixF (n / 6) 70) c).1.length = c := fun c => by
        induction c with
        | zero => rfl
        | succ c ih => show ((goF innerF kd1 (mixF (n / 6) 70) c).1 ++ [_]).length = _; rw [List.length_append, ih]; rfl
      rw [show (inF (mixF (n / 6) 70) (1 + n / 6 % 3).toNat).length = (1 + n / 6 % 3).toNat from hg _]
      omega
  refine s_no1 (tK "strong" false H3 (decide_eq_false hstr)) fun H4 s4' => ?_
  have s4 := s3.trans s4'
  obtain ⟨o1, o2⟩ := out4 hstr
  have hok := p1F_ok (before := before) n0 o2
  have hmx := mixF_ok (n / 6) 71
  have htx := text_ok (mixF (n / 6) 71) 3 (by omega) (by omega)
  refine ⟨_, rfl, n / 6, 71, rfl, bits64 (by omega) (by omega), by omega, by omega, mixF (n / 6) 71, 3, rfl, by omega, by omega, by omega, by omega, fun H5 s5' => ⟨_, rfl, _, _, rfl, rfl, ⟨by decide, by decide⟩, textF (mixF (n / 6) 71) 3, n / 6 / 3, rfl, by omega, ?_⟩⟩
  have s5 := s4.trans s5'
  obtain ⟨he, hel⟩ := sig_ok n
  dsimp only [gName, List.set_cons_succ, List.set_cons_zero]
  generalize hsig : endsF (textF (mixF (n / 6) 71) 3) (n / 6 / 3) = sig at he hel
  have hb1 : ∀ b : Bool, 0 ≤ (if b then (1 : Int) else 0) ∧ (if b then (1 : Int) else 0) ≤ 1000 := fun b => by cases b <;> decide
  by_cases hlink : k = kLink
  · refine s_yes (tK "link" true H5 (decide_eq_true hlink)) fun H6 s6' => ?_
    have s6 := s5.trans s6'
    have hm94 : ∀ b : Bool, Txt.mul (Str.ofString "^") (if b then 1 else 0) = S (if b then [94] else []) := fun b => by
      cases b
      · exact mul_S 94 0
      · exact mul_S 94 1
    have hbl : ∀ b : Bool, (if b then [94] else [] : List Nat).length ≤ 1 := fun b => by cases b <;> decide
    have hd : decide (V.int (n / 6 % 5) = V.int 0) = decide (n / 6 % 5 = 0) := by rw [decide_eq_decide]; exact ⟨V.int.inj, congrArg V.int⟩
    refine ⟨_, rfl, _, rfl, _, _, rfl, rfl, show (0 : Int) < 5 by decide, rfl, .inr ⟨_, rfl, _, _, rfl, rfl, by decide, (hb1 _).1, (hb1 _).2, _, rfl, _, _, rfl, rfl, ?_, _, rfl, _, _, rfl, rfl, ⟨by decide, by decide⟩, n / 6 / 7, rfl, by omega, by omega, fun H7 s7 => ⟨rfl, _, rfl, rfl, nameL _ (by omega), big (show (3 : Nat) ≤ 1000000 by decide), fun t ht => ?_⟩⟩⟩
    · dsimp only
      rw [hm94, S_len, S_len, hs]
      have := hbl (decide (V.int (n / 6 % 5) = V.int 0))
      omega
    · have s67 := s6.trans s7
      refine q t _ _ (s67.trans (same_new ht _)) (s67.free ht) upd_same ?_
      dsimp only
      rw [o1, name_go _ (by omega), hm94, hd, S_app]
      have e : p1F n before k = .link (S ((if n / 6 % 5 = 0 then [94] else []) ++ sig)) (smallN (n / 6 / 7)) := by unfold p1F; rw [if_neg hnote, if_pos hlink, hsig]
      rw [e] at hok ⊢
      refine .cons (hlink ▸ .str _ gK.1 gK.2) (.cons ?_ (.cons hok.1.2.2.dn .nil))
      have := (hok.1.1.2).dn (H := dif H (upd H7 t (.tup [V.str k, V.str (S ((if decide (n / 6 % 5 = 0) = true then [94] else []) ++ sig)), V.str (smallN (n / 6 / 7))])))
      simpa only [decide_eq_true_eq] using this
  refine s_no1 (tK "link" false H5 (decide_eq_false hlink)) fun H6 s6' => ?_
  have s6 := s5.trans s6'
  by_cases hcode : k = kCode
  · refine s_yes (tK "code" true H6 (decide_eq_true hcode)) fun H7 s7' => ?_
    have s7 := s6.trans s7'
    refine ⟨_, rfl, _, rfl, _, rfl, by rw [S_len]; omega, big (show (2 : Nat) ≤ 1000000 by decide), fun t ht => ?_⟩
    refine q t _ _ (s7.trans (same_new ht _)) (s7.free ht) upd_same ?_
    rw [o1, show Txt.replace (S sig) (Str.ofString "`") (Str.ofString "'") = S (tickF sig) from replace_one 96 [39] sig]
    have e : p1F n before k = .code (S (tickF sig)) := by unfold p1F; rw [if_neg hnote, if_neg hlink, if_pos hcode, hsig]
    rw [e] at hok ⊢
    exact .cons (hcode ▸ .str _ gK.1 gK.2) (.cons hok.1.2.dn .nil)
  refine s_no1 (tK "code" false H6 (decide_eq_false hcode)) fun H7 s7' => ?_
  have s7 := s6.trans s7'
  have hplain : k = kPlain := by
    rcases o2 with z | z | z | z
    · exact absurd z hnote
    · exact absurd z hlink
    · exact absurd z hcode
    · exact z
  have tB : Tells (tAnd (tTest (tOp rEq (tVar 1) (tC (.str "note")))) (tTest (tOp rEq (tOp (rI (fun _ j => 0 < j) fun i j => .int (i % j)) (tVar 4) (tC (.int 2))) (tC (.int 0))))) [some (.int n), some (.str before), some (.bl inner), some (.str k), some (.int (n / 6)), some (vS sig)] H7 (decide (before = kNote) && decide (n / 6 % 2 = 0)) := t_and _ _ (t_eqS (ev_v rfl) ev_c) fun _ _ _ R kk => ⟨_, rfl, _, _, rfl, rfl, show (0 : Int) < 2 by decide, rfl, _, rfl, by
    dsimp only
    rw [show decide (V.int (n / 6 % 2) = V.int 0) = decide (n / 6 % 2 = 0) by rw [decide_eq_decide]; exact ⟨V.int.inj, congrArg V.int⟩]
    exact kk _ (Same.refl _)⟩
  by_cases hb : before = kNote ∧ n / 6 % 2 = 0
  · refine s_yes (tB.eq (by rw [decide_eq_true hb.1, decide_eq_true hb.2]; rfl)) fun H8 s8' => ?_
    have s8 := s7.trans s8'
    refine ⟨_, rfl, _, rfl, _, _, rfl, rfl, (by show (S [58]).length + (S sig).length ≤ _; rw [S_len, S_len, hs]; show 1 + sig.length ≤ _; omega), big (show (2 : Nat) ≤ 1000000 by decide), fun t ht => ?_⟩
    refine q t _ _ (s8.trans (same_new ht _)) (s8.free ht) upd_same ?_
    rw [o1, show V.str (Str.ofString ":" ++ S sig) = vS (58 :: sig) from catS [58] sig]
    have e : p1F n before k = .plain (S (58 :: sig)) := by unfold p1F; rw [if_neg hnote, if_neg hlink, if_neg hcode, if_pos hb, hsig]
    rw [e] at hok ⊢
    exact .cons (hplain ▸ .str _ gK.1 gK.2) (.cons hok.1.2.dn .nil)
  · refine s_no1 (tB.eq (by
      rw [Bool.and_eq_false_iff]
      by_cases z : before = kNote
      · exact .inr (decide_eq_false fun y => hb ⟨z, y⟩)
      · exact .inl (decide_eq_false z))) fun H8 s8' => ?_
    have s8 := s7.trans s8'
    refine ⟨_, rfl, _, rfl, big (show (2 : Nat) ≤ 1000000 by decide), fun t ht => ?_⟩
    refine q t _ _ (s8.trans (same_new ht _)) (s8.free ht) upd_same ?_
    rw [o1]
    have e : p1F n before k = .plain (S sig) := by unfold p1F; rw [if_neg hnote, if_neg hlink, if_neg hcode, if_neg hb, hsig]
    rw [e] at hok ⊢
    exact .cons (hplain ▸ .str _ gK.1 gK.2) (.cons hok.1.2.dn .nil)
end
end K7

set_option Elab.async false
set_option linter.all false
set_option maxRecDepth 100000
set_option maxHeartbeats 4000000
namespace K7
open PySem L2 Lm Lw PySem.Builtin.Int
def SameX (x : Addr) (H H' : Hp) : Prop := ∀ b o, b ≠ x → H b = some o → H' b = some o
def rawD (inner : Bool) (n : Int) (t : Nat) : List PyData := if inner then (goF innerF kd1 n t).1.map d1 else (goF partF kdP n t).1.map dP
def befD (inner : Bool) (n : Int) (t : Nat) : Str := if inner then (goF innerF kd1 n t).2 else (goF partF kdP n t).2
theorem raw_succ (inner : Bool) (n : Int) (t : Nat) : rawD inner n (t + 1) = rawD inner n t ++ [outD inner (mixF n ((t : Int) + 2)) (befD inner n t)] := by
  unfold rawD befD outD
  cases inner with
  | true => rw [if_pos rfl, if_pos rfl, if_pos rfl, if_pos rfl]; show ((goF innerF kd1 n t).1 ++ [_]).map d1 = _; rw [List.map_append]; rfl
  | false => rw [if_neg Bool.false_ne_true, if_neg Bool.false_ne_true, if_neg Bool.false_ne_true, if_neg Bool.false_ne_true]; show ((goF partF kdP n t).1 ++ [_]).map dP = _; rw [List.map_append]; rfl
theorem d1_kd (p : P1) : ∃ r, d1 p = .tuple (.str (kd1 p) :: r) := by cases p <;> exact ⟨_, rfl⟩
theorem dP_kd (p : PC) : ∃ r, dP p = .tuple (.str (kdP p) :: r) := by
  cases p with
  | one p => exact d1_kd p
  | strong ps => exact ⟨_, rfl⟩
theorem bef_succ (inner : Bool) (n : Int) (t : Nat) : ∃ r, outD inner (mixF n ((t : Int) + 2)) (befD inner n t) = .tuple (.str (befD inner n (t + 1)) :: r) := by
  unfold outD
  cases inner with
  | true => exact d1_kd _
  | false => exact dP_kd _
theorem raw_len (inner : Bool) (n : Int) : ∀ t : Nat, (rawD inner n t).length = t
  | 0 => by cases inner <;> rfl
  | t + 1 => by rw [raw_succ, List.length_append, raw_len inner n t]; rfl
theorem dn_str {G : Hp} {v : V} {s : Str} (h : Dn G v (.str s)) : v = .str s := by cases h; rfl
theorem dn_tup {G : Hp} {v : V} {ds : List PyData} (h : Dn G v (.tuple ds)) : ∃ a xs, v = .ref a ∧ G a = some (.tup xs) ∧ DnAll G xs ds := by
  cases h with
  | tup e k => exact ⟨_, _, rfl, e, k⟩
theorem map_set {α β : Type} (f : α → β) (l : List α) (j : Nat) (a : α) : (l.set j a).map f = (l.map f).set j (f a) := List.map_set
theorem ixN_nat {n j : Nat} (h : j < n) : ixN n (j : Int) = some j := by
  unfold ixN
  rw [if_pos (by omega), if_pos (by omega), Int.toNat_natCast]
theorem strip_if {K : PySem.W.Frag} {ti : TE} {sf : Str → Str → Str} {fP : PC → PC} {D : Ends} {σ : St} {H : Hp} {W : Addr → Prop} {r : Addr} {xs : List V} {l : List PC} {j : Nat} {p : PC}
    (hf : ∀ s, fP (.one (.plain s)) = .one (.plain (sf s " "))) (hn : ∀ p, kdP p ≠ kPlain → fP p = p) (h2 : σ[2]? = some (some (.bl false))) (h3 : σ[3]? = some (some (.ref r))) (hti : ∀ H', Ev ti σ H' (.int (j : Int))) (hr : H r = some (.lst xs)) (ho : Offs W H xs (l.map dP)) (hWr : W r) (hW : ∀ b, W b → H b ≠ none)
    (hl : l[j]? = some p) (hp : PCOk (fP p)) (hq : PCOk p) (k : ∀ xs' H', SameX r H H' → H' r = some (.lst xs') → Offs W H' xs' ((l.set j (fP p)).map dP) → D.nx σ H') :
    tIfS (tAnd (tNot (tB (tVar 2))) (tTest (tOp rEq (tOp (rIxT K) (tOp (rIxL K) (tVar 3) ti) (tC (.int 0))) (tC (.str "plain"))))) (tAsg (tTup (tCons (tC (.str "plain")) (tCons (tBM K "str" (rS2 fun z y => V.str (sf z y)) (tOp (rIxT K) (tOp (rIxL K) (tVar 3) ti) (tC (.int 1))) (tCons (tC (.str " ")) tNil)) tNil))) (gSub (tVar 3) ti rSetL)) tNext D σ H := by
  obtain ⟨rest, hd⟩ := dP_kd p
  have hj : (l.map dP)[j]? = some (dP p) := by rw [List.getElem?_map, hl]; rfl
  obtain ⟨v, hv, hoff⟩ := ho.get hj
  obtain ⟨a, us, rfl, ha, hus⟩ := dn_tup (hd ▸ hoff.dn)
  have hu0 : us[0]? = some (.str (kdP p)) := by
    obtain ⟨z, z1, z2⟩ := hus.get (i := 0) rfl
    rw [dn_str z2] at z1
    exact z1
  have hlen := ho.len
  rw [List.length_map] at hlen
  have hjl : j < xs.length := by
    rw [hlen]
    exact (List.getElem?_eq_some_iff.mp hl).1
  have evA : ∀ H', Same H H' → Ev (tOp (rIxL K) (tVar 3) ti) σ H' (.ref a) := fun H' s' => ev_ixL (ev_v h3) (hti _) (SqL.of (s' _ _ hr)) (atI_nat hv)
  have hT : Tells (tAnd (tNot (tB (tVar 2))) (tTest (tOp rEq (tOp (rIxT K) (tOp (rIxL K) (tVar 3) ti) (tC (.int 0))) (tC (.str "plain"))))) σ H (!false && decide (kdP p = kPlain)) := t_and _ _ (t_not _ (t_bv (ev_v h2))) fun _ H1 s1 => t_eqS (ev_ixT (evA _ s1) ev_c (SqT.of (s1 _ _ ha)) (atI_nat (j := 0) hu0)) ev_c
  refine s_if _ hT (fun H1 s1 c => ?_) (fun H1 s1 c => ?_)
  · have hc : kdP p = kPlain := by simpa using c
    obtain ⟨s, rfl⟩ : ∃ s, p = .one (.plain s) := by
      have := (kd_plain p).mpr hc
      cases p with
      | one q => cases q with
        | plain s => exact ⟨s, rfl⟩
        | code s => exact absurd this (by simp [PC.isPlain])
        | link a b => exact absurd this (by simp [PC.isPlain])
        | note s => exact absurd this (by simp [PC.isPlain])
      | strong ps => exact absurd this (by simp [PC.isPlain])
    rw [hf] at hp
    have hsl : s.length ≤ sizeLine := by have := hq.2.2; rw [sizeLine_eq]; omega
    have hus1 : us[1]? = some (.str s) := by
      obtain ⟨z, z1, z2⟩ := (show DnAll H us [.str kPlain, .str s] from by
        have e : [PyData.str kPlain, .str s] = .str (kdP (PC.one (P1.plain s))) :: rest := PyData.tuple.inj hd
        rw [e]; exact hus).get (i := 1) rfl
      rw [dn_str z2] at z1
      exact z1
    refine ev_ixT (evA _ s1) ev_c (SqT.of (s1 _ _ ha)) (atI_nat (j := 1) hus1) _ ⟨rfl, s, " ", rfl, rfl, hsl, big (show (2 : Nat) ≤ 1000000 by decide), fun t ht => ?_⟩
    have s2 := s1.trans (same_new ht (.tup [V.str "plain", V.str (sf s " ")]))
    refine ev_v h3 _ (hti _ _ ⟨r, xs, (j : Int), j, rfl, rfl, s2 _ _ hr, ixN_nat hjl, ?_⟩)
    refine k _ _ (fun b o hb hh => by rw [upd_ne hb]; exact s2 _ _ hh) upd_same ?_
    rw [hf, map_set]
    refine ((ho.same s2).upd hWr).set j (Off.upd (Off.new (H := H1) ?_ fun b hb => ?_) hWr)
    · refine .tup (xs := [V.str "plain", V.str (sf s " ")]) ?_ (.cons (.str _ (by decide +kernel) (by decide +kernel)) (.cons hp.2.dn .nil))
      rw [dif_at ht, upd_same]
    · have := hW b hb
      cases e : H b with
      | none => exact absurd e this
      | some o => rw [s1 _ _ e]; exact fun z => nomatch z
  · have hc : kdP p ≠ kPlain := by simpa using c
    refine k _ _ (fun b o _ hh => s1 _ _ hh) (s1 _ _ hr) ?_
    rw [hn p hc, map_set, show (l.map dP).set j (dP p) = l.map dP from ?_]
    · exact ho.same s1
    · rw [← List.map_set]
      rw [show l.set j p = l from by
        refine List.ext_getElem? fun i => ?_
        rw [List.getElem?_set]
        split
        · rename_i e
          subst e
          rw [hl]
          split
          · rfl
          · rename_i h; exact absurd (List.getElem?_eq_some_iff.mp hl).1 h
        · rfl]
section
variable {P : Program} {w : World} {K : PySem.W.Frag} {mg : Str → Option Value} {base : Heap}
abbrev sParts7 : Stmt := top 40
theorem scParts7 : FnScope ["_law_number", "_law_size", "_law_is_inner", "_law_found", "_law_before", "_law_turn", "_law_part_here"] ["_law_number", "_law_size", "_law_is_inner"] (defScope sParts7) := ⟨rfl, rfl, rfl, by decide +kernel, rfl, by decide +kernel, by decide +kernel⟩
theorem ok_parts7 {f : Addr} {fd : FuncData} {m : Nat} {inner : Bool} (F : Fun K "_law_parts" "_law_parts" sParts7 f fd) (T : TxL mg) (D_l_mixed : Def P w K mg base 1 "_law_mixed" ["_law_cell_here", "_law_k"] spMixed) (D_l_part : Def P w K mg base m "_law_part" ["_law_number", "_law_before", "_law_is_inner"] (spPart7 inner)) :
    FnOk P w K mg base CX0 (m + 2) f fd ["_law_number", "_law_size", "_law_is_inner"] (spParts7 inner) := by
  have sc := scParts7
  refine F.ok sc (fun vs H Q E h => ?_) (fun cdv A outer s H vs Q E hr h => ?_)
  · obtain ⟨n, size, rfl, _⟩ := h
    rfl
  obtain ⟨n, size, rfl, n0, n1, z0, z1, q⟩ := h
  refine of_XB (xbc (xset (i := 3) sc.nd rfl (Or.inl rfl) (xlst xa0))
    (xbc (xset (i := 4) sc.nd rfl (Or.inl rfl) xstr)
    (xbc (xfor PassesOwn.never rfl (xir1 rfl T.n_range (xac (xv 1) xa0)) (xgn (i := 5) sc.nd rfl (Or.inl rfl))
    (xbc (xset (i := 6) sc.nd rfl (Or.inl rfl) (xcD D_l_part (hr.mono (by omega)) (xac (xcD D_l_mixed (hr.mono (by omega)) (xac (xv 0) (xac (xop op_add (xv 5) xint) xa0))) (xac (xv 4) (xac (xv 2) xa0)))))
    (xbc (xset (i := 4) sc.nd rfl (Or.inl rfl) (xix ix_tup (xv 6) xint (fun _ _ => rfl)))
    (xb1 (xexpr (xm PySem.F.plainAttrs_list PySem.F.slot_list_append PySem.F.type_list_append mt_append (xv 3) (xac (xv 6) xa0)))))))
    (xbc (xif (xand (xnotT (xvalT (xv 2))) (xand1 (xcmpT op_eq (xix ix_tup (xix ix_list (xv 3) xint (fun _ _ => rfl)) xint (fun _ _ => rfl)) xstr (nomark _)))).xt (xb1 (xasg (xtup (xac xstr (xac (xm PySem.F.plainAttrs_str PySem.F.slot_str_lstrip PySem.F.type_str_lstrip mt_lstrip (xix ix_tup (xix ix_list (xv 3) xint (fun _ _ => rfl)) xint (fun _ _ => rfl)) (xac xstr xa0)) xa0))) (xgsub (xv 3) xint set_list))) xb0)
    (xbc (xif (xand (xnotT (xvalT (xv 2))) (xand1 (xcmpT op_eq (xix ix_tup (xix ix_list (xv 3) (xop op_sub (xv 1) xint) (fun _ _ => rfl)) xint (fun _ _ => rfl)) xstr (nomark _)))).xt (xb1 (xasg (xtup (xac xstr (xac (xm PySem.F.plainAttrs_str PySem.F.slot_str_rstrip PySem.F.type_str_rstrip mt_rstrip (xix ix_tup (xix ix_list (xv 3) (xop op_sub (xv 1) xint) (fun _ _ => rfl)) xint (fun _ _ => rfl)) (xac xstr xa0)) xa0))) (xgsub (xv 3) (xop op_sub (xv 1) xint) set_list))) xb0)
    (xb1 (xret (xv 3)))))))) ?_
  have hs : sizeLine = 16777216 := sizeLine_eq
  rw [show start ["_law_number", "_law_size", "_law_is_inner", "_law_found", "_law_before", "_law_turn", "_law_part_here"] [V.int n, V.int size, V.bl inner] = [some (V.int n), some (V.int size), some (V.bl inner), none, none, none, none] from rfl]
  obtain ⟨sz, rfl⟩ : ∃ sz : Nat, size = (sz : Int) := ⟨size.toNat, (Int.toNat_of_nonneg (by omega)).symm⟩
  refine ⟨big (show (0 : Nat) ≤ 1000000 by decide), fun r hr0 => ?_⟩
  have s1 := same_new hr0 (.lst [])
  have er1 : upd H r (.lst []) r = some (.lst []) := upd_same
  dsimp only [gName, List.set_cons_succ, List.set_cons_zero]
  generalize upd H r (.lst []) = H1 at s1 er1 ⊢
  refine ⟨_, rfl, _, rfl, by omega, by omega, ?_⟩
  rw [Int.toNat_natCast]
  refine for_range (n := sz) (fun t σ H' => ∃ x5 x6 xs, σ = [some (.int n), some (.int (sz : Nat)), some (.bl inner), some (.ref r), some (.str (befD inner n t)), x5, x6] ∧ Same H H' ∧ H' r = some (.lst xs) ∧ Offs (fun b => b = r ∨ H b ≠ none) H' xs (rawD inner n t)) ⟨none, none, [], by cases inner <;> rfl, s1, er1, by cases inner <;> exact .nil⟩ ?_ ?_
  · rintro t σ H2 ht ⟨x5, x6, xs, rfl, s2, e2, o2⟩
    have hmx := mixF_ok n ((t : Int) + 2)
    have hW : ∀ b, (b = r ∨ H b ≠ none) → H2 b ≠ none := fun b hb => by
      rcases hb with rfl | hb
      · rw [e2]; exact fun z => nomatch z
      · cases e : H b with
        | none => exact absurd e hb
        | some o => rw [s2 _ _ e]; exact fun z => nomatch z
    refine ⟨_, rfl, _, rfl, _, _, rfl, rfl, n, 0 + (t : Int) + 2, rfl, bits64 (by omega) (by omega), by omega, by omega, _, rfl, _, rfl, mixF n (0 + (t : Int) + 2), befD inner n t, rfl, by rw [Int.zero_add]; exact hmx.1, by rw [Int.zero_add]; omega, fun p us H3 s3 hp3 ep3 k3 => ?_⟩
    rw [Int.zero_add] at k3 ⊢
    dsimp only [gName, List.set_cons_succ, List.set_cons_zero]
    obtain ⟨rest, hb⟩ := bef_succ inner n t
    rw [hb] at k3
    have hu0 : us[0]? = some (.str (befD inner n (t + 1))) := by
      obtain ⟨z, z1, z2⟩ := k3.get (i := 0) rfl
      rw [dn_str z2] at z1
      exact z1
    have hl := o2.len
    rw [raw_len] at hl
    have e3 := s3 _ _ e2
    refine ⟨_, rfl, p, us, 0, _, rfl, rfl, SqT.of ep3, atI_nat (j := 0) hu0, _, rfl, .inl ⟨rfl, _, SqL.of e3⟩, _, rfl, r, xs, _, rfl, rfl, e3, by rw [hl, hs]; omega, ?_⟩
    refine ⟨_, _, _, rfl, same_grow (by
      cases e : H r with
      | none => rfl
      | some o => rw [e] at hr0; cases hr0) (s2.trans s3), upd_same, ?_⟩
    rw [raw_succ]
    refine ((o2.same s3).upd (.inl rfl)).snoc (Off.upd (Off.new (H := H2) ?_ hW) (.inl rfl))
    rw [hb]
    exact .tup (by rw [dif_at hp3]; exact ep3) k3
  · rintro σ H2 ⟨x5, x6, xs, rfl, s2, e2, o2⟩
    have hW : ∀ {H' : Hp}, SameX r H2 H' → (∃ ys, H' r = some (.lst ys)) → ∀ b, (b = r ∨ H b ≠ none) → H' b ≠ none := fun {H'} s' e' b hb => by
      obtain ⟨ys, e'⟩ := e'
      by_cases hbr : b = r
      · rw [hbr, e']; exact fun z => nomatch z
      · cases e : H b with
        | none => exact absurd e (hb.resolve_left hbr)
        | some o => rw [s' _ _ hbr (s2 _ _ e)]; exact fun z => nomatch z
    cases inner with
    | true =>
      have hT : ∀ {u : TT} {H'}, Tells (tAnd (tNot (tB (tVar 2))) u) [some (.int n), some (.int (sz : Nat)), some (.bl true), some (.ref r), some (.str (befD true n sz)), x5, x6] H' false := fun {u H'} => t_and (!true) false (t_not _ (t_bv (ev_v rfl))) fun z => Bool.noConfusion z
      refine s_no1 hT fun H3 s3 => s_no1 hT fun H4 s4 => ?_
      refine ⟨_, rfl, ?_⟩
      have s24 := s3.trans s4
      refine q r xs H4 (s2.trans s24) hr0 (s24 _ _ e2) ?_
      rw [Int.toNat_natCast]
      exact o2.same s24
    | false =>
      obtain ⟨r1, r2, r3⟩ := rawF_ok n sz
      have o2' : Offs (fun b => b = r ∨ H b ≠ none) H2 xs ((goF partF kdP n sz).1.map dP) := o2
      have hpf : partsF n sz = laL rsP (hdL lsP (goF partF kdP n sz).1) := rfl
      generalize hraw : (goF partF kdP n sz).1 = raw at r1 r2 r3 o2' hpf
      obtain ⟨p0, tl, rfl⟩ : ∃ p0 tl, raw = p0 :: tl := by
        cases raw with
        | nil => exact absurd r1 (by simp; omega)
        | cons p0 tl => exact ⟨p0, tl, rfl⟩
      obtain ⟨g1, g2⟩ := r2 p0 List.mem_cons_self
      obtain ⟨l1, l2, l3, _⟩ := lsP_ok g1 g2
      refine strip_if (fP := lsP) (sf := Txt.lstripChars) (l := p0 :: tl) (j := 0) (p := p0) (fun s => rfl) (fun p hp => ?_) rfl rfl (fun _ => ev_c) e2 o2' (.inl rfl) (hW (fun _ _ _ h => h) ⟨_, e2⟩) rfl l1 g1 fun xs3 H3 s3 e3 o3 => ?_
      · match p, hp with
        | .one (.plain s), hp => exact absurd rfl hp
        | .one (.code s), _ => rfl
        | .one (.link a b), _ => rfl
        | .one (.note s), _ => rfl
        | .strong ps, _ => rfl
      have o3' : Offs (fun b => b = r ∨ H b ≠ none) H3 xs3 ((lsP p0 :: tl).map dP) := o3
      have hpf' : partsF n sz = laL rsP (lsP p0 :: tl) := hpf
      have k1 : (lsP p0 :: tl).length = sz := r1
      have k2 : ∀ p ∈ lsP p0 :: tl, PCOk p ∧ PInk p := fun p hp => by
        rcases List.mem_cons.mp hp with rfl | z
        · exact ⟨l1, l2⟩
        · exact r2 p (List.mem_cons_of_mem _ z)
      generalize lsP p0 :: tl = A at o3' hpf' k1 k2
      rcases List.eq_nil_or_concat A with rfl | ⟨qq, x, rfl⟩
      · exact absurd k1 (by simp; omega)
      rw [List.concat_eq_append] at o3' hpf' k1 k2
      rw [laL_snoc] at hpf'
      have hx := k2 x (List.mem_append_right _ (List.mem_singleton.mpr rfl))
      obtain ⟨c1, c2, c3, c4⟩ := rsP_ok hx.1 hx.2
      have hqq : qq.length + 1 = sz := by rw [List.length_append] at k1; exact k1
      refine strip_if (fP := rsP) (sf := Txt.rstripChars) (l := qq ++ [x]) (j := qq.length) (p := x) (fun s => rfl) (fun p hp => ?_) rfl rfl (fun _ => ?_) e3 o3' (.inl rfl) (hW s3 ⟨_, e3⟩) ?_ c1 hx.1 fun xs4 H4 s4 e4 o4 => ?_
      · match p, hp with
        | .one (.plain s), hp => exact absurd rfl hp
        | .one (.code s), _ => rfl
        | .one (.link a b), _ => rfl
        | .one (.note s), _ => rfl
        | .strong ps, _ => rfl
      · intro R k
        refine ⟨_, rfl, _, _, rfl, rfl, ?_⟩
        dsimp only
        rw [show ((sz : Nat) : Int) - 1 = (qq.length : Int) by omega]
        exact k
      · rw [List.getElem?_append_right (Nat.le_refl _), Nat.sub_self]; rfl
      refine ⟨_, rfl, ?_⟩
      have sx : SameX r H2 H4 := fun b o hb hh => s4 _ _ hb (s3 _ _ hb hh)
      refine q r xs4 H4 (fun b o hh => sx _ _ (fun z => by rw [z, hr0] at hh; cases hh) (s2 _ _ hh)) hr0 e4 ?_
      rw [Int.toNat_natCast]
      show Offs _ H4 xs4 ((partsF n sz).map dP)
      rw [hpf']
      rw [show (qq ++ [x]).set qq.length (rsP x) = qq ++ [rsP x] by rw [List.set_append_right _ _ (Nat.le_refl _), Nat.sub_self]; rfl] at o4
      exact o4
end
end K7

set_option Elab.async false
set_option linter.all false
set_option maxRecDepth 100000
/-! Equality of deeper data; how deep data are. -/
namespace L2
open PySem PySem.Spec PyProof.Rows
section
variable {X : Cx}
/-- two things of one datum, up to 64 deep -/
def rEqW (K : PySem.W.Frag) (k : Bool) : R2 := fun x y H Q => ∃ d, Den K H x d ∧ Den K H y d ∧ d.depth ≤ 64 ∧ Q (.bl k) H
theorem shapedW {K : PySem.W.Frag} {H : Hp} {x : V} {d : PyData} (dx : Den K H x d) (hd : d.depth ≤ 64) : SeqAt.shaped d = true := by
  unfold SeqAt.shaped
  rw [dx.lay, Bool.true_and]
  exact decide_eq_true hd
theorem op_eqW (hu : X.A.units + 64 < cLine) : OpR X (compareOp .Eq) (rEqW X.K true) := by
  intro pins s σ H x y v u Q I rx ry h
  obtain ⟨d, dx, dy, hd, q⟩ := h
  obtain ⟨as, ra⟩ := dx.reads I rx
  obtain ⟨bs, rb⟩ := dy.reads I ry
  refine eq_dataH ra rb (shapedW dx hd) (shapedW dy hd) hu ?_
  rw [eqv_refl d dx.lay]
  exact ⟨.bl true, H, I, rfl, q⟩
theorem op_neW (hu : X.A.units + 64 < cLine) : OpR X (compareOp .NotEq) (rEqW X.K false) := by
  intro pins s σ H x y v u Q I rx ry h
  obtain ⟨d, dx, dy, hd, q⟩ := h
  obtain ⟨as, ra⟩ := dx.reads I rx
  obtain ⟨bs, rb⟩ := dy.reads I ry
  refine ne_dataH ra rb (shapedW dx hd) (shapedW dy hd) hu ?_
  rw [eqv_refl d dx.lay]
  exact ⟨.bl false, H, I, rfl, q⟩
end
end L2
namespace Lw
open PySem L2 Lm
theorem depthAll_le {n : Nat} : ∀ {ds : List PyData}, (∀ d ∈ ds, d.depth ≤ n) → PyData.depthAll ds ≤ n
  | [], _ => by unfold PyData.depthAll; omega
  | d :: ds, h => by
    have h1 := h d List.mem_cons_self
    have h2 := depthAll_le fun x hx => h x (List.mem_cons_of_mem _ hx)
    unfold PyData.depthAll
    omega
theorem depth_list {n : Nat} {ds : List PyData} (h : ∀ d ∈ ds, d.depth ≤ n) : (PyData.list ds).depth ≤ n + 1 := by
  have := depthAll_le h
  unfold PyData.depth
  omega
theorem depth_tup {n : Nat} {ds : List PyData} (h : ∀ d ∈ ds, d.depth ≤ n) : (PyData.tuple ds).depth ≤ n + 1 := by
  have := depthAll_le h
  unfold PyData.depth
  omega
theorem depth_str (x : Str) : (PyData.str x).depth = 0 := by unfold PyData.depth; rfl
theorem d1_depth (p : P1) : (d1 p).depth ≤ 1 := by
  cases p <;> (refine depth_tup fun d hd => ?_) <;> simp only [List.mem_cons, List.not_mem_nil, or_false] at hd <;> (rcases hd with rfl | rfl | rfl) <;> (rw [depth_str]; exact Nat.le_refl 0)
theorem dP_depth (p : PC) : (dP p).depth ≤ 3 := by
  cases p with
  | one p => exact Nat.le_trans (d1_depth p) (by decide)
  | strong ps =>
    refine depth_tup fun d hd => ?_
    simp only [List.mem_cons, List.not_mem_nil, or_false] at hd
    rcases hd with rfl | rfl
    · rw [depth_str]; decide
    · refine depth_list fun d hd => ?_
      obtain ⟨p, _, rfl⟩ := List.mem_map.mp hd
      exact d1_depth p
end Lw

set_option Elab.async false
set_option linter.all false
set_option maxRecDepth 100000
set_option maxHeartbeats 4000000
namespace K7
open PySem L2 Lm Lw PySem.Builtin.Int
section
variable {P : Program} {w : World} {K : PySem.W.Frag} {mg : Str → Option Value} {base : Heap}
abbrev sOdd : Stmt := top 42
theorem scOdd : FnScope ["_law_number", "_law_signs_here", "_law_code", "_law_strong", "_law_link", "_law_note", "_law_other", "_law_menu_here"] ["_law_number"] (defScope sOdd) := ⟨rfl, rfl, rfl, by decide +kernel, rfl, by decide +kernel, by decide +kernel⟩
def oddB (d : PyData) : Bool := (partD true d).isNone && (partD false d).isNone && decide (d.depth ≤ 10)
def OddD (d : PyData) : Prop := partD true d = none ∧ partD false d = none ∧ d.depth ≤ 10
theorem OddD.of {d : PyData} (h : oddB d = true) : OddD d := by
  unfold oddB at h
  rw [Bool.and_eq_true, Bool.and_eq_true, Option.isNone_iff_eq_none, Option.isNone_iff_eq_none] at h
  exact ⟨h.1.1, h.1.2, of_decide_eq_true h.2⟩
/-- a list of odd things, made since H -/
def LO (H H' : Hp) (v : V) (n : Nat) : Prop := ∃ a xs ds, v = .ref a ∧ dif H H' a = some (.lst xs) ∧ DnAll (dif H H') xs ds ∧ (∀ d ∈ ds, OddD d) ∧ ds.length = n
theorem LO.of {H H0 H' : Hp} {v : V} {ds : List PyData} (s0 : Same H H0) (h : Dn (dif H0 H') v (.list ds)) (k : ds.all oddB = true) : LO H H' v ds.length := by
  cases h with
  | lst e r l =>
    have hg : Same (dif H0 H') (dif H H') := dif_grow s0 (Same.refl _)
    exact ⟨_, _, ds, rfl, hg _ _ e, r.same hg, fun d hd => .of (List.all_eq_true.mp k d hd), rfl⟩
theorem LO.same {H H' H2 : Hp} {v : V} {n : Nat} (h : LO H H' v n) (s : Same H' H2) : LO H H2 v n := by
  obtain ⟨a, xs, ds, e, h1, h2, h3, h4⟩ := h
  have hg : Same (dif H H') (dif H H2) := dif_grow (Same.refl _) s
  exact ⟨a, xs, ds, e, hg _ _ h1, h2.same hg, h3, h4⟩
theorem LO.cat {K : PySem.W.Frag} {H H' : Hp} {u v : V} {m n : Nat} {Q : VK} (s : Same H H') (h : LO H H' u m) (k : LO H H' v n) (hm : m + n ≤ 1000000) (q : ∀ w H2, Same H' H2 → LO H H2 w (m + n) → Q w H2) : rCat u v H' Q := by
  obtain ⟨a, xs, ds, rfl, h1, h2, h3, h4⟩ := h
  obtain ⟨b, ys, es, rfl, k1, k2, k3, k4⟩ := k
  have l1 := h2.len
  have l2 := k2.len
  refine ⟨a, b, xs, ys, rfl, rfl, (dif_some h1).2, (dif_some k1).2, by rw [sizeLine_eq]; omega, fun p hp => q _ _ (same_new hp _) ?_⟩
  have hg : Same (dif H H') (dif H (upd H' p (.lst (xs ++ ys)))) := dif_grow (Same.refl _) (same_new hp _)
  have hH : H p = none := s.free hp
  refine ⟨p, xs ++ ys, ds ++ es, rfl, by rw [dif_at hH, upd_same], (h2.app k2).same hg, fun d hd => ?_, by rw [List.length_append, h4, k4]⟩
  rcases List.mem_append.mp hd with z | z
  · exact h3 d z
  · exact k3 d z
def spOdd : Sp := fun vs H Q _ => ∃ n : Int, vs = [.int n] ∧ 0 ≤ n ∧ n ≤ 4294967296 ∧ ∀ v d H', Same H H' → Dn (dif H H') v d → OddD d → Q v H'
theorem ok_odd {f : Addr} {fd : FuncData} (F : Fun K "_law_odd" "_law_odd" sOdd f fd) (T : TxL mg) :
    FnOk P w K mg base CX0 1 f fd ["_law_number"] spOdd := by
  have sc := scOdd
  refine F.ok sc (fun vs H Q E h => ?_) (fun cdv A outer s H vs Q E hr h => ?_)
  · obtain ⟨n, rfl, _⟩ := h
    rfl
  obtain ⟨n, rfl, n0, n1, q⟩ := h
  refine of_XB (xbc (xset (i := 1) sc.nd rfl (Or.inl rfl) (xl_lst (xlsc (xl_tup (xlsc (xl_str (by decide +kernel)) (xlsc (xl_str (by decide +kernel)) xls0))) (xlsc (xl_tup (xlsc (xl_str (by decide +kernel)) (xlsc (xl_str (by decide +kernel)) xls0))) (xlsc (xl_tup (xlsc (xl_str (by decide +kernel)) (xlsc (xl_str (by decide +kernel)) xls0))) (xlsc (xl_tup (xlsc (xl_str (by decide +kernel)) (xlsc (xl_str (by decide +kernel)) xls0))) (xlsc (xl_tup (xlsc (xl_str (by decide +kernel)) (xlsc xl_int xls0))) (xlsc (xl_tup (xlsc (xl_str (by decide +kernel)) xls0)) xls0))))))))
    (xbc (xset (i := 2) sc.nd rfl (Or.inl rfl) (xl_lst (xlsc (xl_tup (xlsc (xl_str (by decide +kernel)) (xlsc (xl_str (by decide +kernel)) xls0))) (xlsc (xl_tup (xlsc (xl_str (by decide +kernel)) (xlsc (xl_str (by decide +kernel)) xls0))) (xlsc (xl_tup (xlsc (xl_str (by decide +kernel)) (xlsc xl_non xls0))) (xlsc (xl_tup (xlsc (xl_str (by decide +kernel)) (xlsc (xl_str (by decide +kernel)) xls0))) (xlsc (xl_tup (xlsc (xl_str (by decide +kernel)) (xlsc (xl_str (by decide +kernel)) (xlsc (xl_str (by decide +kernel)) xls0)))) xls0)))))))
    (xbc (xset (i := 3) sc.nd rfl (Or.inl rfl) (xl_lst (xlsc (xl_tup (xlsc (xl_str (by decide +kernel)) (xlsc (xl_lst xls0) xls0))) (xlsc (xl_tup (xlsc (xl_str (by decide +kernel)) (xlsc (xl_lst (xlsc (xl_tup (xlsc (xl_str (by decide +kernel)) (xlsc (xl_lst (xlsc (xl_tup (xlsc (xl_str (by decide +kernel)) (xlsc (xl_str (by decide +kernel)) xls0))) xls0)) xls0))) xls0)) xls0))) (xlsc (xl_tup (xlsc (xl_str (by decide +kernel)) (xlsc (xl_tup (xlsc (xl_tup (xlsc (xl_str (by decide +kernel)) (xlsc (xl_str (by decide +kernel)) xls0))) xls0)) xls0))) xls0)))))
    (xbc (xset (i := 3) sc.nd rfl (Or.inl rfl) (xop op_cat (xv 3) (xl_lst (xlsc (xl_tup (xlsc (xl_str (by decide +kernel)) (xlsc (xl_lst (xlsc (xl_tup (xlsc (xl_str (by decide +kernel)) (xlsc (xl_str (by decide +kernel)) xls0))) xls0)) xls0))) (xlsc (xl_tup (xlsc (xl_str (by decide +kernel)) (xlsc (xl_lst (xlsc (xl_tup (xlsc (xl_str (by decide +kernel)) (xlsc (xl_str (by decide +kernel)) xls0))) (xlsc (xl_tup (xlsc (xl_str (by decide +kernel)) (xlsc (xl_str (by decide +kernel)) xls0))) xls0))) xls0))) (xlsc (xl_tup (xlsc (xl_str (by decide +kernel)) (xlsc (xl_str (by decide +kernel)) xls0))) xls0))))))
    (xbc (xset (i := 4) sc.nd rfl (Or.inl rfl) (xl_lst (xlsc (xl_tup (xlsc (xl_str (by decide +kernel)) (xlsc (xl_str (by decide +kernel)) (xlsc (xl_str (by decide +kernel)) xls0)))) (xlsc (xl_tup (xlsc (xl_str (by decide +kernel)) (xlsc (xl_str (by decide +kernel)) (xlsc (xl_str (by decide +kernel)) xls0)))) (xlsc (xl_tup (xlsc (xl_str (by decide +kernel)) (xlsc (xl_str (by decide +kernel)) (xlsc (xl_str (by decide +kernel)) xls0)))) (xlsc (xl_tup (xlsc (xl_str (by decide +kernel)) (xlsc (xl_str (by decide +kernel)) xls0))) (xlsc (xl_tup (xlsc (xl_str (by decide +kernel)) (xlsc (xl_str (by decide +kernel)) (xlsc xl_int xls0)))) xls0)))))))
    (xbc (xset (i := 5) sc.nd rfl (Or.inl rfl) (xl_lst (xlsc (xl_tup (xlsc (xl_str (by decide +kernel)) (xlsc (xl_str (by decide +kernel)) xls0))) (xlsc (xl_tup (xlsc (xl_str (by decide +kernel)) (xlsc (xl_str (by decide +kernel)) xls0))) (xlsc (xl_tup (xlsc (xl_str (by decide +kernel)) (xlsc (xl_str (by decide +kernel)) xls0))) (xlsc (xl_tup (xlsc (xl_str (by decide +kernel)) (xlsc (xl_str (by decide +kernel)) (xlsc (xl_str (by decide +kernel)) xls0)))) xls0))))))
    (xbc (xset (i := 6) sc.nd rfl (Or.inl rfl) (xl_lst (xlsc (xl_tup (xlsc (xl_str (by decide +kernel)) (xlsc (xl_str (by decide +kernel)) xls0))) (xlsc (xl_tup xls0) (xlsc (xl_lst (xlsc (xl_str (by decide +kernel)) (xlsc (xl_str (by decide +kernel)) xls0))) (xlsc xl_non (xlsc (xl_str (by decide +kernel)) (xlsc xl_bl (xlsc (xl_tup (xlsc (xl_str (by decide +kernel)) (xlsc (xl_str (by decide +kernel)) xls0))) xls0)))))))))
    (xbc (xset (i := 7) sc.nd rfl (Or.inl rfl) (xix ix_list (xlst (xac (xv 1) (xac (xv 2) (xac (xv 3) (xac (xv 4) (xac (xv 5) (xac (xv 6) xa0))))))) (xop op_mod (xv 0) xint) (fun _ _ => rfl)))
    (xb1 (xret (xix ix_list (xv 7) (xop op_mod (xop op_fdiv (xv 0) xint) (xcB call_len_seq T.n_len PySem.boot_len (xac (xv 7) xa0))) (fun _ _ => rfl)))))))))))) ?_
  have hs : sizeLine = 16777216 := sizeLine_eq
  rw [show start ["_law_number", "_law_signs_here", "_law_code", "_law_strong", "_law_link", "_law_note", "_law_other", "_law_menu_here"] [V.int n] = [some (V.int n), none, none, none, none, none, none, none] from rfl]
  intro v1 H1 s1 k1
  dsimp only [gName, List.set_cons_succ, List.set_cons_zero]
  have o1 := LO.of (Same.refl H) k1 (by decide +kernel)
  clear k1
  intro v2 H2 s2 k2
  dsimp only [gName, List.set_cons_succ, List.set_cons_zero]
  have o2 := LO.of s1 k2 (by decide +kernel)
  replace o1 := o1.same s2
  replace s2 := s1.trans s2
  clear k2 s1
  intro v3 H3 s3 k3
  dsimp only [gName, List.set_cons_succ, List.set_cons_zero]
  have o3 := LO.of s2 k3 (by decide +kernel)
  replace o1 := o1.same s3
  replace o2 := o2.same s3
  replace s3 := s2.trans s3
  clear k3 s2
  refine ⟨_, rfl, fun v4 H4 s4 k4 => ?_⟩
  have o4 := LO.of s3 k4 (by decide +kernel)
  replace o1 := o1.same s4
  replace o2 := o2.same s4
  replace o3 := o3.same s4
  replace s4 := s3.trans s4
  clear k4 s3
  refine LO.cat (K := K) s4 o3 o4 (by decide) fun v5 H5 s5 o5 => ?_
  dsimp only [gName, List.set_cons_succ, List.set_cons_zero]
  replace o1 := o1.same s5
  replace o2 := o2.same s5
  replace s5 := s4.trans s5
  clear o3 o4 s4
  intro v6 H6 s6 k6
  dsimp only [gName, List.set_cons_succ, List.set_cons_zero]
  have o6 := LO.of s5 k6 (by decide +kernel)
  replace o1 := o1.same s6
  replace o2 := o2.same s6
  replace o5 := o5.same s6
  replace s6 := s5.trans s6
  clear k6 s5
  intro v7 H7 s7 k7
  dsimp only [gName, List.set_cons_succ, List.set_cons_zero]
  have o7 := LO.of s6 k7 (by decide +kernel)
  replace o1 := o1.same s7
  replace o2 := o2.same s7
  replace o5 := o5.same s7
  replace o6 := o6.same s7
  replace s7 := s6.trans s7
  clear k7 s6
  intro v8 H8 s8 k8
  dsimp only [gName, List.set_cons_succ, List.set_cons_zero]
  have o8 := LO.of s7 k8 (by decide +kernel)
  replace o1 := o1.same s8
  replace o2 := o2.same s8
  replace o5 := o5.same s8
  replace o6 := o6.same s8
  replace o7 := o7.same s8
  replace s8 := s7.trans s8
  clear k8 s7
  refine ⟨_, rfl, _, rfl, _, rfl, _, rfl, _, rfl, _, rfl, big (show (6 : Nat) ≤ 1000000 by decide), fun l hl => ?_⟩
  have s9 := same_new hl (.lst [v1, v2, v5, v6, v7, v8])
  have el : upd H8 l (.lst [v1, v2, v5, v6, v7, v8]) l = some (.lst [v1, v2, v5, v6, v7, v8]) := upd_same
  generalize upd H8 l (.lst [v1, v2, v5, v6, v7, v8]) = H9 at s9 el ⊢
  obtain ⟨v, hv, m, hm, ov⟩ : ∃ v, atI [v1, v2, v5, v6, v7, v8] (n % 6) = some v ∧ ∃ m : Nat, 0 < m ∧ LO H H8 v m := by
    rcases (show n % 6 = 0 ∨ n % 6 = 1 ∨ n % 6 = 2 ∨ n % 6 = 3 ∨ n % 6 = 4 ∨ n % 6 = 5 by omega) with z | z | z | z | z | z
    · rw [z]; exact ⟨_, atI_nat (j := 0) rfl, _, by decide, o1⟩
    · rw [z]; exact ⟨_, atI_nat (j := 1) rfl, _, by decide, o2⟩
    · rw [z]; exact ⟨_, atI_nat (j := 2) rfl, _, by decide, o5⟩
    · rw [z]; exact ⟨_, atI_nat (j := 3) rfl, _, by decide, o6⟩
    · rw [z]; exact ⟨_, atI_nat (j := 4) rfl, _, by decide, o7⟩
    · rw [z]; exact ⟨_, atI_nat (j := 5) rfl, _, by decide, o8⟩
  refine ⟨_, rfl, _, _, rfl, rfl, show (0 : Int) < 6 by decide, l, _, n % 6, v, rfl, rfl, SqL.of el, hv, ?_⟩
  dsimp only [gName, List.set_cons_succ, List.set_cons_zero]
  obtain ⟨a, xs, ds, rfl, h1, h2, h3, h4⟩ := ov.same s9
  have hx := h2.len
  obtain ⟨j, hj, hjl⟩ : ∃ j : Nat, n / 6 % (xs.length : Int) = (j : Int) ∧ j < xs.length := by
    have g1 := Int.emod_nonneg (n / 6) (show (xs.length : Int) ≠ 0 by omega)
    have g2 := Int.emod_lt_of_pos (n / 6) (show (0 : Int) < (xs.length : Int) by omega)
    exact ⟨(n / 6 % (xs.length : Int)).toNat, by omega, by omega⟩
  obtain ⟨d, hd⟩ : ∃ d, ds[j]? = some d := ⟨ds[j]'(by omega), List.getElem?_eq_getElem _⟩
  obtain ⟨v, hv2, hdn⟩ := h2.get hd
  have ea := (dif_some h1).2
  refine ⟨_, rfl, _, rfl, _, _, rfl, rfl, ⟨by decide, by decide⟩, _, rfl, a, xs, rfl, .inl (SqL.of ea), _, _, rfl, rfl, by omega, a, xs, _, v, rfl, rfl, SqL.of ea, ?_, ?_⟩
  · rw [hj]; exact atI_nat hv2
  · exact q v d H9 (s8.trans s9) hdn (h3 d (List.mem_of_getElem? hd))
end
end K7

set_option Elab.async false
set_option linter.all false
set_option maxRecDepth 100000
set_option maxHeartbeats 4000000
namespace K7
open PySem L2 Lm Lw PySem.Builtin.Int
theorem run_none {part : PyData → Option PC} {d : PyData} {r : List PyData} (h : part d = none) : ∀ (l : List PyData) (prev : Bool), runG part prev (l ++ d :: r) = none
  | [], prev => by
    show (match part d with | none => none | some p => if prev && p.isPlain then none else (runG part p.isPlain r).map (p :: ·)) = _
    rw [h]
  | x :: l, prev => by
    show (match part x with | none => none | some p => if prev && p.isPlain then none else (runG part p.isPlain (l ++ d :: r)).map (p :: ·)) = _
    cases part x with
    | none => rfl
    | some p =>
      dsimp only
      rw [run_none h l]
      split <;> rfl
theorem run_two {part : PyData → Option PC} {d e : PyData} {r : List PyData} {p q : PC} (h : part d = some p) (hp : p.isPlain = true) (k : part e = some q) (hq : q.isPlain = true) : ∀ (l : List PyData) (prev : Bool), runG part prev (l ++ d :: e :: r) = none
  | [], prev => by
    show (match part d with | none => none | some p => if prev && p.isPlain then none else (match part e with | none => none | some q => if p.isPlain && q.isPlain then none else (runG part q.isPlain r).map (q :: ·)).map (p :: ·)) = _
    rw [h, k]
    dsimp only
    rw [hp, hq]
    split <;> rfl
  | x :: l, prev => by
    show (match part x with | none => none | some p => if prev && p.isPlain then none else (runG part p.isPlain (l ++ d :: e :: r)).map (p :: ·)) = _
    cases part x with
    | none => rfl
    | some p =>
      dsimp only
      rw [run_two h hp k hq l]
      split <;> rfl
theorem run_last {part : PyData → Option PC} {d : PyData} {p : PC} (h : part d = some p) : ∀ (l : List PyData) (prev : Bool) (qs : List PC), runG part prev (l ++ [d]) = some qs → qs.getLast? = some p
  | [], prev, qs, e => by
    have e' : (match part d with | none => none | some p => if prev && p.isPlain then none else some [p]) = some qs := e
    rw [h] at e'
    dsimp only at e'
    split at e'
    · cases e'
    · cases e'; rfl
  | x :: l, prev, qs, e => by
    have e' : (match part x with | none => none | some p => if prev && p.isPlain then none else (runG part p.isPlain (l ++ [d])).map (p :: ·)) = some qs := e
    cases hx : part x with
    | none => rw [hx] at e'; cases e'
    | some y =>
      rw [hx] at e'
      dsimp only at e'
      split at e'
      · cases e'
      · cases hr : runG part y.isPlain (l ++ [d]) with
        | none => rw [hr] at e'; cases e'
        | some rs =>
          rw [hr] at e'
          cases e'
          have ih := run_last h l _ rs hr
          cases rs with
          | nil => cases ih
          | cons z rs => rw [List.getLast?_cons_cons]; exact ih
theorem run_first {part : PyData → Option PC} {d : PyData} {p : PC} {l : List PyData} {prev : Bool} {qs : List PC} (h : part d = some p) (e : runG part prev (d :: l) = some qs) : qs.head? = some p := by
  have e' : (match part d with | none => none | some p => if prev && p.isPlain then none else (runG part p.isPlain l).map (p :: ·)) = some qs := e
  rw [h] at e'
  dsimp only at e'
  split at e'
  · cases e'
  · cases hr : runG part p.isPlain l with
    | none => rw [hr] at e'; cases e'
    | some rs => rw [hr] at e'; cases e'; rfl
theorem norm_run {ds : List PyData} (h : runG (partD true) false ds = none) : normD (.list ds) = none := by
  show (match runG (partD true) false ds with | some ps => if endsOk ps then some ps else none | none => none) = _
  rw [h]
theorem norm_ends {ds : List PyData} (h : ∀ qs, runG (partD true) false ds = some qs → endsOk qs = false) : normD (.list ds) = none := by
  show (match runG (partD true) false ds with | some ps => if endsOk ps then some ps else none | none => none) = _
  cases e : runG (partD true) false ds with
  | none => rfl
  | some qs => dsimp only; rw [h qs e]; rfl
theorem ends_hd {qs : List PC} {p : PC} (h : qs.head? = some p) (k : stP p = true) : endsOk qs = false := by
  cases qs with
  | nil => cases h
  | cons x xs =>
    cases h
    have e : endsOk (p :: xs) = (!(stP p) && !(enP ((p :: xs).getLast (by simp)))) := rfl
    rw [e, k]; rfl
theorem ends_la {qs : List PC} {p : PC} (h : qs.getLast? = some p) (k : enP p = true) : endsOk qs = false := by
  cases qs with
  | nil => cases h
  | cons x xs =>
    have e : endsOk (x :: xs) = (!(stP x) && !(enP ((x :: xs).getLast (by simp)))) := rfl
    have hl : (x :: xs).getLast (by simp) = p := by
      rw [List.getLast?_eq_some_getLast (by simp)] at h
      exact Option.some.inj h
    rw [e, hl, k]
    exact Bool.and_false _
theorem odd_in {d : PyData} (h : OddD d) : partD true (.tuple [.str kStrong, .list [.tuple [.str kCode, .str "a"], d, .tuple [.str kCode, .str "b"]]]) = none := by
  obtain ⟨n1, n2, n3, n4, n5, n6, _⟩ := kinds
  rw [partD_2, if_neg (Ne.symm n3), if_neg (Ne.symm n5), if_neg (Ne.symm n6), if_pos rfl, if_pos rfl]
  have : innerD (.list [.tuple [.str kCode, .str "a"], d, .tuple [.str kCode, .str "b"]]) = none := by
    show (match runG (partG noGo) false ([.tuple [.str kCode, .str "a"]] ++ d :: [.tuple [.str kCode, .str "b"]]) with | some (p :: ps) => some (ones (p :: ps)) | _ => none) = _
    rw [run_none (part := partG noGo) h.2.1]
  rw [this]
  rfl
section
variable {P : Program} {w : World} {K : PySem.W.Frag} {mg : Str → Option Value} {base : Heap}
abbrev sWrong : Stmt := top 44
theorem scWrong : FnScope ["_law_due", "_law_number", "_law_way", "_law_more", "_law_at"] ["_law_due", "_law_number"] (defScope sWrong) := ⟨rfl, rfl, rfl, by decide +kernel, rfl, by decide +kernel, by decide +kernel⟩
theorem cutV_to (xs : List V) (k : Nat) : cutV xs none (some (k : Int)) = xs.take k := by
  unfold cutV
  rw [HT.sIx_nat, HT.sIx_none, List.drop_zero, Nat.sub_zero]
  rcases Nat.le_total k xs.length with h | h
  · rw [Nat.min_eq_left h]
  · rw [Nat.min_eq_right h, List.take_length, List.take_of_length_le h]
theorem cutV_from (xs : List V) (k : Nat) : cutV xs (some (k : Int)) none = xs.drop k := by
  unfold cutV
  rw [HT.sIx_nat, HT.sIx_none]
  rcases Nat.le_total k xs.length with h | h
  · rw [Nat.min_eq_left h, List.take_of_length_le (by rw [List.length_drop]; omega)]
  · rw [Nat.min_eq_right h, List.drop_of_length_le h, List.drop_of_length_le (Nat.le_refl _), List.take_nil]
theorem cat3 {K : PySem.W.Frag} {tm lo : TE} {σ : St} {H : Hp} {Q : VK} {p : Addr} {xs : List V} {ds : List PyData} {a k : Nat} (Pm : List PyData → Prop) (h0 : σ[0]? = some (some (.ref p))) (h4 : σ[4]? = some (some (.int (a : Int)))) (hp : H p = some (.lst xs)) (hx : DnAll H xs ds) (hl : ds.length ≤ 1000)
    (hm : ∀ H1 (R : VK), Same H H1 → (∀ m ms es H2, Same H1 H2 → H2 m = some (.lst ms) → DnAll H2 ms es → es.length ≤ 10 → Pm es → R (.ref m) H2) → tm σ H1 R) (hlo : ∀ H', Ev lo σ H' (.int (k : Int)))
    (q : ∀ r ys es H', Same H H' → H r = none → H' r = some (.lst ys) → DnAll H' ys (ds.take a ++ es ++ ds.drop k) → es.length ≤ 10 → Pm es → Q (.ref r) H') :
    tOp rCat (tOp rCat (tSl (rSlL K) (tVar 0) tNoPart (tPart (tVar 4))) tm) (tSl (rSlL K) (tVar 0) (tPart lo) tNoPart) σ H Q := by
  have hxl := hx.len
  refine ⟨_, h0, _, h4, _, rfl, p, xs, rfl, SqL.of hp, fun b hb => ?_⟩
  rw [cutV_to]
  have s1 := same_new hb (.lst (xs.take a))
  have e1 : upd H b (.lst (xs.take a)) b = some (.lst (xs.take a)) := upd_same
  generalize upd H b (.lst (xs.take a)) = H1 at s1 e1 ⊢
  refine hm _ _ s1 fun m ms es H2 s2 e2 k2 l2 pm => ?_
  have ml := k2.len
  refine ⟨b, m, _, ms, rfl, rfl, s2 _ _ e1, e2, by rw [sizeLine_eq, List.length_take]; omega, fun c hc => ?_⟩
  have s3 := same_new hc (.lst (xs.take a ++ ms))
  have e3 : upd H2 c (.lst (xs.take a ++ ms)) c = some (.lst (xs.take a ++ ms)) := upd_same
  generalize upd H2 c (.lst (xs.take a ++ ms)) = H3 at s3 e3 ⊢
  have s13 := (s1.trans s2).trans s3
  refine ⟨_, h0, hlo _ _ ⟨_, rfl, p, xs, rfl, SqL.of (s13 _ _ hp), fun d hd => ?_⟩⟩
  rw [cutV_from]
  have s4 := same_new hd (.lst (xs.drop k))
  have e4 : upd H3 d (.lst (xs.drop k)) d = some (.lst (xs.drop k)) := upd_same
  generalize upd H3 d (.lst (xs.drop k)) = H4 at s4 e4 ⊢
  refine ⟨c, d, _, _, rfl, rfl, s4 _ _ e3, e4, by rw [sizeLine_eq, List.length_append, List.length_take, List.length_drop]; omega, fun r hr => ?_⟩
  have s14 := s13.trans s4
  have s5 := same_new hr (.lst (xs.take a ++ ms ++ xs.drop k))
  refine q r _ es _ (s14.trans s5) (s14.free hr) upd_same ?_ l2 pm
  have hx5 := hx.same (s14.trans s5)
  exact ((hx5.take a).app (k2.same ((s3.trans s4).trans s5))).app (hx5.drop k)
theorem mid_deep {ds es : List PyData} {a k : Nat} (h : ∀ d ∈ ds, d.depth ≤ 20) (g : ∀ d ∈ es, d.depth ≤ 20) : ∀ d ∈ ds.take a ++ es ++ ds.drop k, d.depth ≤ 20 := fun d hd => by
  rcases List.mem_append.mp hd with z | z
  · rcases List.mem_append.mp z with z | z
    · exact h d (List.mem_of_mem_take z)
    · exact g d z
  · exact h d (List.mem_of_mem_drop z)
theorem lit_deep {ds : List PyData} (h : ds.all (fun d => decide (d.depth ≤ 20)) = true) : ∀ d ∈ ds, d.depth ≤ 20 := fun d hd => of_decide_eq_true (List.all_eq_true.mp h d hd)
theorem odd_deep {d : PyData} (h : OddD d) : (PyData.tuple [.str kStrong, .list [.tuple [.str kCode, .str "a"], d, .tuple [.str kCode, .str "b"]]]).depth ≤ 20 := by
  refine depth_tup fun x hx => ?_
  simp only [List.mem_cons, List.not_mem_nil, or_false] at hx
  rcases hx with rfl | rfl
  · rw [depth_str]; decide
  · refine depth_list (n := 18) fun x hx => ?_
    simp only [List.mem_cons, List.not_mem_nil, or_false] at hx
    rcases hx with rfl | rfl | rfl
    · exact Nat.le_trans (d1_depth (.code "a")) (by decide)
    · exact Nat.le_trans h.2.2 (by decide)
    · exact Nat.le_trans (d1_depth (.code "b")) (by decide)
def spWrong : Sp := fun vs H Q _ => ∃ (p : Addr) (xs : List V) (ds : List PyData) (n : Int), vs = [.ref p, .int n] ∧ H p = some (.lst xs) ∧ DnAll H xs ds ∧ ds ≠ [] ∧ ds.length ≤ 1000 ∧ (∀ d ∈ ds, d.depth ≤ 20) ∧ 0 ≤ n ∧ n ≤ 4294967296 ∧ ∀ r ys es H', Same H H' → H r = none → H' r = some (.lst ys) → DnAll H' ys es → es.length ≤ 2100 → (∀ d ∈ es, d.depth ≤ 20) → normD (.list es) = none → Q (.ref r) H'
theorem ok_wrong {f : Addr} {fd : FuncData} (F : Fun K "_law_wrong" "_law_wrong" sWrong f fd) (T : TxL mg) (D_l_odd : Def P w K mg base 1 "_law_odd" ["_law_number"] spOdd) :
    FnOk P w K mg base CX0 2 f fd ["_law_due", "_law_number"] spWrong := by
  have sc := scWrong
  refine F.ok sc (fun vs H Q E h => ?_) (fun cdv A outer s H vs Q E hr h => ?_)
  · obtain ⟨p, xs, ds, n, rfl, _⟩ := h
    rfl
  obtain ⟨p, xs, ds, n, rfl, hp, hxs, dne, dl, dd0, n0, n1, q⟩ := h
  refine of_XB (xbc (xset (i := 2) sc.nd rfl (Or.inl rfl) (xop op_mod (xv 1) xint))
    (xbc (xset (i := 3) sc.nd rfl (Or.inl rfl) (xop op_fdiv (xv 1) xint))
    (xbc (xset (i := 4) sc.nd rfl (Or.inl rfl) (xop op_mod (xv 3) (xcB call_len_seq T.n_len PySem.boot_len (xac (xv 0) xa0))))
    (xbc (xif (xcmpT op_lt (xv 2) xint (nomark _)) (xb1 (xret (xop op_cat (xop op_cat (xsl sl_list (xv 0) xo0 (xo1 (xv 4))) (xlst (xac (xcD D_l_odd (hr.mono (by omega)) (xac (xop op_fdiv (xv 3) xint) xa0)) xa0))) (xsl sl_list (xv 0) (xo1 (xop op_add (xv 4) (xv 2))) xo0)))) xb0)
    (xbc (xif (xcmpT op_eq (xv 2) xint (nomark _)) (xb1 (xret (xop op_cat (xop op_cat (xsl sl_list (xv 0) xo0 (xo1 (xv 4))) (xlst (xac (xtup (xac xstr (xac (xlst (xac (xl_tup (xlsc (xl_str (by decide +kernel)) (xlsc (xl_str (by decide +kernel)) xls0))) (xac (xcD D_l_odd (hr.mono (by omega)) (xac (xop op_fdiv (xv 3) xint) xa0)) (xac (xl_tup (xlsc (xl_str (by decide +kernel)) (xlsc (xl_str (by decide +kernel)) xls0))) xa0)))) xa0))) xa0))) (xsl sl_list (xv 0) (xo1 (xv 4)) xo0)))) xb0)
    (xbc (xif (xcmpT op_eq (xv 2) xint (nomark _)) (xb1 (xret (xop op_cat (xop op_cat (xsl sl_list (xv 0) xo0 (xo1 (xv 4))) (xl_lst (xlsc (xl_tup (xlsc (xl_str (by decide +kernel)) (xlsc (xl_str (by decide +kernel)) xls0))) (xlsc (xl_tup (xlsc (xl_str (by decide +kernel)) (xlsc (xl_str (by decide +kernel)) xls0))) xls0)))) (xsl sl_list (xv 0) (xo1 (xv 4)) xo0)))) xb0)
    (xbc (xif (xcmpT op_eq (xv 2) xint (nomark _)) (xb1 (xret (xop op_cat (xl_lst (xlsc (xl_tup (xlsc (xl_str (by decide +kernel)) (xlsc (xl_str (by decide +kernel)) xls0))) (xlsc (xl_tup (xlsc (xl_str (by decide +kernel)) (xlsc (xl_str (by decide +kernel)) xls0))) xls0))) (xv 0)))) xb0)
    (xb1 (xret (xop op_cat (xv 0) (xl_lst (xlsc (xl_tup (xlsc (xl_str (by decide +kernel)) (xlsc (xl_str (by decide +kernel)) xls0))) (xlsc (xl_tup (xlsc (xl_str (by decide +kernel)) (xlsc (xl_str (by decide +kernel)) xls0))) xls0))))))))))))) ?_
  have hs : sizeLine = 16777216 := sizeLine_eq
  rw [show start ["_law_due", "_law_number", "_law_way", "_law_more", "_law_at"] [V.ref p, V.int n] = [some (V.ref p), some (V.int n), none, none, none] from rfl]
  have hxl := hxs.len
  have hpos : 0 < xs.length := by
    rw [hxl]
    exact List.length_pos_iff.mpr dne
  obtain ⟨a, ha, hal⟩ : ∃ a : Nat, n / 6 % (xs.length : Int) = (a : Int) ∧ a < xs.length := by
    have g1 := Int.emod_nonneg (n / 6) (show (xs.length : Int) ≠ 0 by omega)
    have g2 := Int.emod_lt_of_pos (n / 6) (show (0 : Int) < (xs.length : Int) by omega)
    exact ⟨(n / 6 % (xs.length : Int)).toNat, by omega, by omega⟩
  refine ⟨_, rfl, _, _, rfl, rfl, show (0 : Int) < 6 by decide, _, rfl, _, _, rfl, rfl, ⟨by decide, by decide⟩, _, rfl, _, rfl, p, xs, rfl, .inl (SqL.of hp), _, _, rfl, rfl, by omega, ?_⟩
  dsimp only [gName, List.set_cons_succ, List.set_cons_zero]
  rw [ha]
  obtain ⟨w6, hw, hw6⟩ : ∃ w6 : Nat, n % 6 = (w6 : Int) ∧ w6 < 6 := ⟨(n % 6).toNat, by omega, by omega⟩
  rw [hw]
  have tW : ∀ (y : Nat) H', Tells (tTest (tOp rEq (tVar 2) (tC (.int (y : Int))))) [some (V.ref p), some (V.int n), some (V.int (w6 : Int)), some (V.int (n / 6)), some (V.int (a : Int))] H' (decide (w6 = y)) := fun y H' R k => ⟨_, rfl, rfl, _, rfl, by
    rw [show decide (V.int (w6 : Int) = V.int (y : Int)) = decide (w6 = y) by rw [decide_eq_decide]; exact ⟨fun z => Int.ofNat.inj (V.int.inj z), fun z => by rw [z]⟩]
    exact k _ (Same.refl _)⟩
  have tL : ∀ H', Tells (tTest (tOp (rI0 fun i j => V.bl (decide (i < j))) (tVar 2) (tC (.int 2)))) [some (V.ref p), some (V.int n), some (V.int (w6 : Int)), some (V.int (n / 6)), some (V.int (a : Int))] H' (decide (w6 < 2)) := fun H' R k => ⟨_, rfl, _, _, rfl, rfl, _, rfl, by
    rw [show decide ((w6 : Int) < 2) = decide (w6 < 2) by rw [decide_eq_decide]; omega]
    exact k _ (Same.refl _)⟩
  by_cases h2 : w6 < 2
  · refine s_yes ((tL _).eq (decide_eq_true h2)) fun H1 s1 => ?_
    refine cat3 (a := a) (k := a + w6) (fun es => ∃ d, es = [d] ∧ OddD d) rfl rfl (s1 _ _ hp) (hxs.same s1) dl (fun H2 R s2 k => ?_) (fun H' R k => ⟨_, rfl, _, rfl, _, _, rfl, rfl, k⟩) fun r ys es H3 s3 hr3 e3 k3 l3 pe => ?_
    · refine ⟨_, rfl, _, _, rfl, rfl, ⟨by decide, by decide⟩, n / 6 / 20, rfl, by omega, by omega, fun v d H3 s3 dn od => ⟨big (show (1 : Nat) ≤ 1000000 by decide), fun m hm => ?_⟩⟩
      exact k m [v] [d] _ (s3.trans (same_new hm _)) upd_same (.cons (dn.out.same (same_new hm _)) .nil) (show 1 ≤ 10 by decide) ⟨d, rfl, od⟩
    · obtain ⟨d, rfl, od⟩ := pe
      refine q r ys _ H3 (s1.trans s3) (s1.free hr3) e3 k3 (by rw [List.length_append, List.length_append, List.length_take, List.length_drop]; omega) (mid_deep dd0 fun x hx => by rw [List.mem_singleton.mp hx]; exact Nat.le_trans od.2.2 (by decide)) (norm_run ?_)
      rw [List.append_assoc]
      exact run_none (part := partD true) od.1 _ _
  refine s_no1 ((tL _).eq (decide_eq_false h2)) fun H1 s1 => ?_
  by_cases h3 : w6 = 2
  · refine s_yes ((tW 2 _).eq (decide_eq_true h3)) fun H2 s2' => ?_
    have s2 := s1.trans s2'
    refine cat3 (a := a) (k := a) (fun es => ∃ d, es = [d] ∧ partD true d = none ∧ d.depth ≤ 20) rfl rfl (s2 _ _ hp) (hxs.same s2) dl (fun H3 R s3 k => ?_) (fun H' R k => ⟨_, rfl, k⟩) fun r ys es H3 s3 hr3 e3 k3 l3 pe => ?_
    · refine fun v1 H4 s4 d4 => ⟨_, rfl, _, _, rfl, rfl, ⟨by decide, by decide⟩, n / 6 / 20, rfl, by omega, by omega, fun v d H5 s5 dn od v2 H6 s6 d6 => ⟨big (show (3 : Nat) ≤ 1000000 by decide), fun m hm => ⟨big (show (2 : Nat) ≤ 1000000 by decide), fun t ht => ⟨big (show (1 : Nat) ≤ 1000000 by decide), fun u hu => ?_⟩⟩⟩⟩
      have s7 := same_new hm (.lst [v1, v, v2])
      have e7 : upd H6 m (.lst [v1, v, v2]) m = some (.lst [v1, v, v2]) := upd_same
      generalize upd H6 m (.lst [v1, v, v2]) = H7 at s7 e7 ht hu ⊢
      have s8 := same_new ht (.tup [V.str "strong", .ref m])
      have e8 : upd H7 t (.tup [V.str "strong", .ref m]) t = some (.tup [V.str "strong", .ref m]) := upd_same
      generalize upd H7 t (.tup [V.str "strong", .ref m]) = H8 at s8 e8 hu ⊢
      have s9 := same_new hu (.lst [V.ref t])
      refine k u [V.ref t] [.tuple [.str kStrong, .list [.tuple [.str kCode, .str "a"], d, .tuple [.str kCode, .str "b"]]]] _ ((((s4.trans s5).trans s6).trans s7).trans (s8.trans s9)) upd_same (.cons (.tup (s9 _ _ e8) (.cons (.str _ (by decide +kernel) (by decide +kernel)) (.cons (.lst ((s8.trans s9) _ _ e7) ?_ (by show 3 ≤ 100000; decide)) .nil))) .nil) (show 1 ≤ 10 by decide) ⟨_, rfl, odd_in od, odd_deep od⟩
      have s79 := s7.trans (s8.trans s9)
      exact .cons (d4.out.same ((s5.trans s6).trans s79)) (.cons (dn.out.same (s6.trans s79)) (.cons (d6.out.same s79) .nil))
    · obtain ⟨d, rfl, od, odp⟩ := pe
      refine q r ys _ H3 (s2.trans s3) (s2.free hr3) e3 k3 (by rw [List.length_append, List.length_append, List.length_take, List.length_drop]; omega) (mid_deep dd0 fun x hx => by rw [List.mem_singleton.mp hx]; exact odp) (norm_run ?_)
      rw [List.append_assoc]
      exact run_none (part := partD true) od _ _
  refine s_no1 ((tW 2 _).eq (decide_eq_false h3)) fun H2 s2' => ?_
  have s2 := s1.trans s2'
  by_cases h4 : w6 = 3
  · refine s_yes ((tW 3 _).eq (decide_eq_true h4)) fun H3 s3' => ?_
    have s3 := s2.trans s3'
    refine cat3 (a := a) (k := a) (fun es => es = [.tuple [.str "plain", .str "a"], .tuple [.str "plain", .str "b"]]) rfl rfl (s3 _ _ hp) (hxs.same s3) dl (fun H4 R s4 k => ?_) (fun H' R k => ⟨_, rfl, k⟩) fun r ys es H4 s4 hr4 e4 k4 l4 pe => ?_
    · intro v H5 s5 d5
      cases d5 with
      | lst e dd l => exact k _ _ _ H5 s5 (dif_some e).2 (dd.same dif_same) (by decide) rfl
    · subst pe
      refine q r ys _ H4 (s3.trans s4) (s3.free hr4) e4 k4 (by rw [List.length_append, List.length_append, List.length_take, List.length_drop]; omega) (mid_deep dd0 (lit_deep (by decide +kernel))) (norm_run ?_)
      rw [List.append_assoc]
      exact run_two (part := partD true) (p := .one (.plain "a")) (q := .one (.plain "b")) (part_one ⟨by decide +kernel, by decide +kernel, by decide +kernel⟩) rfl (part_one ⟨by decide +kernel, by decide +kernel, by decide +kernel⟩) rfl _ _
  refine s_no1 ((tW 3 _).eq (decide_eq_false h4)) fun H3 s3' => ?_
  have s3 := s2.trans s3'
  by_cases h5 : w6 = 4
  · refine s_yes ((tW 4 _).eq (decide_eq_true h5)) fun H4 s4' => ?_
    have s4 := s3.trans s4'
    intro v H5 s5 d5
    cases d5 with
    | @lst b us _ e dd l =>
      have s45 := s4.trans s5
      have ul := dd.len
      have ul' : us.length = 2 := ul
      refine ⟨_, rfl, b, p, us, xs, rfl, rfl, (dif_some e).2, s45 _ _ hp, by rw [hs]; omega, fun r hr => ?_⟩
      have s6 := same_new hr (.lst (us ++ xs))
      refine q r _ _ _ (s45.trans s6) (s45.free hr) upd_same ((dd.same (dif_same.trans s6)).app (hxs.same (s45.trans s6))) (by rw [List.length_append]; show 2 + _ ≤ _; omega) (fun x hx => (List.mem_append.mp hx).elim (lit_deep (by decide +kernel) x) (dd0 x)) (norm_ends fun qs hq => ?_)
      exact ends_hd (run_first (part := partD true) (p := .one (.plain " a")) (part_one ⟨by decide +kernel, by decide +kernel, by decide +kernel⟩) hq) (by decide +kernel)
  refine s_no1 ((tW 4 _).eq (decide_eq_false h5)) fun H4 s4' => ?_
  have s4 := s3.trans s4'
  refine ⟨_, rfl, ?_⟩
  intro v H5 s5 d5
  cases d5 with
  | @lst b us _ e dd l =>
    have s45 := s4.trans s5
    have ul := dd.len
    have ul' : us.length = 2 := ul
    refine ⟨p, b, xs, us, rfl, rfl, s45 _ _ hp, (dif_some e).2, by rw [hs]; omega, fun r hr => ?_⟩
    have s6 := same_new hr (.lst (xs ++ us))
    refine q r _ _ _ (s45.trans s6) (s45.free hr) upd_same ((hxs.same (s45.trans s6)).app (dd.same (dif_same.trans s6))) (by rw [List.length_append]; show _ + 2 ≤ _; omega) (fun x hx => (List.mem_append.mp hx).elim (dd0 x) (lit_deep (by decide +kernel) x)) (norm_ends fun qs hq => ?_)
    refine ends_la (run_last (part := partD true) (d := .tuple [.str "plain", .str "a "]) (p := .one (.plain "a ")) (part_one (p := .plain "a ") ⟨by decide +kernel, by decide +kernel, by decide +kernel⟩) (ds ++ [.tuple [.str "code", .str "b"]]) false qs ?_) (by decide +kernel)
    rw [List.append_assoc]
    exact hq
end
end K7

set_option Elab.async false
set_option linter.all false
set_option maxRecDepth 100000
/-! Loops and unpacking while an exception is handled that has no other behind it. -/
namespace L2
open PySem PySem.Spec PyProof.Rows PySem.W
structure Lone (h : Heap) (e : Addr) : Prop where
  ex : ∃ (oe : Obj) (vs : Array Value), h.get? e = some oe ∧ oe.data = .fields vs ∧ vs[2]? = some .none
theorem Lone.keep {h h' : Heap} {e : Addr} (l : Lone h e) (k : ∀ o, h.get? e = some o → h'.get? e = some o) : Lone h' e := let ⟨oe, vs, a, b, c⟩ := l.ex; ⟨oe, vs, k _ a, b, c⟩
theorem Lone.lt {h : Heap} {e : Addr} (l : Lone h e) : e < h.objs.size := let ⟨_, _, a, _⟩ := l.ex; Heap.lt_size a
theorem entry_unch : entryFor table "proto.unchain" = some Builtin.«proto.unchain» := entryFor_of_tree (by kernel_rfl)
section
variable {prog : Program} {w : World} {A : Around} {E : Value → Shared → Prop} {s : Shared} {e a : Addr}
theorem unchainQ {Q : Value → Shared → Prop} {v : Value} (l : Lone s.heap e) (h : Q .none s) : wpAny (model prog w) A (runValue (.builtin "proto.unchain" ⟨[v, .ref e, .ref e, .bool false], []⟩)) Q E s := by
  obtain ⟨oe, vs, h1, h2, h3⟩ := l.ex
  refine wpAny_runValue (codeAny_builtin entry_unch ?_)
  unfold Builtin.«proto.unchain»
  show wpAny _ _ (field (.ref e) 2 >>= _) _ _ s
  refine wpAny_bind (wpAny_field h1 h2 h3 ?_)
  rw [if_pos (show (Value.none == Value.none) = true from rfl)]
  exact wpAny_pure h
theorem raiseQ {α : Type} {oa : Obj} {us : Array Value} {Q : α → Shared → Prop} (hh : A.handled = some (.ref e)) (l : Lone s.heap e) (hne : e ≠ a) (ha : s.heap.get? a = some oa) (hd : oa.data = .fields us) (hz : 2 < us.size)
    (k : E (.ref a) { s with heap := s.heap.update a (Obj.mapFields (·.setIfInBounds 2 (.ref e))) }) : wpAny (model prog w) A (raiseNew (.ref a) : Sem α) Q E s := by
  unfold raiseNew
  refine wpAny_bind (wpAny_handled ?_)
  rw [hh]
  show wpAny _ _ (if (Value.ref e != Value.ref a) = true then _ else _) _ _ s
  rw [if_pos (by simp [hne])]
  refine wpAny_bind (wpAny_holding (unchainQ l (wpAny_bind ?_)))
  simp only [updateField]
  refine wpAny_bind (wpAny_load ha ?_)
  rw [hd]
  show wpAny _ _ (if 2 < us.size then _ else _) _ _ s
  rw [if_pos hz]
  exact wpAny_update ha (wpAny_throw k)
/-- StopIteration is made and raised -/
theorem stopQ {α : Type} {Q : α → Shared → Prop} (hh : A.handled = some (.ref e)) (l : Lone s.heap e)
    (k : ∀ h' b, (∀ c o, s.heap.get? c = some o → h'.get? c = some o) → (∃ o, h'.get? b = some o ∧ o.cls = .type "StopIteration") → E (.ref b) { s with heap := h' }) : wpAny (model prog w) A (newExc (.type "StopIteration") [] >>= fun x => (raiseNew x : Sem α)) Q E s := by
  refine wpAny_bind ?_
  unfold newExc newTuple
  refine wpAny_bind (wpAny_newObj_type ?_ (by size_fits))
  refine wpAny_bind (wpAny_of_eq (a := Value.none) (by first | rfl | (simp only [firstArgMember]; rfl)) ?_)
  refine wpAny_newObj_type ?_ (by size_fits)
  dsimp only
  generalize hg : s.heap.push _ = g
  have hs : ∀ c o, s.heap.get? c = some o → g.get? c = some o := fun c o q => by rw [← hg]; exact Heap.get?_push_of_some _ q
  have l1 : Lone g e := l.keep (hs e)
  have l2 : ∀ ob : Obj, Lone (g.push ob) e := fun ob => l1.keep fun o q => Heap.get?_push_of_some ob q
  refine raiseQ (us := #[_, .none, .none, .none, .bool false, .none]) hh (l2 _) (Nat.ne_of_lt l1.lt) (Heap.get?_push_size _ rfl) rfl (show 2 < 6 by decide) (k _ _ (fun c o q => ?_) ⟨_, Heap.get?_update_self _ (Heap.get?_push_size _ rfl) rfl, rfl⟩)
  rw [Heap.get?_update_other _ _ (Nat.ne_of_gt (Heap.lt_size (hs c o q)))]
  exact Heap.get?_push_of_some _ (hs c o q)
theorem next_listQ {j a : Addr} {i : Nat} {vs : Array Value} {Q : Option Value → Shared → Prop} (hh : A.handled = some (.ref e)) (l : Lone s.heap e) (hj : s.heap.IsListIter j a i) (hl : s.heap.IsList a vs) (hv : vs[i]? = none) (hne : e ≠ j)
    (k : ∀ h', Heap.ExtBut j s.heap h' → Q none { s with heap := h' }) : wpAny (model prog w) A (pyNext (.ref j)) Q E s := by
  obtain ⟨oj, gj, cj, dj⟩ := id hj
  obtain ⟨oa, ga, _, nn, da⟩ := hl
  unfold pyNext
  refine wpAny_bind (wpAny_attempt (wpAny_callSpecial?_slot (name := Str.ofString "__next__") hj.typeIs slot_listiter_next (wpAny_call_entry slot_listiter_next hj.typeIs entry_listiter_next ?_ (args_listiter_next _))))
  show wpAny _ _ (field (.ref j) 0 >>= _) _ _ s
  refine wpAny_bind (wpAny_field gj dj (x := .ref a) rfl ?_)
  show wpAny _ _ (if (Value.ref a == Value.none) = true then _ else _) _ _ s
  rw [if_neg (show ¬ ((Value.ref a == Value.none) = true) from Bool.false_ne_true)]
  show wpAny _ _ (field (.ref j) 1 >>= _) _ _ s
  refine wpAny_bind (wpAny_field gj dj (x := .int i 0) rfl ?_)
  show wpAny _ _ (seqItems? (.ref a) >>= _) _ _ s
  refine wpAny_bind (wpAny_seqItems ga da ?_)
  simp only [Int.toNat_natCast, hv]
  refine wpAny_bind (wpAny_rule (wpAny_bind (wpAny_setField gj dj (by simp) ?_)))
  refine stopQ (e := e) hh (l.keep fun o q => (Heap.get?_update_other _ _ (Ne.symm hne)).trans q) fun h' b h1 ⟨ob, h2, h3⟩ => ?_
  refine wpAny_bind (wpAny_isInstance (T := "StopIteration") (b := true) ⟨ob, h2, h3⟩ isSubtype_stop ?_)
  exact wpAny_pure (k h' fun c o hc q => h1 c o ((Heap.get?_update_other _ _ (Ne.symm hc)).trans q))
theorem next_tupQ {j a : Addr} {i : Nat} {vs : Array Value} {Q : Option Value → Shared → Prop} (hh : A.handled = some (.ref e)) (l : Lone s.heap e) (hj : IsTupIter s.heap j a i) (hl : IsTup s.heap a vs) (hv : vs[i]? = none) (hne : e ≠ j)
    (k : ∀ h', Heap.ExtBut j s.heap h' → Q none { s with heap := h' }) : wpAny (model prog w) A (pyNext (.ref j)) Q E s := by
  obtain ⟨oj, gj, cj, dj⟩ := id hj
  obtain ⟨oa, ga, _, nn, da⟩ := hl
  unfold pyNext
  refine wpAny_bind (wpAny_attempt (wpAny_callSpecial?_slot (name := Str.ofString "__next__") hj.typeIs slot_tupleiter_next (wpAny_call_entry slot_tupleiter_next hj.typeIs entry_tupleiter_next ?_ (args_tupleiter_next _))))
  show wpAny _ _ (field (.ref j) 0 >>= _) _ _ s
  refine wpAny_bind (wpAny_field gj dj (x := .ref a) rfl ?_)
  show wpAny _ _ (if (Value.ref a == Value.none) = true then _ else _) _ _ s
  rw [if_neg (show ¬ ((Value.ref a == Value.none) = true) from Bool.false_ne_true)]
  show wpAny _ _ (field (.ref j) 1 >>= _) _ _ s
  refine wpAny_bind (wpAny_field gj dj (x := .int i 0) rfl ?_)
  show wpAny _ _ (seqItems? (.ref a) >>= _) _ _ s
  refine wpAny_bind (wpAny_seqItems ga da ?_)
  simp only [Int.toNat_natCast, hv]
  refine wpAny_bind (wpAny_rule (wpAny_bind (wpAny_setField gj dj (by simp) ?_)))
  refine stopQ (e := e) hh (l.keep fun o q => (Heap.get?_update_other _ _ (Ne.symm hne)).trans q) fun h' b h1 ⟨ob, h2, h3⟩ => ?_
  refine wpAny_bind (wpAny_isInstance (T := "StopIteration") (b := true) ⟨ob, h2, h3⟩ isSubtype_stop ?_)
  exact wpAny_pure (k h' fun c o hc q => h1 c o ((Heap.get?_update_other _ _ (Ne.symm hc)).trans q))
theorem unpackQ {t : Addr} {vs : Array Value} {Q : List Value → Shared → Prop} (hh : A.handled = some (.ref e)) (l : Lone s.heap e) (ht : IsTup s.heap t vs) (k : ∀ h', Heap.ExtBut s.heap.objs.size s.heap h' → Q vs.toList { s with heap := h' }) :
    wpAny (model prog w) A (unpackItems (.ref t) vs.size none) Q E s := by
  have tj : t ≠ s.heap.objs.size := by obtain ⟨o, q, _⟩ := ht; exact Nat.ne_of_lt (Heap.lt_size q)
  have ej : e ≠ s.heap.objs.size := Nat.ne_of_lt l.lt
  unfold unpackItems notIterableAtAll
  refine wpAny_bind (wpAny_bind (wpAny_specialOf ht.typeIs slot_tuple_iter.lookup (wpAny_pure ?_)))
  simp only [Bool.false_eq_true, if_false]
  refine wpAny_bind (wpAny_holding (iter_tuple ht (wpAny_bind (wpAny_holding (draw_tuple tj vs.size 0 _ _ ⟨_, Heap.get?_push_size _ rfl, rfl, rfl⟩ (ht.push _) (by omega) fun g gj gs => ?_)))))
  rw [show List.take vs.size (List.drop 0 vs.toList) = vs.toList from by rw [List.drop_zero]; exact List.take_of_length_le (by simp), if_neg (by simp)]
  have lg : Lone g e := l.keep fun o q => (gs.2 e ej).trans (Heap.get?_push_of_some _ q)
  refine wpAny_bind (wpAny_holding (next_tupQ hh lg gj ((ht.push _).extBut gs.extBut tj) (by simp) ej fun g2 x2 => ?_))
  simp only [Option.isSome_none, Bool.false_eq_true, if_false]
  exact wpAny_pure (k g2 fun b o hb q => x2 b o hb (gs.extBut b o hb (Heap.get?_push_of_some _ q)))
theorem assignQ {env : Env} {es : List Expr} {x1} {pos : Pos} {t : Addr} {vs : Array Value} {Q : Unit → Shared → Prop} (hh : A.handled = some (.ref e)) (l : Lone s.heap e) (ht : IsTup s.heap t vs) (hn : (assignEach es env).length = vs.size) (hst : (assignEach es env).findIdx? (·.1) = none)
    (k : ∀ h', Heap.ExtBut s.heap.objs.size s.heap h' → wpAny (model prog w) A (assignInOrder ((assignEach es env).map (·.2)) vs.toList) Q E { s with heap := h' }) : wpAny (model prog w) A (assign (.Tuple es x1 pos) env (.ref t)) Q E s := by
  rw [assign_Tuple]
  unfold unpack
  refine wpAny_bind (wpAny_standAt ?_)
  rw [hn, hst]
  exact wpAny_bind (wpAny_holding (unpackQ hh l ht k))
end
end L2

set_option Elab.async false
set_option linter.all false
set_option maxRecDepth 100000
/-! The rules while an exception is handled that has no other behind it. -/
namespace L2
open PySem PySem.Spec PyProof.Rows PySem.W
def LoneH (H : Hp) (e : Addr) : Prop := ∃ (oe : Obj) (u : HO) (vs : Array Value), H e = some (.frz oe u) ∧ oe.data = .fields vs ∧ vs[2]? = some .none
/-- the exception at e is handled, and nothing is behind it -/
structure HushX (e : Addr) (X : Cx) : Prop where
  hd : X.A.handled = some (.ref e)
  fz : LoneH X.H₀ e
section
variable {X : Cx} {e : Addr} {pins : List (Addr × Obj)} {σ : St} {H : Hp} {s : Shared}
theorem Inv.loneH (I : Inv X pins σ H s) (h : HushX e X) : LoneH H e := let ⟨oe, u, vs, h1, h2, h3⟩ := h.fz; ⟨oe, u, vs, I.base.frzs e oe u h1, h2, h3⟩
theorem Inv.lone (I : Inv X pins σ H s) (h : HushX e X) : Lone s.heap e := by
  obtain ⟨oe, u, vs, h1, h2, h3⟩ := I.loneH h
  exact ⟨oe, vs, (show ObjOk X.prog X.w H s.heap e (.frz oe u) from I.hok e _ h1).1, h2, h3⟩
theorem HushX.comp {scope : Scope} {cl : List (Str × Addr)} {C : Addr} {N' : List Str} {fp : List Addr} (h : HushX e X) (I : Inv X pins σ H s) : HushX e (compX X scope cl C N' fp s H) := ⟨h.hd, I.loneH h⟩
end
section
variable {X : Cx} {pos : Pos} {e : Addr}
theorem pg_tupQ {es : List Expr} {k : Nat} {t : TGs} {n : Nat} (hq : HushX e X) (h : PGs X es t) (hn : (assignEach es X.env).length = n := by rfl) (hst : (assignEach es X.env).findIdx? (·.1) = none := by rfl) : PG X (.Tuple es k pos) (gTup X.K n t) := by
  intro pins s σ H v u Q I r hw
  obtain ⟨a, xs, e1, hs, hl, hw⟩ := hw
  subst e1
  cases r
  obtain ⟨its, rv, ht, hz⟩ := I.tuple hs
  refine assignQ hq.hd (I.lone hq) ht (by simp [hn, ← hl, rv.length]) hst fun h' hx => ?_
  have I1 : Inv X pins σ H { s with heap := h' } := I.kept (t' := s.toks) fun b o q => hx b o (Nat.ne_of_lt (Heap.lt_size q)) q
  exact h pins _ σ H xs _ Q I1 (by simpa using rv) hw
theorem turn_listQ {P : Program} {w : World} {K : PySem.W.Frag} {tg : Expr} (a it : Addr) : TurnP (HushX e) P w K tg (Itl K a) [it] it (fun i h => h.IsListIter it a i) where
  obj := (turn_list (P := P) (w := w) (K := K) (tg := tg) a it).obj
  keep := (turn_list (P := P) (w := w) (K := K) (tg := tg) a it).keep
  self := (turn_list (P := P) (w := w) (K := K) (tg := tg) a it).self
  item := by
    intro X hP hw hK hc i pins s σ H E I hf st hg
    subst hP hw hK
    obtain ⟨xs, x, hq, hx⟩ := hg
    obtain ⟨its, rv, p, hz⟩ := I.list hq
    obtain ⟨u, hu, ru⟩ := rv.get hx
    obtain ⟨f0, f1, f2, f3, f4, f5⟩ := hf it (List.mem_singleton.mpr rfl)
    refine wpAny_pyNext_list_item st p.isList (x := u) (by simpa using hu) fun g stg sb => ?_
    obtain ⟨o, q, c, d⟩ := id stg
    exact ⟨u, rfl, go_of (s := { s with heap := g }) q c d (by decide) ⟨x, H, I.turned (t' := s.toks) (fun b o hb q => (sb.2 b hb).trans q) f0 f1 f3 f4 f5, ru, ⟨rfl, fun ys hy => by rw [I.list_inj hy hq]; exact hx⟩, stg, fun b hb => (hf b hb).1⟩⟩
  done := by
    intro X hP hw hK hc i pins s σ H E I hf st hg
    subst hP hw hK
    obtain ⟨xs, hq, hx⟩ := hg
    obtain ⟨its, rv, p, hz⟩ := I.list hq
    obtain ⟨f0, f1, f2, f3, f4, f5⟩ := hf it (List.mem_singleton.mpr rfl)
    have hl := rv.length
    have hne : e ≠ it := fun z => by
      obtain ⟨oe, u, vs, h1, _⟩ := I.loneH hc
      rw [z, f0] at h1; cases h1
    exact next_listQ hc.hd (I.lone hc) st p.isList (by simp; omega) hne fun g eb => ⟨rfl, I.turned (t' := s.toks) (fun b o hb q => eb b o hb q) f0 f1 f3 f4 f5⟩
section
variable {scope : Scope} {cl : List (Str × Addr)} {own : List Str} {fr : List Nat} {N' : List Str} {tg iter elt : Expr} {ifs : List Expr} {tl : TE} {g : TG} {tt : TT} {te : TE}
theorem ps_setlcQ {i : Nat} {x : Str} {pos' spos : Pos} (hN : X.N.Nodup) (hix : X.N[i]? = some x) (hx : X.env.scope.names.lookup x = some .local) (hq : HushX e X) (Z : CompN X scope cl own fr N') (hcell : ∀ y ∈ scope.names, y.2 ≠ .cell)
    (hnames : ∀ x ∈ scope.names, x.2 = .local → scope.names.lookup x.1 = some .local) (hclos : closureFor scope X.env = pure cl) (hi : PE X iter tl)
    (hg : ∀ C fp s H, HushX e (compX X scope cl C N' fp s H) → PG (compX X scope cl C N' fp s H) tg g) (ht : ∀ C fp s H, PTs (compX X scope cl C N' fp s H) ifs tt) (he : ∀ C fp s H, PE (compX X scope cl C N' fp s H) elt te)
    (hs : ∀ x, foldedSetIterable iter X.env x = pure x := by intro _; rfl) (hsw : swapsWith (.ListComp elt [⟨tg, iter, ifs, 0⟩] scope pos) (some (.Name x pos')) spos.line X.env = pure true := by rfl) :
    PS X (.Assign [.Name x pos'] (.ListComp elt [⟨tg, iter, ifs, 0⟩] scope pos) spos) (tSetLC i (iList X.K tl) own.length fr g tt te) := by
  intro pins s σ H D I h
  rw [exec_Assign_Name_used _ _ _ _ hsw]
  refine wpAny_bind (wpAny_standAt (wpAny_bind ?_))
  show wpAny _ X.A (do let _ ← comprehension (.ListComp elt [⟨tg, iter, ifs, 0⟩] scope pos) scope X.env _ (newList []) false (eval iter X.env) (some (assign (.Name x pos') X.env))) _ _ s
  refine wpAny_bind (wpAny_mono (wpAny_comprehension_free (use := some (assign (.Name x pos') X.env)) (Q := fun _ s' => SP X pins D .next s') rfl hs hclos Z.kind hnames
    (thn (hi pins s σ H _ I h) fun v s1 h1 => ?_)) (fun _ s' hq => wpAny_pure (wpAny_pure hq)) fun _ _ q => q)
  obtain ⟨y, H1, I1, r1, a, e1, ⟨xs, hsq⟩, q1⟩ := h1
  subst e1
  cases r1
  obtain ⟨its, rv, p, hz⟩ := I1.list hsq
  refine wpAny_pyIter_list p.isList ?_
  have I2 : Inv X pins σ H1 { s1 with heap := s1.heap.push { cls := .type "list_iterator", dict := none, data := .fields #[.ref a, .int 0 0] } } := I1.kept (t' := s1.toks) fun b o q => Heap.get?_push_of_some _ q
  refine comp_block (Cm := HushX e) (it := s1.heap.objs.size) (fp := [s1.heap.objs.size]) (J := Itl X.K a) (fun C => hq.comp I2) Z hcell (fun C => hg C _ _ _ (hq.comp I2)) (fun C => ht C _ _ _) (fun C => he C _ _ _) I2 (turn_listQ a _) ⟨_, Heap.get?_push_size _ rfl, rfl, rfl⟩ (fun b hb => ?_) q1
    (RR := fun acc C => compPost (model X.prog X.w) X.A X.xe (some (assign (.Name x pos') X.env)) (fun _ s' => SP X pins D .next s') acc C) fun a C s' H' hC ⟨m, hm⟩ fC I' q' => ?_
  · rw [List.mem_singleton.mp hb]
    exact I1.fpOk (Nat.le_refl _) (I1.hok.fresh (Nat.le_refl _))
  show wpAny _ _ (assign (.Name x pos') X.env (.ref a)) _ _ s'
  have neC : ∀ b, b = X.env.locals ∨ X.env.cells.lookup x = some b → C ≠ b := fun b hb z => by
    subst z
    rcases hb with q | q
    · exact Nat.ne_of_gt (Nat.lt_of_lt_of_le I2.lt hC) q
    · obtain ⟨v, y⟩ := I2.cell x C q
      exact absurd (Nat.lt_of_lt_of_le y.lt hC) (Nat.lt_irrefl _)
  refine wpAny_assign_Name (store_ok2 I' hN hix (.inl hx) (v := .ref a) rfl (fun s'' I'' ⟨b, sb, eb⟩ => ?_) (.inr hx))
  refine ⟨m, hm.sameBut sb (neC b eb), fun h' hs' => ⟨_, H', comp_gone I2 hC I'' fC hs', q'⟩⟩
theorem xslcQ {i : Nat} {x : Str} {pos' spos : Pos} (hN : X.N.Nodup) (hix : X.N[i]? = some x) (hx : X.env.scope.names.lookup x = some .local) (hq : HushX e X) (Z : CompN X scope cl own fr N') (hcell : ∀ y ∈ scope.names, y.2 ≠ .cell)
    (hnames : ∀ x ∈ scope.names, x.2 = .local → scope.names.lookup x.1 = some .local) (hclos : closureFor scope X.env = pure cl) (hi : XE X iter tl)
    (hg : ∀ C fp s H, HushX e (compX X scope cl C N' fp s H) → XG (compX X scope cl C N' fp s H) tg g) (ht : ∀ C fp s H, XQ (compX X scope cl C N' fp s H) ifs tt) (he : ∀ C fp s H, XE (compX X scope cl C N' fp s H) elt te)
    (hs : ∀ x, foldedSetIterable iter X.env x = pure x := by intro _; rfl) (hsw : swapsWith (.ListComp elt [⟨tg, iter, ifs, 0⟩] scope pos) (some (.Name x pos')) spos.line X.env = pure true := by rfl) :
    XS X (.Assign [.Name x pos'] (.ListComp elt [⟨tg, iter, ifs, 0⟩] scope pos) spos) (tSetLC i (iList X.K tl) own.length fr g tt te) :=
  ⟨ps_setlcQ hN hix hx hq Z hcell hnames hclos hi.h (fun C fp s H q => (hg C fp s H q).h) (fun C fp s H => (ht C fp s H).h) (fun C fp s H => (he C fp s H).h) hs hsw⟩
theorem xgtQ {C : Addr} {fp : List Addr} {s : Shared} {H : Hp} {es : List Expr} {k n : Nat} {tgs : TGs} (hq : HushX e (compX X scope cl C N' fp s H)) (h : XGs (compX X scope cl C N' fp s H) es tgs)
    (hn : (assignEach es (compX X scope cl C N' fp s H).env).length = n := by rfl) (hst : (assignEach es (compX X scope cl C N' fp s H).env).findIdx? (·.1) = none := by rfl) : XG (compX X scope cl C N' fp s H) (.Tuple es k pos) (gTup X.K n tgs) := ⟨pg_tupQ hq h.h hn hst⟩
end
end
/-! ### calls of a def within the suite -/
structure FnOkQ (P : Program) (w : World) (K : PySem.W.Frag) (mg : Str → Option Value) (base : Heap) (CX : CXT) (k : Nat) (f : Addr) (fd : FuncData) (ps : List Str) (sp : Addr → Sp) : Prop where
  len : ∀ e vs H Q E, sp e vs H Q E → vs.length = ps.length
  run : ∀ (e : Addr) (A : Around) (outer : List Env) (s : Shared) (H : Hp) (args : Args) (us : List Value) (vs : List V) (Q : VK) (E : XK), A.handled = some (.ref e) → RoomH k A → Env0 P w K mg base A outer s H → BindsTo s fd args (ps.zip us) → Vals vs us → sp e vs H Q E →
    codeAny (model P w) A (.call (.ref f) args) (CR CX outer P w H s Q E) s
theorem fn_ofQ {CX : CXT} {P : Program} {w : World} {K : PySem.W.Frag} {mg : Str → Option Value} {base : Heap} {k : Nat} {f : Addr} {name qual : Str} {params : Arguments} {body : List Stmt} {scope : Scope} {dV kV doc pm cdv ct oc : Value} {an od : Option Addr}
    {osl : Array (Option Value)} {N ps : List Str} {sp : Addr → Sp} (lk : K.lookup f = some ⟨oc, od, .func (PySem.W.fnOf name qual params body scope dV kV doc pm an cdv ct), osl⟩) (hcd : PySem.W.codeIn K cdv qual = true) (S : FnScope N ps scope)
    (len : ∀ e vs H Q E, sp e vs H Q E → vs.length = ps.length) (lone : ∀ e vs H Q E, sp e vs H Q E → LoneH H e)
    (hbody : ∀ (e : Addr) (A : Around) (outer : List Env) (s : Shared) (H : Hp) (vs : List V) (Q : VK) (E : XK), RoomH k (A.deeper (envOfC qual scope s.heap.objs.size f cdv)) → HushX e (cxH CX P w K mg base N qual scope f cdv A outer s H E) → sp e vs H Q E →
      ∃ t, PSs (cxH CX P w K mg base N qual scope f cdv A outer s H E) body t ∧ t { nx := fun _ H' => Q .non H', rt := Q } (start N vs) H) :
    FnOkQ P w K mg base CX (k + 1) f (PySem.W.fnOf name qual params body scope dV kV doc pm an cdv ct) ps sp := by
  refine ⟨len, fun e A outer s H args us vs Q E hA hr e0 hb r hsp => ?_⟩
  have hl := len _ _ _ _ _ hsp
  have KX : K.In s.heap := e0.mod.kin.keeps fun b o q => (e0.bs b o q).1
  have lim : s.heap.NoLimit := e0.mod.nolimit.keeps fun b o q => (e0.bs b o q).1
  have hkind : ∀ y ∈ ps.zip us, scope.names.lookup y.1 = some .local ∨ (scope.names.lookup y.1 = some .cell ∧ ((cellsFrom (s.heap.objs.size + 1) scope.names []).lookup y.1).isSome = true) := fun ⟨n, v⟩ hy => by
    rcases S.par n (List.of_mem_zip hy).1 with q | q
    · exact .inl q
    · exact .inr ⟨q, PySem.W.cellsFrom_some _ _ _ (.inl q)⟩
  refine codeAny_call_function hr.depth (KX _ _ lk) rfl S.co S.gen rfl (PySem.W.codeRec_of KX hcd) (hb _ _ _ _ ?_)
  refine wpAny_with_toks (n := 1) e0.tk (wpAny_newFunctionEnv_cells S.kind hkind fun env he s1 x htk => ?_)
  subst he
  refine ⟨lim.keeps x.toInCall.keep, codeAny_func ?_⟩
  obtain ⟨t, ht, hq⟩ := hbody e A outer s H vs Q E (hr.deeper _) ⟨hA, lone _ _ _ _ _ hsp⟩ hsp
  have I : Inv (cxH CX P w K mg base N qual scope f cdv A outer s H E) [] (start N vs) H s1 := inv_startH S e0 hl r htk x
  refine wpAny_mono (ht [] s1 (start N vs) H _ I hq) (fun fl s' hs => ?_) fun e s' hs => hs
  have fin : ∀ {σ' : St} {H' : Hp} {v : V} {u : Value}, Inv (cxH CX P w K mg base N qual scope f cdv A outer s H E) [] σ' H' s' → RelV v u → Q v H' → CE outer P w H s Q u s' :=
    fun {σ' H' v u} J rv q => ⟨v, H', J.os, J.bare, J.base, J.hok, J.tk, rv, q⟩
  cases fl with
  | ret u =>
    obtain ⟨v, σ', H', J, rv, q⟩ := hs
    exact fin J rv q
  | next =>
    obtain ⟨σ', H', J, q⟩ := hs
    exact fin (v := V.non) (u := Value.none) J rfl q
  | brk =>
    obtain ⟨_, _, _, q⟩ := hs
    exact False.elim q
  | cont =>
    obtain ⟨_, _, _, q⟩ := hs
    exact False.elim q
theorem Fun.okQ {P : Program} {w : World} {K : PySem.W.Frag} {mg : Str → Option Value} {base : Heap} {x qual : Str} {st : Stmt} {f : Addr} {fd : FuncData} {N ps : List Str} {k : Nat} {sp : Addr → Sp} (F : Fun K x qual st f fd) (S : FnScope N ps (defScope st)) (len : ∀ e vs H Q E, sp e vs H Q E → vs.length = ps.length) (lone : ∀ e vs H Q E, sp e vs H Q E → LoneH H e)
    (hbody : ∀ (e : Addr) (cdv : Value) (A : Around) (outer : List Env) (s : Shared) (H : Hp) (vs : List V) (Q : VK) (E : XK), RoomH k (A.deeper (envOfC qual (defScope st) s.heap.objs.size f cdv)) → HushX e (cxH CX0 P w K mg base N qual (defScope st) f cdv A outer s H E).nox → sp e vs H Q E →
      ∃ t, PSs (cxH CX0 P w K mg base N qual (defScope st) f cdv A outer s H E).nox (defBody st) t ∧ t { nx := fun _ H' => Q .non H', rt := Q } (start N vs) H) : FnOkQ P w K mg base CX0 (k + 1) f fd ps sp := by
  obtain ⟨oc, od, kV, doc, pm, an, cdv, ct, osl, rfl, lk, hcd⟩ := F.ex
  refine fn_ofQ lk hcd S len lone fun e A outer s H vs Q E hr hx hsp => ?_
  obtain ⟨t, h, q⟩ := hbody e cdv A outer s H vs Q E hr ⟨hx.hd, hx.fz⟩ hsp
  exact ⟨t, h.nox, q⟩
structure DefQ (P : Program) (w : World) (K : PySem.W.Frag) (mg : Str → Option Value) (base : Heap) (k : Nat) (x : Str) (ps : List Str) (sp : Addr → Sp) : Prop where
  ex : ∃ f fd, FnOkQ P w K mg base CX0 k f fd ps sp ∧ mg x = some (.ref f) ∧ PySem.W.keepIn K (.ref f) = true ∧ Binds K fd ps []
section
variable {X : Cx} {k : Nat} {x : Str} {ps : List Str} {sp : Addr → Sp} {a : Addr} {e : Expr} {es : List Expr} {te : TE} {t : TA} {p pos : Pos}
theorem xcQ (D : DefQ X.prog X.w X.K X.mg X.base k x ps sp) (hA : X.A.handled = some (.ref a)) (hr : RoomH k X.A) (ha : XA X (e :: es) t) (hg : Gl X x := by exact rfl) (hdb : (x == ("__debug__" : Str)) = false := by decide) (hst : noStars (e :: es) = true := by rfl) :
    XE X (.Call (.Name x p) (e :: es) [] pos) (tCall (sp a) [] E0 t) := by
  obtain ⟨f, fd, G, hm, hk, hb⟩ := D.ex
  obtain ⟨h1, h2⟩ := stars2 hst
  refine ⟨fun pins s σ H Q I h => ?_⟩
  refine wpAny_Call_Name_kw (ld_glob I hg hm ?_ hdb)
  refine PySem.W.callWith_K (h₀ := X.base) I.ok.mod.kin hk (thn (ha.h pos pins s σ H _ I h) fun us s1 ⟨vs, H1, I1, r, q⟩ => ⟨I1.kIn, ?_⟩) (star_cons h1) (stars_any h2)
  have r2 : Vals (vs ++ []) (us ++ []) := r.append .nil
  have hl : (us ++ []).length = ps.length := by rw [← r2.length]; exact G.len _ _ _ _ _ q
  refine wpAny_call (codeAny_mono (G.run a X.A X.stack s1 H1 ⟨us, []⟩ (us ++ []) (vs ++ []) Q E0 hA hr I1.env0 (hb s1 us I1.kIn hl) r2 q) fun r s' hq => ?_)
  cases r with
  | error ev => exact pass0 pins σ H1 s1 ev s' I1 hq
  | ok fl =>
    cases fl with
    | ret u => exact I1.after hq
    | next => exact False.elim hq
    | brk => exact False.elim hq
    | cont => exact False.elim hq
end
/-! ### try, the exception kept whole in its suite -/
def tTryF (K : PySem.W.Frag) (C : Addr) (i : Nat) (tb : TSx) (th : Addr → TS) : TS := fun D σ H =>
  tb (fun σ' cls H' => ∃ C' : Addr, cls = .ref C' ∧ PySem.W.exmOne K (.ref C') (.ref C) = some true ∧ ∀ e oe, H' e = none → LoneO oe (.ref C') → th e (D.but i) (σ'.set i (some (.ref e))) (upd H' e (excF oe e (.ref C')))) D σ H
section
variable {X : Cx} {x n : Str} {C : Addr} {i : Nat} {body suite : List Stmt} {b₀ : Stmt} {np hpos pos : Pos} {tb : TSx} {th : Addr → TS}
theorem xtryF (hex : X.ex = []) (hst : X.stack = X.env :: X.outer) (hfr : X.env.frame = some X.env.locals) (hN : X.N.Nodup) (hi : X.N[i]? = some n) (hl : X.env.scope.names.lookup n = some .local) (hm : X.mg x = some (.ref C))
    (hb : XBx X body tb) (hs : ∀ e, XB (XM X e).nox (b₀ :: suite) (th e)) (hg : Gl X x := by exact rfl) (hdb : (x == ("__debug__" : Str)) = false := by decide) :
    XS X (.Try body [.ExceptHandler (some (.Name x np)) (some n) (b₀ :: suite) hpos] [] [] pos) (tTryF X.K C i tb th) := by
  refine ⟨fun pins s σ H D I h => ?_⟩
  refine wpAny_Try_except (wpAny_mono (hb.h pins s σ H D _ I h) (fun f s1 q => ?_) fun ev s1 q => ?_)
  · cases f with
    | next => exact wpAny_execs_nil q
    | ret u => exact q
    | brk => exact q
    | cont => exact q
  · obtain ⟨e, T, cls, a0, σ', H', rfl, F, C', rfl, hx, hk⟩ := q
    refine F.looks hex hst hfr I.ok.frames fun T2 h2 F2 => ?_
    refine F2.lands hex fun T3 h3 F3 => ?_
    refine wpAny_handleBy_cons (codeAny_handlers_test ?_) (by intro q; cases q)
    refine ld_glob (X := XM X e) (F3.inv.mark e) hg hm ?_ hdb
    obtain ⟨oe, vs, g1, g2, g3⟩ := F3.tr.e_obj
    have LT : PySem.W.Looks (model X.prog X.w) h3 (typeOf (.ref e)) (.ref C') := g2 ▸ (PySem.W.Looks.ld g1).andThen .now
    refine (PySem.W.exm_one (M := model X.prog X.w) F3.inv.kIn LT hx).here ?_
    refine codeAny_handlers_suite_as ?_
    refine F3.again hex fun T4 h4 F4 => ?_
    obtain ⟨oe4, l4, I4⟩ := F4.trackF
    refine store_ok (X := XM X e) (v := .ref e) (I4.mark e) hN hi (.inl hl) rfl (fun s5 I5 => ?_) (.inr hl)
    refine wpAny_mono ((hs e).h pins s5 _ _ (D.but i) (I5.wish _) (hk e oe4 F4.fe l4)) (fun f s6 q => ?_) (fun _ _ z => z.elim)
    have q := q.unwish
    cases f with
    | next =>
      obtain ⟨σ2, H2, I6, q6⟩ := q
      exact (I.unmark I6).gone hN hi hl fun s7 I7 => ⟨_, H2, I7, q6⟩
    | brk =>
      obtain ⟨σ2, H2, I6, q6⟩ := q
      exact (I.unmark I6).gone hN hi hl fun s7 I7 => ⟨_, H2, I7, q6⟩
    | cont =>
      obtain ⟨σ2, H2, I6, q6⟩ := q
      exact (I.unmark I6).gone hN hi hl fun s7 I7 => ⟨_, H2, I7, q6⟩
    | ret u =>
      obtain ⟨v, σ2, H2, I6, rv, q6⟩ := q
      exact (I.unmark I6).gone hN hi hl fun s7 I7 => ⟨v, _, H2, I7, rv, q6⟩
theorem LoneO.h {oe : Obj} {cls : Value} {H : Hp} {e : Addr} (l : LoneO oe cls) (h : H e = some (excF oe e cls)) : LoneH H e := let ⟨vs, a, b⟩ := l.ex; ⟨oe, _, vs, h, a, b⟩
def rIsF (K : PySem.W.Frag) : List V → Hp → VK → Prop := fun xs H Q => ∃ (e C : Addr) (oe : Obj) (v : V) (b : Bool), xs = [.ref e, v] ∧ H e = some (excF oe e (.ref C)) ∧ ExcK K C ∧ ((∃ D : Addr, v = .ref D ∧ kitOne K (.ref C) (.ref D) = some b) ∨ ∃ T : String, v = .ty T ∧ kitOne K (.ref C) (.type T) = some b) ∧ Q (.bl b) H
theorem call_isF : CallR X (.builtin "isinstance") (rIsF X.K) := by
  intro pins s σ H xs us Q I r h
  obtain ⟨e, C, oe, v, b, rfl, he, k, hv, q⟩ := h
  obtain ⟨u, u2, rfl, rx, rv⟩ := r.two
  cases (show u = Value.ref e from rx)
  have p : ExcAt e C s.heap := (show ObjOk X.prog X.w H s.heap e (.frz oe (excO e (.ref C))) from I.hok e _ he).2.1
  rcases hv with ⟨D, rfl, hk⟩ | ⟨T, rfl, hk⟩
  · cases (show u2 = Value.ref D from rv)
    exact wpAny_with_toks (n := 1) I.tk (kia_one (kitx_exc k) I.kIn p hk (fun z => nomatch z) fun tk htk => ⟨.bl b, H, I.tok _ htk, rfl, q⟩)
  · cases (show u2 = Value.type T from rv)
    exact wpAny_with_toks (n := 1) I.tk (kia_one (kitx_exc k) I.kIn p hk (fun z => nomatch z) fun tk htk => ⟨.bl b, H, I.tok _ htk, rfl, q⟩)
end
end L2

set_option Elab.async false
set_option linter.all false
set_option maxRecDepth 100000
set_option maxHeartbeats 4000000
namespace K7
open PySem L2 Lm Lw PySem.Builtin.Int
structure TxK (K : PySem.W.Frag) (mg : Str → Option Value) (BT : Addr) : Prop where
  n_isinstance : mg "isinstance" = none
  n_int : mg "int" = none
  n_len : mg "len" = none
  n_ValueError : mg "ValueError" = none
  bt : ∃ a, mg "BadText" = some (.ref a) ∧ PySem.W.kitOne K (.ref BT) (.ref a) = some false
  bn : ∃ a, mg "BadName" = some (.ref a) ∧ PySem.W.kitOne K (.ref BT) (.ref a) = some false
  tr : mg "BadTree" = some (.ref BT) ∧ PySem.W.kitOne K (.ref BT) (.ref BT) = some true
  op : ∃ a, mg "OutOfPlace" = some (.ref a) ∧ PySem.W.kitOne K (.ref BT) (.ref a) = some false
  bw : ∃ a, mg "BadWidth" = some (.ref a) ∧ PySem.W.kitOne K (.ref BT) (.ref a) = some false
  me : ∃ a, mg "MarkError" = some (.ref a) ∧ PySem.W.exmOne K (.ref BT) (.ref a) = some true
  ve : PySem.W.kitOne K (.ref BT) (.type "ValueError") = some true
  xk : ExcK K BT
structure TxK5 (K : PySem.W.Frag) (mg : Str → Option Value) (BT a1 a2 a4 a5 : Addr) : Prop where
  n_isinstance : mg "isinstance" = none
  n_int : mg "int" = none
  n_len : mg "len" = none
  n_ValueError : mg "ValueError" = none
  c_BadText : mg "BadText" = some (.ref a1)
  c_BadName : mg "BadName" = some (.ref a2)
  c_BadTree : mg "BadTree" = some (.ref BT)
  c_OutOfPlace : mg "OutOfPlace" = some (.ref a4)
  c_BadWidth : mg "BadWidth" = some (.ref a5)
def wordAt (H : Hp) (v : V) : V := match v with
  | .ref a => match H a with
    | some (.tup [x, _]) => x
    | _ => .non
  | _ => .non
def flagAt (H : Hp) (v : V) : Bool := match v with
  | .ref a => match H a with
    | some (.tup [_, .bl b]) => b
    | _ => false
  | _ => false
section
variable {P : Program} {w : World} {K : PySem.W.Frag} {mg : Str → Option Value} {base : Heap} {BT : Addr}
abbrev sKind : Stmt := top 41
theorem scKind : FnScope ["_law_error", "_law_found"] ["_law_error"] (defScope sKind) := ⟨rfl, rfl, rfl, by decide +kernel, rfl, by decide +kernel, by decide +kernel⟩
def spKind7 (BT : Addr) (e : Addr) : Sp := fun vs H Q _ => ∃ oe, vs = [.ref e] ∧ LoneO oe (.ref BT) ∧ H e = some (excF oe e (.ref BT)) ∧ ∀ r H', Same H H' → H r = none → H' r = some (.lst [.str "tree"]) → Q (.ref r) H'
theorem ok_kind7 {f : Addr} {fd : FuncData} (F : Fun K "_law_kind" "_law_kind" sKind f fd) (TK : TxK K mg BT) : FnOkQ P w K mg base CX0 1 f fd ["_law_error"] (spKind7 BT) := by
  have sc := scKind
  obtain ⟨a1, c1, k1⟩ := TK.bt
  obtain ⟨a2, c2, k2⟩ := TK.bn
  obtain ⟨c3, k3⟩ := TK.tr
  obtain ⟨a4, c4, k4⟩ := TK.op
  obtain ⟨a5, c5, k5⟩ := TK.bw
  have T : TxK5 K mg BT a1 a2 a4 a5 := ⟨TK.n_isinstance, TK.n_int, TK.n_len, TK.n_ValueError, c1, c2, c3, c4, c5⟩
  refine F.okQ sc (fun e vs H Q E h => ?_) (fun e vs H Q E h => ?_) (fun e cdv A outer s H vs Q E hr hx h => ?_)
  · obtain ⟨oe, rfl, _⟩ := h
    rfl
  · obtain ⟨oe, rfl, l, he, _⟩ := h
    exact l.h he
  obtain ⟨oe, rfl, l, he, q⟩ := h
  refine of_XB (xbc (xset (i := 1) sc.nd rfl (Or.inl rfl) (xlst (xac (xtup (xac xstr (xac (xcB call_isF T.n_isinstance rfl (xac (xv 0) (xac (xgC T.c_BadText) xa0))) xa0))) (xac (xtup (xac xstr (xac (xcB call_isF T.n_isinstance rfl (xac (xv 0) (xac (xgC T.c_BadName) xa0))) xa0))) xa0))))
    (xbc (xset (i := 1) sc.nd rfl (Or.inl rfl) (xop op_cat (xv 1) (xlst (xac (xtup (xac xstr (xac (xcB call_isF T.n_isinstance rfl (xac (xv 0) (xac (xgC T.c_BadTree) xa0))) xa0))) (xac (xtup (xac xstr (xac (xcB call_isF T.n_isinstance rfl (xac (xv 0) (xac (xgC T.c_OutOfPlace) xa0))) xa0))) xa0)))))
    (xbc (xset (i := 1) sc.nd rfl (Or.inl rfl) (xop op_cat (xv 1) (xlst (xac (xtup (xac xstr (xac (xcB call_isF T.n_isinstance rfl (xac (xv 0) (xac (xgC T.c_BadWidth) xa0))) xa0))) xa0))))
    (xbc (xslcQ (i := 1) sc.nd rfl rfl (cl := []) (own := ["_law_word", "_law_is_one"]) (fr := []) (N' := ["_law_word", "_law_is_one"]) hx (compN (xs := []) trivial trivial (by decide +kernel)) (by decide +kernel) (by decide +kernel) (by with_unfolding_all rfl)
    (xv 1)
    (fun _ _ _ _ hq => xgtQ (n := 2) hq (xgsc (xgn (i := 0) (show (["_law_word", "_law_is_one"] : List Str).Nodup by decide +kernel) rfl (Or.inl rfl)) (xgsc (xgn (i := 1) (show (["_law_word", "_law_is_one"] : List Str).Nodup by decide +kernel) rfl (Or.inl rfl)) xgs0))) (fun _ _ _ _ => xq1 (xvalT (xv 1))) (fun _ _ _ _ => (xv 0)))
    (xb1 (xret (xop op_rep (xv 1) (xcTy call_int1 T.n_int rfl (xac (xandV (xcmp op_eq (xcB call_len_seq T.n_len PySem.boot_len (xac (xv 1) xa0)) xint (nomark _)) (xone (xcB call_isF T.n_isinstance rfl (xac (xv 0) (xac (xty (T := "ValueError") T.n_ValueError rfl) xa0))))) xa0))))))))) ?_
  have hs : sizeLine = 16777216 := sizeLine_eq
  rw [show start ["_law_error", "_law_found"] [V.ref e] = [some (V.ref e), none] from rfl]
  have k := TK.xk
  refine ⟨_, rfl, e, BT, oe, _, false, rfl, he, k, .inl ⟨_, rfl, k1⟩, big (show (2 : Nat) ≤ 1000000 by decide), fun t1 ht1 => ?_⟩
  have s1 := same_new ht1 (.tup [.str "text", .bl false])
  have e1 : upd H t1 (.tup [V.str "text", .bl false]) t1 = some (.tup [.str "text", .bl false]) := upd_same
  generalize upd H t1 (.tup [V.str "text", .bl false]) = H1 at s1 e1 ⊢
  refine ⟨_, rfl, e, BT, oe, _, false, rfl, s1 _ _ he, k, .inl ⟨_, rfl, k2⟩, big (show (2 : Nat) ≤ 1000000 by decide), fun t2 ht2 => ⟨big (show (2 : Nat) ≤ 1000000 by decide), fun l1 hl1 => ?_⟩⟩
  have s2 := same_new ht2 (.tup [.str "name", .bl false])
  have e2 : upd H1 t2 (.tup [V.str "name", .bl false]) t2 = some (.tup [.str "name", .bl false]) := upd_same
  generalize upd H1 t2 (.tup [V.str "name", .bl false]) = H2 at s2 e2 hl1 ⊢
  have s3 := same_new hl1 (.lst [.ref t1, .ref t2])
  have e3 : upd H2 l1 (.lst [V.ref t1, .ref t2]) l1 = some (.lst [.ref t1, .ref t2]) := upd_same
  generalize upd H2 l1 (.lst [V.ref t1, .ref t2]) = H3 at s3 e3 ⊢
  have s03 := (s1.trans s2).trans s3
  dsimp only [gName, List.set_cons_succ, List.set_cons_zero]
  refine ⟨_, rfl, ⟨_, rfl, e, BT, oe, _, true, rfl, s03 _ _ he, k, .inl ⟨_, rfl, k3⟩, big (show (2 : Nat) ≤ 1000000 by decide), fun t3 ht3 => ?_⟩⟩
  have s4 := same_new ht3 (.tup [.str "tree", .bl true])
  have e4 : upd H3 t3 (.tup [V.str "tree", .bl true]) t3 = some (.tup [.str "tree", .bl true]) := upd_same
  generalize upd H3 t3 (.tup [V.str "tree", .bl true]) = H4 at s4 e4 ⊢
  refine ⟨_, rfl, e, BT, oe, _, false, rfl, (s03.trans s4) _ _ he, k, .inl ⟨_, rfl, k4⟩, big (show (2 : Nat) ≤ 1000000 by decide), fun t4 ht4 => ⟨big (show (2 : Nat) ≤ 1000000 by decide), fun l2 hl2 => ?_⟩⟩
  have s5 := same_new ht4 (.tup [.str "place", .bl false])
  have e5 : upd H4 t4 (.tup [V.str "place", .bl false]) t4 = some (.tup [.str "place", .bl false]) := upd_same
  generalize upd H4 t4 (.tup [V.str "place", .bl false]) = H5 at s5 e5 hl2 ⊢
  have s6 := same_new hl2 (.lst [.ref t3, .ref t4])
  have e6 : upd H5 l2 (.lst [V.ref t3, .ref t4]) l2 = some (.lst [.ref t3, .ref t4]) := upd_same
  generalize upd H5 l2 (.lst [V.ref t3, .ref t4]) = H6 at s6 e6 ⊢
  have s36 := (s4.trans s5).trans s6
  refine ⟨l1, l2, _, _, rfl, rfl, s36 _ _ e3, e6, big (show (4 : Nat) ≤ 1000000 by decide), fun l3 hl3 => ?_⟩
  have s7 := same_new hl3 (.lst ([.ref t1, .ref t2] ++ [.ref t3, .ref t4]))
  have e7 : upd H6 l3 (.lst ([V.ref t1, .ref t2] ++ [.ref t3, .ref t4])) l3 = some (.lst ([.ref t1, .ref t2] ++ [.ref t3, .ref t4])) := upd_same
  generalize upd H6 l3 (.lst ([V.ref t1, .ref t2] ++ [.ref t3, .ref t4])) = H7 at s7 e7 ⊢
  have s07 := (s03.trans s36).trans s7
  dsimp only [gName, List.set_cons_succ, List.set_cons_zero]
  refine ⟨_, rfl, ⟨_, rfl, e, BT, oe, _, false, rfl, s07 _ _ he, k, .inl ⟨_, rfl, k5⟩, big (show (2 : Nat) ≤ 1000000 by decide), fun t5 ht5 => ⟨big (show (1 : Nat) ≤ 1000000 by decide), fun l4 hl4 => ?_⟩⟩⟩
  have s8 := same_new ht5 (.tup [.str "width", .bl false])
  have e8 : upd H7 t5 (.tup [V.str "width", .bl false]) t5 = some (.tup [.str "width", .bl false]) := upd_same
  generalize upd H7 t5 (.tup [V.str "width", .bl false]) = H8 at s8 e8 hl4 ⊢
  have s9 := same_new hl4 (.lst [.ref t5])
  have e9 : upd H8 l4 (.lst [V.ref t5]) l4 = some (.lst [.ref t5]) := upd_same
  generalize upd H8 l4 (.lst [V.ref t5]) = H9 at s9 e9 ⊢
  refine ⟨l3, l4, _, _, rfl, rfl, (s8.trans s9) _ _ e7, e9, big (show (5 : Nat) ≤ 1000000 by decide), fun l5 hl5 => ?_⟩
  have sA := same_new hl5 (.lst (([.ref t1, .ref t2] ++ [.ref t3, .ref t4]) ++ [.ref t5]))
  have eA : upd H9 l5 (.lst (([V.ref t1, .ref t2] ++ [.ref t3, .ref t4]) ++ [.ref t5])) l5 = some (.lst [.ref t1, .ref t2, .ref t3, .ref t4, .ref t5]) := upd_same
  generalize upd H9 l5 (.lst (([V.ref t1, .ref t2] ++ [.ref t3, .ref t4]) ++ [.ref t5])) = HA at sA eA ⊢
  have s0A := ((s07.trans s8).trans s9).trans sA
  have s6A := ((s7.trans s8).trans s9).trans sA
  have g1 : HA t1 = some (.tup [.str "text", .bl false]) := ((((s2.trans s3).trans s36).trans s6A)) _ _ e1
  have g2 : HA t2 = some (.tup [.str "name", .bl false]) := (((s3.trans s36).trans s6A)) _ _ e2
  have g3 : HA t3 = some (.tup [.str "tree", .bl true]) := (((s5.trans s6).trans s6A)) _ _ e4
  have g4 : HA t4 = some (.tup [.str "place", .bl false]) := ((s6.trans s6A)) _ _ e5
  have g5 : HA t5 = some (.tup [.str "width", .bl false]) := ((s9.trans sA)) _ _ e8
  dsimp only [gName, List.set_cons_succ, List.set_cons_zero]
  have one : ∀ {t : Addr} {y : Str} {b : Bool}, HA t = some (.tup [.str y, .bl b]) → wordAt HA (.ref t) = .str y ∧ flagAt HA (.ref t) = b := fun {t y b} h => by
    unfold wordAt flagAt
    dsimp only
    rw [h]
    exact ⟨rfl, rfl⟩
  refine ⟨_, rfl, l5, rfl, ⟨_, SqL.of eA⟩, lc_list (flagAt HA) (wordAt HA) (SqL.of eA) (big (show (5 : Nat) ≤ 1000000 by decide)) (fun x hx H' s' C N hC hN => ?_) (fun r HB hr0 sB eB => ?_)⟩
  · obtain ⟨t, y, b, rfl, ht⟩ : ∃ t y b, x = .ref t ∧ HA t = some (.tup [.str y, .bl b]) := by
      simp only [List.mem_cons, List.not_mem_nil, or_false] at hx
      rcases hx with rfl | rfl | rfl | rfl | rfl
      · exact ⟨_, _, _, rfl, g1⟩
      · exact ⟨_, _, _, rfl, g2⟩
      · exact ⟨_, _, _, rfl, g3⟩
      · exact ⟨_, _, _, rfl, g4⟩
      · exact ⟨_, _, _, rfl, g5⟩
    obtain ⟨w1, w2⟩ := one ht
    refine ⟨t, _, rfl, SqT.of (s' _ _ ht), rfl, _, _, rfl, _, _, rfl, rfl, ?_⟩
    refine ⟨(nfLe.refl _ _ _).set (by decide) _ |>.set (by decide) _, _, rfl, b, rfl, ?_⟩
    cases b with
    | true => rw [if_pos rfl]; exact ⟨_, rfl, w1 ▸ hC H' (Same.refl _) w2⟩
    | false => rw [if_neg Bool.false_ne_true]; exact hN H' (Same.refl _) w2
  · have ef : ([V.ref t1, .ref t2, .ref t3, .ref t4, .ref t5].filter (flagAt HA)).map (wordAt HA) = [.str "tree"] := by
      simp only [List.filter, (one g1).2, (one g2).2, (one g3).2, (one g4).2, (one g5).2, List.map, (one g3).1]
    rw [ef] at eB
    dsimp only [gName, List.set_cons_succ, List.set_cons_zero]
    refine ⟨_, rfl, _, rfl, r, _, rfl, .inl (SqL.of eB), rfl, _, rfl, ?_⟩
    rw [show decide (V.int (([V.str "tree"] : List V).length : Nat) = V.int 1) = true from rfl, if_pos rfl]
    refine ⟨_, rfl, e, BT, oe, _, true, rfl, sB _ _ (s0A _ _ he), k, .inr ⟨_, rfl, TK.ve⟩, .inr ⟨_, rfl, r, 1, _, rfl, rfl, eB, by decide, by decide, big (show (1 : Nat) ≤ 1000000 by decide), fun z hz => ?_⟩⟩
    exact q z _ ((s0A.trans sB).trans (same_new hz _)) ((s0A.trans sB).free hz) upd_same
end
end K7

set_option Elab.async false
set_option linter.all false
set_option maxRecDepth 100000
set_option maxHeartbeats 4000000
namespace K7
open PySem L2 Lm Lw PySem.Builtin.Int
def R2 : PC → Prop
  | .one _ => True
  | .strong ps => ps.length ≤ 100000
def refD : PyData := .tuple [.str "refused", .list [.str "tree"]]
structure TxM (mg : Str → Option Value) (ME : Addr) : Prop where
  c_MarkError : mg "MarkError" = some (.ref ME)
section
variable {P : Program} {w : World} {K : PySem.W.Frag} {mg : Str → Option Value} {base : Heap} {c : Cp} {BT : Addr}
abbrev sTold7 : Stmt := top 43
theorem scTold7 : FnScope ["_law_thing", "_law_error"] ["_law_thing"] (defScope sTold7) := ⟨rfl, rfl, rfl, by decide +kernel, rfl, by decide +kernel, by decide +kernel⟩
def spTold7 (K : PySem.W.Frag) : Sp := fun vs H Q _ => ∃ v, vs = [v] ∧
  ((∃ a xs ds, v = .ref a ∧ H a = some (.lst xs) ∧ DnAll H xs ds ∧ ds.length ≤ 100000 ∧ (∀ ps, normD (.list ds) = some ps → (∀ p ∈ ps, R2 p) ∧ ∀ r H', Same H H' → Dn (dif H H') (.ref r) (.list (ps.map dP)) → Q (.ref r) H') ∧ (normD (.list ds) = none → ∀ v H', Same H H' → Dn (dif H H') v refD → Q v H')) ∨
   ((∃ t, TyOf K H v t ∧ PySem.W.kitOne K t (.type "list") = some false) ∧ ∀ v H', Same H H' → Dn (dif H H') v refD → Q v H'))
theorem run_len {part : PyData → Option PC} : ∀ (ds : List PyData) (prev : Bool) (ps : List PC), runG part prev ds = some ps → ps.length = ds.length
  | [], _, ps, h => by cases h; rfl
  | d :: ds, prev, ps, h => by
    have e : (match part d with | none => none | some p => if prev && p.isPlain then none else (runG part p.isPlain ds).map (p :: ·)) = some ps := h
    cases hd : part d with
    | none => rw [hd] at e; cases e
    | some p =>
      rw [hd] at e
      dsimp only at e
      split at e
      · cases e
      · cases hr : runG part p.isPlain ds with
        | none => rw [hr] at e; cases e
        | some qs =>
          rw [hr] at e
          cases e
          rw [List.length_cons, List.length_cons, run_len ds _ qs hr]
theorem norm_len {ds : List PyData} {ps : List PC} (h : normD (.list ds) = some ps) : ps.length = ds.length := by
  have e : (match runG (partD true) false ds with | some ps => if endsOk ps then some ps else none | none => none) = some ps := h
  cases hr : runG (partD true) false ds with
  | none => rw [hr] at e; cases e
  | some qs =>
    rw [hr] at e
    dsimp only at e
    split at e
    · cases e; exact run_len _ _ _ hr
    · cases e
theorem ok_told7 {f : Addr} {fd : FuncData} {n m : Nat} (F : Fun K "_law_told" "_law_told" sTold7 f fd) (TK : TxK K mg BT) (D_need_parts : DefR P w K mg base n "need_parts" ["told"] (spNeed K BT c)) (D_told_parts : Def P w K mg base m "told_parts" ["parts"] (spTolds c R2))
    (D_l_kind : DefQ P w K mg base 1 "_law_kind" ["_law_error"] (spKind7 BT)) : FnOk P w K mg base CX0 (n + m + 2) f fd ["_law_thing"] (spTold7 K) := by
  have sc := scTold7
  obtain ⟨ME, cME, kME⟩ := TK.me
  have T : TxM mg ME := ⟨cME⟩
  refine F.ok sc (fun vs H Q E h => ?_) (fun cdv A outer s H vs Q E hr h => ?_)
  · obtain ⟨v, rfl, _⟩ := h
    rfl
  obtain ⟨v, rfl, hv⟩ := h
  refine of_XB (xb1 (xtryF (i := 1) rfl rfl rfl sc.nd rfl rfl T.c_MarkError
    (xbx_one (xsx_ret (xex_arg D_told_parts (hr.mono (by omega)) (xex_call D_need_parts (hr.mono (by omega)) rfl (xac (xv 0) xa0)))))
    (fun _ => (xb1 (xret (xtup (xac xstr (xac (xcQ D_l_kind rfl (hr.hm.mono (by omega)) (xac (xv 1) xa0)) xa0)))))))) ?_
  rw [show start ["_law_thing", "_law_error"] [v] = [some v, none] from rfl]
  have fin : ∀ H1, Same H H1 → (∀ v H', Same H H' → Dn (dif H H') v refD → Q v H') → ∃ C' : Addr, Value.ref BT = .ref C' ∧ PySem.W.exmOne K (.ref C') (.ref ME) = some true ∧ ∀ e oe, H1 e = none → LoneO oe (.ref C') → 
      tRet (tTup (tCons (tC (.str "refused")) (tCons (tCall (spKind7 BT e) [] E0 (tCons (tVar 1) tNil)) tNil))) (Ends.but { nx := fun _ H' => Q .non H', rt := Q } 1) ([some v, none].set 1 (some (.ref e))) (upd H1 e (excF oe e (.ref C'))) := fun H1 s1 q => by
    refine ⟨BT, rfl, kME, fun e oe he lo => ?_⟩
    have s2 := same_new he (excF oe e (.ref BT))
    refine ⟨_, rfl, oe, rfl, lo, upd_same, fun r H3 s3 hr3 er => ⟨big (show (2 : Nat) ≤ 1000000 by decide), fun t ht => ?_⟩⟩
    have s12 := s1.trans s2
    have s13 := s12.trans s3
    have s4 := same_new ht (.tup [V.str "refused", .ref r])
    refine q (.ref t) _ (s13.trans s4) (.tup (by rw [dif_at (s13.free ht), upd_same]) (.cons (.str _ (by decide +kernel) (by decide +kernel)) (.cons (.lst (xs := [.str "tree"]) ?_ (.cons (.str _ (by decide +kernel) (by decide +kernel)) .nil) (by show 1 ≤ 100000; decide)) .nil)))
    rw [dif_at (s12.free hr3)]
    exact s4 _ _ er
  refine ⟨_, rfl, v, rfl, ?_⟩
  rcases hv with ⟨a, xs, ds, rfl, ea, hd, hl, h1, h2⟩ | ⟨ht, h2⟩
  · refine .inl ⟨a, xs, ds, rfl, ea, hd, hl, fun ps hps r as H1 s1 hr1 er hpc => ?_, fun hn H1 s1 => fin H1 s1 (h2 hn)⟩
    obtain ⟨hR, hq⟩ := h1 ps hps
    refine ⟨r, as, ps, rfl, er, hpc.same dif_same, hR, ?_, fun z H2 s2 dz => hq z H2 (s1.trans s2) (dz.same (dif_grow s1 (Same.refl _)))⟩
    rw [hpc.len, norm_len hps]
    exact hl
  · exact .inr ⟨ht, fun H1 s1 => fin H1 s1 h2⟩
end
end K7

set_option Elab.async false
set_option linter.all false
set_option maxRecDepth 100000
set_option maxHeartbeats 4000000
namespace K7
open PySem L2 Lm Lw PySem.Builtin.Int
structure TxW (mg : Str → Option Value) : Prop where
  n_range : mg "range" = none
  n_list : mg "list" = none
section
variable {K : PySem.W.Frag} {H : Hp} {Q : VK} {E : XK} {p : Addr} {xs : List V}
theorem told_ok {N : Int} {t : Nat} (ht : t ≤ 1000) (e : H p = some (.lst xs)) (h : DnAll H xs ((partsF N t).map dP)) (k : ∀ r H', Same H H' → Dn (dif H H') (.ref r) (.list ((partsF N t).map dP)) → Q (.ref r) H') : spTold7 K [.ref p] H Q E := by
  obtain ⟨h1, h2, _, _⟩ := partsF_ok N t
  have hn := partsF_norm N t
  refine ⟨_, rfl, .inl ⟨p, xs, _, rfl, e, h, by rw [List.length_map, h1]; omega, fun ps hps => ?_, fun z => ?_⟩⟩
  · rw [hn] at hps
    cases hps
    refine ⟨fun q hq => ?_, k⟩
    have := h2 q hq
    cases q with
    | one _ => trivial
    | strong ps => exact this.2.1
  · rw [hn] at z; cases z
theorem told_no {es : List PyData} (hl : es.length ≤ 2100) (e : H p = some (.lst xs)) (h : DnAll H xs es) (hn : normD (.list es) = none) (k : ∀ v H', Same H H' → Dn (dif H H') v refD → Q v H') : spTold7 K [.ref p] H Q E := by
  refine ⟨_, rfl, .inl ⟨p, xs, es, rfl, e, h, by omega, fun ps hps => ?_, fun _ => k⟩⟩
  rw [hn] at hps; cases hps
end
section
variable {P : Program} {w : World} {K : PySem.W.Frag} {mg : Str → Option Value} {base : Heap} {c : Cp} {BT : Addr}
abbrev sLaw7 : Stmt := top 45
theorem scLaw7 : FnScope ["_law_script", "_law_cell_here", "_law_number", "_law_due", "_law_same", "_law_turn", "_law_wrong_here", "_law_handed", "_law_nothing"] ["_law_script"] (defScope sLaw7) := ⟨rfl, rfl, rfl, by decide +kernel, rfl, by decide +kernel, by decide +kernel⟩
def spLaw7 (K : PySem.W.Frag) : Sp := fun vs H Q _ => ∃ (a : Addr) (ns : List Int), vs = [.ref a] ∧ SqL K H a (vI ns) ∧ (∀ H', Same H H' → SqL K H' a (vI ns)) ∧ (∀ n ∈ ns, intBits n ≤ 1048576) ∧ ∀ H', Same H H' → Q (.bl true) H'
theorem dict_kit (K : PySem.W.Frag) : PySem.W.kitOne K (.type "dict") (.type "list") = some false := by with_unfolding_all rfl
theorem ok_law7 {f : Addr} {fd : FuncData} {n m : Nat} (F : Fun K "law" "law" sLaw7 f fd) (T : TxW mg) (D_l_cell : Def P w K mg base 1 "_law_cell" ["_law_script", "_law_k"] (spCell K)) (D_l_mixed : Def P w K mg base 1 "_law_mixed" ["_law_cell_here", "_law_k"] spMixed)
    (D_l_parts : Def P w K mg base n "_law_parts" ["_law_number", "_law_size", "_law_is_inner"] (spParts7 false)) (D_l_told : Def P w K mg base m "_law_told" ["_law_thing"] (spTold7 K)) (D_l_wrong : Def P w K mg base 2 "_law_wrong" ["_law_due", "_law_number"] spWrong) :
    FnOk P w K mg base CX0 (n + m + 3) f fd ["_law_script"] (spLaw7 K) := by
  have sc := scLaw7
  refine F.ok sc (fun vs H Q E h => ?_) (fun cdv A outer s H vs Q E hr h => ?_)
  · obtain ⟨a, ns, rfl, _⟩ := h
    rfl
  obtain ⟨a, ns, rfl, hq0, hq, hb, q⟩ := h
  have hu : (A.deeper (PyProof.Rows.envOfC "law" (defScope sLaw7) s.heap.objs.size f cdv)).units + 64 < cLine := by
    have := hr.un
    omega
  refine of_XB (xbc (xset (i := 1) sc.nd rfl (Or.inl rfl) (xcD D_l_cell (hr.mono (by omega)) (xac (xv 0) (xac xint xa0))))
    (xbc (xset (i := 2) sc.nd rfl (Or.inl rfl) (xcD D_l_mixed (hr.mono (by omega)) (xac (xcD D_l_cell (hr.mono (by omega)) (xac (xv 0) (xac xint xa0))) (xac xint xa0))))
    (xbc (xset (i := 3) sc.nd rfl (Or.inl rfl) (xcD D_l_parts (hr.mono (by omega)) (xac (xv 2) (xac (xop op_add xint (xop op_mod (xv 1) xint)) (xac xbl xa0)))))
    (xbc (xset (i := 4) sc.nd rfl (Or.inl rfl) (xcD D_l_parts (hr.mono (by omega)) (xac (xv 2) (xac (xop op_add xint (xop op_mod (xv 1) xint)) (xac xbl xa0)))))
    (xbc (xif (xor (xcmpT (op_neW hu) (xcD D_l_told (hr.mono (by omega)) (xac (xv 4) xa0)) (xv 3) (nomark _)) (xor1 (xcmpT (op_neW hu) (xv 4) (xv 3) (nomark _)))).xt (xb1 (xret xbl)) xb0)
    (xbc (xfor PassesOwn.never rfl (xir1 rfl T.n_range (xac xint xa0)) (xgn (i := 5) sc.nd rfl (Or.inl rfl))
    (xbc (xset (i := 6) sc.nd rfl (Or.inl rfl) (xcD D_l_wrong (hr.mono (by omega)) (xac (xv 3) (xac (xcD D_l_mixed (hr.mono (by omega)) (xac (xcD D_l_cell (hr.mono (by omega)) (xac (xv 0) (xac (xop op_add xint (xv 5)) xa0))) (xac (xop op_add xint (xv 5)) xa0))) xa0))))
    (xbc (xset (i := 7) sc.nd rfl (Or.inl rfl) (xcTy call_list_of T.n_list rfl (xac (xv 6) xa0)))
    (xbc (xif (xor (xcmpT (op_neW hu) (xcD D_l_told (hr.mono (by omega)) (xac (xv 7) xa0)) (xl_tup (xlsc (xl_str (by decide +kernel)) (xlsc (xl_lst (xlsc (xl_str (by decide +kernel)) xls0)) xls0))) (nomark _)) (xor1 (xcmpT (op_neW hu) (xv 7) (xv 6) (nomark _)))).xt (xb1 (xret xbl)) xb0)
    (xbc (xwhile PassesOwn.never (xcmpT (op_ne0 hu) (xv 7) (xlst xa0) (nomark _))
    (xb1 (xexpr (xm0 PySem.F.plainAttrs_list PySem.F.slot_list_pop PySem.F.type_list_pop mt_pop (xv 7)))))
    (xbc (xexpr (xm PySem.F.plainAttrs_list PySem.F.slot_list_extend PySem.F.type_list_extend mt_extend (xv 7) (xac (xv 3) xa0)))
    (xb1 (xif (xcmpT (op_neW hu) (xcD D_l_told (hr.mono (by omega)) (xac (xv 7) xa0)) (xv 3) (nomark _)) (xb1 (xret xbl)) xb0))))))))
    (xbc (xset (i := 8) sc.nd rfl (Or.inl rfl) (xix ix_list (xlst (xac xnon (xac xint (xac xstr (xac (xl_tup xls0) (xac (xl_tup (xlsc (xl_str (by decide +kernel)) (xlsc (xl_str (by decide +kernel)) xls0))) (xac xdict0 (xac xbl (xac (xl_tup (xlsc (xl_tup (xlsc (xl_str (by decide +kernel)) (xlsc (xl_str (by decide +kernel)) xls0))) xls0)) xa0))))))))) (xop op_mod (xop op_fdiv (xv 1) xint) xint) (fun _ _ => rfl)))
    (xb1 (xret (xandV (xcmp (op_eqW hu) (xcD D_l_told (hr.mono (by omega)) (xac (xv 8) xa0)) (xl_tup (xlsc (xl_str (by decide +kernel)) (xlsc (xl_lst (xlsc (xl_str (by decide +kernel)) xls0)) xls0))) (nomark _)) (xone (xcmp (op_eqW hu) (xcD D_l_told (hr.mono (by omega)) (xac (xv 3) xa0)) (xv 4) (nomark _))))))))))))) ?_
  have hs : sizeLine = 16777216 := sizeLine_eq
  rw [show start ["_law_script", "_law_cell_here", "_law_number", "_law_due", "_law_same", "_law_turn", "_law_wrong_here", "_law_handed", "_law_nothing"] [V.ref a] = [some (V.ref a), none, none, none, none, none, none, none, none] from rfl]
  refine ⟨_, rfl, a, ns, 0, rfl, by decide, hq0, hb, fun i0 hi0 => ?_⟩
  dsimp only [gName, List.set_cons_succ, List.set_cons_zero]
  refine ⟨_, rfl, a, ns, 1, rfl, by decide, hq0, hb, fun i1 hi1 => ⟨i1, 1, rfl, hi1, by decide, by decide, ?_⟩⟩
  obtain ⟨N0, N1⟩ := mixF_ok i1 1
  generalize mixF i1 1 = N at N0 N1 ⊢
  dsimp only [gName, List.set_cons_succ, List.set_cons_zero]
  refine ⟨_, rfl, _, rfl, _, _, rfl, rfl, show (0 : Int) < 6 by decide, _, _, rfl, rfl, N, 1 + i0 % 6, rfl, N0, by omega, by omega, by omega, fun r1 xs1 H1 s1 hr1 e1 o1 => ?_⟩
  dsimp only [gName, List.set_cons_succ, List.set_cons_zero]
  refine ⟨_, rfl, _, rfl, _, _, rfl, rfl, show (0 : Int) < 6 by decide, _, _, rfl, rfl, N, 1 + i0 % 6, rfl, N0, by omega, by omega, by omega, fun r2 xs2 H2 s2 hr2 e2 o2 => ?_⟩
  dsimp only [gName, List.set_cons_succ, List.set_cons_zero]
  obtain ⟨sz, hsz, hsz2, hsz3⟩ : ∃ sz : Nat, (1 + i0 % 6).toNat = sz ∧ 1 ≤ sz ∧ sz ≤ 6 := ⟨_, rfl, by omega, by omega⟩
  rw [hsz] at o1 o2
  obtain ⟨ds, hds⟩ : ∃ ds, (partsF N sz).map dP = ds := ⟨_, rfl⟩
  have d1 : DnAll H1 xs1 ds := hds ▸ o1.dn
  have d2 : DnAll H2 xs2 ds := hds ▸ o2.dn
  have E1 : H2 r1 = some (.lst xs1) := s2 _ _ e1
  have D1 : DnAll H2 xs1 ds := d1.same s2
  have S2 : Same H H2 := s1.trans s2
  clear o1 o2 d1 e1
  have dl : ds.length = sz := by rw [← hds, List.length_map]; exact (partsF_ok N sz).1
  have ddp : ∀ d ∈ ds, d.depth ≤ 20 := fun d hd => by
    rw [← hds] at hd
    obtain ⟨p, _, rfl⟩ := List.mem_map.mp hd
    exact Nat.le_trans (dP_depth p) (by decide)
  have dep : (PyData.list ds).depth ≤ 64 := Nat.le_trans (depth_list ddp) (by decide)
  have xl1 : xs1.length = sz := by rw [D1.len, dl]
  have xl2 : xs2.length = sz := by rw [d2.len, dl]
  have L1 : ∀ H', Same H2 H' → Dn H' (.ref r1) (.list ds) := fun H' s' => .lst (s' _ _ E1) (D1.same s') (by omega)
  have L2' : ∀ H', Same H2 H' → Dn H' (.ref r2) (.list ds) := fun H' s' => .lst (s' _ _ e2) (d2.same s') (by omega)
  have tok : ∀ {H' : Hp} {p : Addr} {xs : List V} {Q' : VK} {E' : XK}, H' p = some (.lst xs) → DnAll H' xs ds → (∀ r H'', Same H' H'' → Dn H'' (.ref r) (.list ds) → Q' (.ref r) H'') → spTold7 K [.ref p] H' Q' E' := fun {H' p xs Q' E'} e h k => told_ok (N := N) (t := sz) (by omega) e (hds.symm ▸ h) fun r H'' s' dn => k r H'' s' (hds ▸ dn.out)
  have litR : refD.depth ≤ 64 := by decide +kernel
  refine ⟨_, rfl, ?_⟩
  dsimp only [tNil]
  refine tok e2 d2 fun r3 H3 s3 dn3 => ⟨_, rfl, .list ds, dn3.den, (L1 _ s3).den, dep, false, rfl, ?_⟩
  rw [if_neg Bool.false_ne_true]
  refine ⟨_, rfl, _, rfl, .list ds, (L2' _ s3).den, (L1 _ s3).den, dep, false, rfl, ?_⟩
  refine iteF ?_
  clear dn3
  refine ⟨2, rfl, by decide, by decide, ?_⟩
  refine for_range (n := 2) (fun t σ H' => ∃ x5 x6 x7, σ = [some (.ref a), some (.int i0), some (.int N), some (.ref r1), some (.ref r2), x5, x6, x7, none] ∧ Same H2 H') ⟨none, none, none, rfl, s3⟩ ?_ ?_
  · rintro t σ H4 ht ⟨x5, x6, x7, rfl, s4⟩
    have t2 : (t : Int) < 2 := by omega
    refine ⟨_, rfl, _, rfl, _, rfl, _, _, rfl, rfl, a, ns, 2 + (0 + (t : Int)), rfl, by omega, hq H4 (S2.trans s4), hb, fun i2 hi2 => ⟨_, rfl, _, _, rfl, rfl, i2, 2 + (0 + (t : Int)), rfl, hi2, by omega, by omega, r1, xs1, ds, mixF i2 (2 + (0 + (t : Int))), rfl, s4 _ _ E1, D1.same s4, ?_, by omega, ddp, (mixF_ok _ _).1, ?_, fun w6 ys es H5 s5 hw5 ew5 dw5 lw pw nw => ?_⟩⟩
    · intro z; rw [z] at dl; simp at dl; omega
    · have := (mixF_ok i2 (2 + (0 + (t : Int)))).2; omega
    dsimp only [gName, List.set_cons_succ, List.set_cons_zero]
    have S5 := s4.trans s5
    have yl := dw5.len
    refine ⟨_, rfl, w6, ys, rfl, .inl (SqL.of ew5), fun h hh => ?_⟩
    dsimp only [gName, List.set_cons_succ, List.set_cons_zero]
    have s6 := same_new hh (.lst ys)
    have e6 : upd H5 h (.lst ys) h = some (.lst ys) := upd_same
    generalize upd H5 h (.lst ys) = H6 at s6 e6 ⊢
    have S6 := S5.trans s6
    have hh2 : H2 h = none := S5.free hh
    refine ⟨_, rfl, ?_⟩
    dsimp only [tNil]
    refine told_no lw e6 (dw5.same s6) nw fun v7 H7 s7 dn7 => ?_
    refine fun v8 H8 s8 dn8 => ⟨refD, (dn7.out.same s8).den, dn8.out.den, litR, false, rfl, ?_⟩
    rw [if_neg Bool.false_ne_true]
    have s68 := s7.trans s8
    have wd : (PyData.list es).depth ≤ 64 := Nat.le_trans (depth_list pw) (by decide)
    refine ⟨_, rfl, _, rfl, .list es, (Dn.lst (s68 _ _ e6) (dw5.same (s6.trans s68)) (by omega)).den, (Dn.lst ((s6.trans s68) _ _ ew5) (dw5.same (s6.trans s68)) (by omega)).den, wd, false, rfl, ?_⟩
    refine iteF ?_
    have S8 := S6.trans s68
    have e8 := s68 _ _ e6
    clear dn7 dn8
    show tSeq (tWhile _ _) _ _ _ _
    refine s_join (fun σ' H' => σ' = [some (.ref a), some (.int i0), some (.int N), some (.ref r1), some (.ref r2), some (.int (0 + (t : Int))), some (.ref w6), some (.ref h), none] ∧ Same H2 H' ∧ H' h = some (.lst [])) (fun N' hN => ?_) ?_
    · refine while_t (fun m σ' H' => σ' = [some (.ref a), some (.int i0), some (.int N), some (.ref r1), some (.ref r2), some (.int (0 + (t : Int))), some (.ref w6), some (.ref h), none] ∧ Same H2 H' ∧ ∃ zs : List V, H' h = some (.lst zs) ∧ zs.length = m) ys.length ⟨rfl, S8, ys, e8, rfl⟩ ?_
      rintro m σ' H' ⟨rfl, S', zs, ez, zl⟩
      refine ⟨!zs.isEmpty, fun R k => ⟨_, rfl, big (show (0 : Nat) ≤ 1000000 by decide), fun q0 hq0 => ⟨h, q0, zs, rfl, rfl, SqL.of (same_new hq0 _ _ _ ez), SqL.of upd_same, _, rfl, k _ (same_new hq0 _)⟩⟩, fun hc H9 s9 => ?_, fun hc H9 s9 => ?_⟩
      · have hz : zs ≠ [] := by intro z; rw [z] at hc; cases hc
        have hzl : 0 < zs.length := List.length_pos_iff.mpr hz
        refine ⟨_, rfl, .inl ⟨rfl, _, SqL.of (s9 _ _ ez)⟩, h, zs, zs[zs.length - 1]'(by omega), rfl, rfl, s9 _ _ ez, List.getElem?_eq_getElem _, zs.length - 1, by omega, rfl, same_grow hh2 (S'.trans s9), _, upd_same, by rw [List.length_dropLast]⟩
      · have hz : zs = [] := by
          cases zs with
          | nil => rfl
          | cons _ _ => cases hc
        subst hz
        exact hN _ _ ⟨rfl, S'.trans s9, s9 _ _ ez⟩
    · rintro σ' H9 ⟨rfl, S9, e9⟩
      refine ⟨_, rfl, .inl ⟨rfl, _, SqL.of e9⟩, _, rfl, h, r1, [], xs1, rfl, rfl, e9, S9 _ _ E1, by rw [hs]; show 0 + _ ≤ _; omega, ?_⟩
      have SA : Same H2 (upd H9 h (.lst ([] ++ xs1))) := same_grow hh2 S9
      have eA : upd H9 h (.lst ([] ++ xs1)) h = some (.lst xs1) := upd_same
      generalize upd H9 h (.lst ([] ++ xs1)) = HA at SA eA ⊢
      refine ⟨_, rfl, ?_⟩
      dsimp only [tNil]
      refine tok eA (D1.same SA) fun rB HB sB dnB => ⟨_, rfl, .list ds, dnB.den, (L1 _ (SA.trans sB)).den, dep, false, rfl, ?_⟩
      refine iteF ?_
      exact ⟨_, _, _, rfl, SA.trans sB⟩
  · rintro σ H4 ⟨x5, x6, x7, rfl, s4⟩
    refine fun v3 Ha sa dna v4 Hb sb dnb p5 hp5 v7 Hd sd dnd => ⟨big (show (8 : Nat) ≤ 1000000 by decide), fun l hl => ?_⟩
    have sc5 := same_new hp5 (.dK [])
    have ec5 : upd Hb p5 (.dK []) p5 = some (.dK []) := upd_same
    generalize upd Hb p5 (.dK []) = Hc at sc5 ec5 sd dnd hl ⊢
    have se := same_new hl (.lst [.non, .int 5, .str "plain", v3, v4, .ref p5, .bl true, v7])
    have ee : upd Hd l (.lst [V.non, .int 5, .str "plain", v3, v4, .ref p5, .bl true, v7]) l = some (.lst [.non, .int 5, .str "plain", v3, v4, .ref p5, .bl true, v7]) := upd_same
    generalize upd Hd l (.lst [V.non, .int 5, .str "plain", v3, v4, .ref p5, .bl true, v7]) = He at se ee ⊢
    have Se := ((((s4.trans sa).trans sb).trans sc5).trans sd).trans se
    have kD : ∀ (d : PyData) {v : V}, Dn He v d → (tyD d == "list") = false → ∃ t, TyOf K He v t ∧ PySem.W.kitOne K t (.type "list") = some false := fun d v dn hb => ⟨_, dn.ty, by rw [(kit_D K d).2.1, hb]⟩
    obtain ⟨v, hv, tv⟩ : ∃ v, atI [V.non, .int 5, .str "plain", v3, v4, .ref p5, .bl true, v7] (i0 / 6 % 8) = some v ∧ ∃ t, TyOf K He v t ∧ PySem.W.kitOne K t (.type "list") = some false := by
      rcases (show i0 / 6 % 8 = 0 ∨ i0 / 6 % 8 = 1 ∨ i0 / 6 % 8 = 2 ∨ i0 / 6 % 8 = 3 ∨ i0 / 6 % 8 = 4 ∨ i0 / 6 % 8 = 5 ∨ i0 / 6 % 8 = 6 ∨ i0 / 6 % 8 = 7 by omega) with z | z | z | z | z | z | z | z
      · rw [z]; exact ⟨_, atI_nat (j := 0) rfl, kD .none .non rfl⟩
      · rw [z]; exact ⟨_, atI_nat (j := 1) rfl, kD (.int 5) (.int 5) rfl⟩
      · rw [z]; exact ⟨_, atI_nat (j := 2) rfl, kD (.str "plain") (.str _ (by decide +kernel) (by decide +kernel)) rfl⟩
      · rw [z]; exact ⟨_, atI_nat (j := 3) rfl, kD _ (dna.out.same (((sb.trans sc5).trans sd).trans se)) rfl⟩
      · rw [z]; exact ⟨_, atI_nat (j := 4) rfl, kD _ (dnb.out.same ((sc5.trans sd).trans se)) rfl⟩
      · rw [z]; exact ⟨_, atI_nat (j := 5) rfl, _, .dK ((sd.trans se) _ _ ec5), dict_kit K⟩
      · rw [z]; exact ⟨_, atI_nat (j := 6) rfl, kD (.bool true) (.bl true) rfl⟩
      · rw [z]; exact ⟨_, atI_nat (j := 7) rfl, kD _ (dnd.out.same se) rfl⟩
    refine ⟨_, rfl, _, _, rfl, rfl, ⟨by decide, by decide⟩, _, _, rfl, rfl, show (0 : Int) < 8 by decide, l, _, i0 / 6 % 8, v, rfl, rfl, SqL.of ee, hv, ?_⟩
    dsimp only [gName, List.set_cons_succ, List.set_cons_zero]
    refine ⟨_, rfl, v, rfl, .inr ⟨tv, fun u Hf sf dnf => ?_⟩⟩
    refine fun v9 Hg sg dng => ⟨refD, (dnf.out.same sg).den, dng.out.den, litR, true, rfl, ?_⟩
    rw [if_pos rfl]
    have Sg := (Se.trans sf).trans sg
    refine ⟨_, rfl, ?_⟩
    dsimp only [tNil]
    refine tok (Sg _ _ E1) (D1.same Sg) fun rz Hz sz' dnz => ⟨_, rfl, .list ds, dnz.den, (L2' _ (Sg.trans sz')).den, dep, ?_⟩
    exact q _ ((S2.trans Sg).trans sz')
end
end K7

set_option Elab.async false
set_option linter.all false
set_option maxRecDepth 100000
set_option maxHeartbeats 4000000
namespace K7
open PySem L2 Lm Lw
structure FnIn (K : PySem.W.Frag) (x : Str) (st : Stmt) : Prop where
  ex : ∃ (f : Addr) (oc : Value) (od : Option Addr) (kV dc pm : Value) (an : Option Addr) (cd ct : Value) (sl : Array (Option Value)), PySem.W.nsIn K mainGlobals x = some (some (.ref f)) ∧
    K.lookup f = some ⟨oc, od, .func (PySem.W.fnOf x x (defArgs st) (defBody st) (defScope st) .none kV dc pm an cd ct), sl⟩ ∧ PySem.W.codeIn K cd x = true ∧ PySem.W.keepIn K (.ref f) = true
theorem fnIn_mk {K : PySem.W.Frag} {x : Str} {st : Stmt} {f : Addr} {oc : Value} {od : Option Addr} {kV dc pm : Value} {an : Option Addr} {cd ct : Value} {sl : Array (Option Value)} (a : PySem.W.nsIn K mainGlobals x = some (some (.ref f)))
    (l : K.lookup f = some ⟨oc, od, .func (PySem.W.fnOf x x (defArgs st) (defBody st) (defScope st) .none kV dc pm an cd ct), sl⟩) (c : PySem.W.codeIn K cd x = true) (k : PySem.W.keepIn K (.ref f) = true) : FnIn K x st :=
  ⟨f, oc, od, kV, dc, pm, an, cd, ct, sl, a, l, c, k⟩
section
variable {P : Program} {w : World} {K : PySem.W.Frag} {h : Heap} {mg : Str → Option Value} {base : Heap} {x : Str} {st : Stmt} {ps : List Str} {k : Nat} {sp : Sp}
theorem def_of (X : K.In h) (G : h.Ns mainGlobals mg) (F : FnIn K x st)
    (hb : ∀ (kV doc pm : Value) (an : Option Addr) (cdv ct : Value) (us : List Value), us.length = ps.length → bindArgs (PySem.W.fnOf x x (defArgs st) (defBody st) (defScope st) .none kV doc pm an cdv ct) ⟨us, []⟩ = pure (ps.zip us))
    (ok : ∀ f fd, Fun K x x st f fd → FnOk P w K mg base CX0 k f fd ps sp) : Def P w K mg base k x ps sp := by
  obtain ⟨f, oc, od, kV, dc, pm, an, cd, ct, sl, a, l, c, kp⟩ := F.ex
  have F1 := fun_mk (st := st) l c kp
  exact ⟨f, _, ok f _ F1, PySem.W.mg_of X G a, F1.kp, F1.binds hb⟩
theorem def_ofR (X : K.In h) (G : h.Ns mainGlobals mg) (F : FnIn K x st)
    (hb : ∀ (kV doc pm : Value) (an : Option Addr) (cdv ct : Value) (us : List Value), us.length = ps.length → bindArgs (PySem.W.fnOf x x (defArgs st) (defBody st) (defScope st) .none kV doc pm an cdv ct) ⟨us, []⟩ = pure (ps.zip us))
    (ok : ∀ f fd, Fun K x x st f fd → FnOk P w K mg base (CXr P w) k f fd ps sp) : DefR P w K mg base k x ps sp := by
  obtain ⟨f, oc, od, kV, dc, pm, an, cd, ct, sl, a, l, c, kp⟩ := F.ex
  have F1 := fun_mk (st := st) l c kp
  exact ⟨f, _, ok f _ F1, PySem.W.mg_of X G a, F1.kp, F1.binds hb⟩
theorem def_ofQ {sp : Addr → Sp} (X : K.In h) (G : h.Ns mainGlobals mg) (F : FnIn K x st)
    (hb : ∀ (kV doc pm : Value) (an : Option Addr) (cdv ct : Value) (us : List Value), us.length = ps.length → bindArgs (PySem.W.fnOf x x (defArgs st) (defBody st) (defScope st) .none kV doc pm an cdv ct) ⟨us, []⟩ = pure (ps.zip us))
    (ok : ∀ f fd, Fun K x x st f fd → FnOkQ P w K mg base CX0 k f fd ps sp) : DefQ P w K mg base k x ps sp := by
  obtain ⟨f, oc, od, kV, dc, pm, an, cd, ct, sl, a, l, c, kp⟩ := F.ex
  have F1 := fun_mk (st := st) l c kp
  exact ⟨f, _, ok f _ F1, PySem.W.mg_of X G a, F1.kp, F1.binds hb⟩
/-- never called -/
def spNo : Sp := fun _ _ _ _ => False
theorem ok_no {CX : CXT} {f : Addr} {fd : FuncData} : FnOk P w K mg base CX k f fd ps spNo := ⟨fun _ _ _ _ z => z.elim, fun _ _ _ _ _ _ _ _ _ _ _ _ _ z => z.elim⟩
end
theorem cst_mk {K : PySem.W.Frag} {x : Str} {p : Value → Prop} {v : Value} (e : PySem.W.nsIn K mainGlobals x = some (some v)) (f : p v) : ∃ v, PySem.W.nsIn K mainGlobals x = some (some v) ∧ p v := ⟨v, e, f⟩
theorem ownx_VE {K : PySem.W.Frag} {C : Addr} (q : PySem.W.excIn K C [.type "ValueError", .type "Exception", .type "BaseException", .type "object"] "ValueError.__new__" = true) : OwnX K C := ⟨_, _, _, _, q, PySem.F.excBase_ValueError⟩
/-- a method, as the fragment knows it -/
structure MIn (K : PySem.W.Frag) (C : Addr) (x qual : Str) (st : Stmt) : Prop where
  ex : ∃ (f : Addr) (oc : Value) (od : Option Addr) (kV dc pm : Value) (an : Option Addr) (cd ct : Value) (sl : Array (Option Value)), PySem.W.findIn K (.ref C) x = some (some (.ref f)) ∧ PySem.W.isFn K (.ref f) = true ∧
    K.lookup f = some ⟨oc, od, .func (PySem.W.fnOf x qual (defArgs st) (defBody st) (defScope st) .none kV dc pm an cd ct), sl⟩ ∧ PySem.W.codeIn K cd qual = true ∧ PySem.W.keepIn K (.ref f) = true
theorem mIn_mk {K : PySem.W.Frag} {C : Addr} {x qual : Str} {st : Stmt} {f : Addr} {oc : Value} {od : Option Addr} {kV dc pm : Value} {an : Option Addr} {cd ct : Value} {sl : Array (Option Value)} (a : PySem.W.findIn K (.ref C) x = some (some (.ref f))) (i : PySem.W.isFn K (.ref f) = true)
    (l : K.lookup f = some ⟨oc, od, .func (PySem.W.fnOf x qual (defArgs st) (defBody st) (defScope st) .none kV dc pm an cd ct), sl⟩) (c : PySem.W.codeIn K cd qual = true) (k : PySem.W.keepIn K (.ref f) = true) : MIn K C x qual st :=
  ⟨f, oc, od, kV, dc, pm, an, cd, ct, sl, a, i, l, c, k⟩
theorem new_of {P : Program} {w : World} {K : PySem.W.Frag} {mg : Str → Option Value} {base : Heap} {x qual : Str} {C : Addr} {st : Stmt} {ps : List Str} {k : Nat} {sp : Sp} (hm : mg x = some (.ref C)) (mk : PySem.W.makesIn K C = true) (kc : PySem.W.keepIn K (.ref C) = true) (M : MIn K C "__init__" qual st)
    (hb : ∀ (kV doc pm : Value) (an : Option Addr) (cdv ct : Value) (us : List Value), us.length = ps.length → bindArgs (PySem.W.fnOf "__init__" qual (defArgs st) (defBody st) (defScope st) .none kV doc pm an cdv ct) ⟨us, []⟩ = pure (ps.zip us))
    (ok : ∀ f fd, Fun K "__init__" qual st f fd → FnOk P w K mg base CX0 k f fd ps sp) : New P w K mg base k x C ps sp := by
  obtain ⟨f, oc, od, kV, dc, pm, an, cd, ct, sl, a, i, l, c, kp⟩ := M.ex
  have F1 := fun_mk (st := st) l c kp
  exact ⟨f, _, ⟨mk, a, i, kc⟩, ok f _ F1, hm, F1.binds hb⟩
theorem meth_of {P : Program} {w : World} {K : PySem.W.Frag} {mg : Str → Option Value} {base : Heap} {x qual : Str} {C : Addr} {st : Stmt} {ps : List Str} {k : Nat} {sp : Sp} (hc : Cls K C) (M : MIn K C x qual st)
    (hb : ∀ (kV doc pm : Value) (an : Option Addr) (cdv ct : Value) (us : List Value), us.length = ps.length → bindArgs (PySem.W.fnOf x qual (defArgs st) (defBody st) (defScope st) .none kV doc pm an cdv ct) ⟨us, []⟩ = pure (ps.zip us))
    (ok : ∀ f fd, Fun K x qual st f fd → FnOk P w K mg base CX0 k f fd ps sp) : MethV P w K mg base k C x ps sp := by
  obtain ⟨f, oc, od, kV, dc, pm, an, cd, ct, sl, a, i, l, c, kp⟩ := M.ex
  have F1 := fun_mk (st := st) l c kp
  exact ⟨f, _, hc, ⟨a, i, kp⟩, ok f _ F1, F1.binds hb⟩
/-- a class of parts -/
structure PIn (K : PySem.W.Frag) (C : Addr) (stI stT : Stmt) (qI qT : Str) : Prop where
  mkc : PySem.W.makesIn K C = true
  kc : PySem.W.keepIn K (.ref C) = true
  pg : PySem.W.plainGet K C Str.empty = true
  hd : PySem.W.hasDictIn K C = true
  po : PySem.W.plainOver K C = true
  sa : PySem.W.findIn K (.ref C) "__setattr__" = some (some (.builtin "object.__setattr__"))
  ha : PySem.W.findIn K (.ref C) "__class__" = some (some (.builtin "object.__class__"))
  hn : PySem.W.specialIn K (.builtin "object.__class__") "__get__" = some (some (.builtin "getset_descriptor.__get__"))
  ht : PySem.W.takesIn K (.builtin "object.__class__") = some true
  hm : PySem.W.mroIn K C (.type "object") = some true
  mi : MIn K C "__init__" qI stI
  mt : MIn K C "told" qT stT
theorem PIn.cls {K : PySem.W.Frag} {C : Addr} {stI stT : Stmt} {qI qT : Str} (p : PIn K C stI stT qI qT) : Cls K C := ⟨p.pg, p.hd, p.po, p.sa⟩
theorem PIn.inst {K : PySem.W.Frag} {C : Addr} {stI stT : Stmt} {qI qT : Str} (p : PIn K C stI stT qI qT) : Inst K C := ⟨p.cls, p.ha, p.hn, p.ht, p.hm⟩
structure Addrs where
  MarkError : Addr
  BadText : Addr
  BadName : Addr
  BadTree : Addr
  OutOfPlace : Addr
  BadWidth : Addr
  Plain : Addr
  Code : Addr
  Strong : Addr
  Link : Addr
  Mark : Addr
structure ClsT (K : PySem.W.Frag) (c : Addrs) : Prop where
  c_MarkError : PySem.W.nsIn K mainGlobals "MarkError" = some (some (.ref c.MarkError))
  c_BadText : PySem.W.nsIn K mainGlobals "BadText" = some (some (.ref c.BadText))
  c_BadName : PySem.W.nsIn K mainGlobals "BadName" = some (some (.ref c.BadName))
  c_BadTree : PySem.W.nsIn K mainGlobals "BadTree" = some (some (.ref c.BadTree))
  c_OutOfPlace : PySem.W.nsIn K mainGlobals "OutOfPlace" = some (some (.ref c.OutOfPlace))
  c_BadWidth : PySem.W.nsIn K mainGlobals "BadWidth" = some (some (.ref c.BadWidth))
  c_Plain : PySem.W.nsIn K mainGlobals "Plain" = some (some (.ref c.Plain))
  c_Code : PySem.W.nsIn K mainGlobals "Code" = some (some (.ref c.Code))
  c_Strong : PySem.W.nsIn K mainGlobals "Strong" = some (some (.ref c.Strong))
  c_Link : PySem.W.nsIn K mainGlobals "Link" = some (some (.ref c.Link))
  c_Mark : PySem.W.nsIn K mainGlobals "Mark" = some (some (.ref c.Mark))
  x_BadTree : OwnX K c.BadTree
  m_BadTree : PySem.W.exmOne K (.ref c.BadTree) (.ref c.MarkError) = some true
  k_BadTree : ExcK K c.BadTree
  i_BadTree_BadText : PySem.W.kitOne K (.ref c.BadTree) (.ref c.BadText) = some false
  i_BadTree_BadName : PySem.W.kitOne K (.ref c.BadTree) (.ref c.BadName) = some false
  i_BadTree_BadTree : PySem.W.kitOne K (.ref c.BadTree) (.ref c.BadTree) = some true
  i_BadTree_OutOfPlace : PySem.W.kitOne K (.ref c.BadTree) (.ref c.OutOfPlace) = some false
  i_BadTree_BadWidth : PySem.W.kitOne K (.ref c.BadTree) (.ref c.BadWidth) = some false
  v_BadTree : PySem.W.kitOne K (.ref c.BadTree) (.type "ValueError") = some true
  p_Plain : PIn K c.Plain sPlainInit sPlainTold "Plain.__init__" "Plain.told"
  n_Plain_signs : PySem.W.findIn K (.ref c.Plain) "signs" = some none
  i_Plain_Plain : PySem.W.kitOne K (.ref c.Plain) (.ref c.Plain) = some true
  p_Code : PIn K c.Code sCodeInit sCodeTold "Code.__init__" "Code.told"
  n_Code_signs : PySem.W.findIn K (.ref c.Code) "signs" = some none
  i_Code_Plain : PySem.W.kitOne K (.ref c.Code) (.ref c.Plain) = some false
  p_Strong : PIn K c.Strong sStrongInit sStrongTold "Strong.__init__" "Strong.told"
  n_Strong_parts : PySem.W.findIn K (.ref c.Strong) "parts" = some none
  i_Strong_Plain : PySem.W.kitOne K (.ref c.Strong) (.ref c.Plain) = some false
  p_Link : PIn K c.Link sLinkInit sLinkTold "Link.__init__" "Link.told"
  n_Link_words : PySem.W.findIn K (.ref c.Link) "words" = some none
  n_Link_name : PySem.W.findIn K (.ref c.Link) "name" = some none
  i_Link_Plain : PySem.W.kitOne K (.ref c.Link) (.ref c.Plain) = some false
  p_Mark : PIn K c.Mark sMarkInit sMarkTold "Mark.__init__" "Mark.told"
  n_Mark_name : PySem.W.findIn K (.ref c.Mark) "name" = some none
  i_Mark_Plain : PySem.W.kitOne K (.ref c.Mark) (.ref c.Plain) = some false
theorem cls_mk {K : PySem.W.Frag} {aMarkError aBadText aBadName aBadTree aOutOfPlace aBadWidth aPlain aCode aStrong aLink aMark : Addr}
    (c_MarkError : PySem.W.nsIn K mainGlobals "MarkError" = some (some (.ref aMarkError)))
    (c_BadText : PySem.W.nsIn K mainGlobals "BadText" = some (some (.ref aBadText)))
    (c_BadName : PySem.W.nsIn K mainGlobals "BadName" = some (some (.ref aBadName)))
    (c_BadTree : PySem.W.nsIn K mainGlobals "BadTree" = some (some (.ref aBadTree)))
    (c_OutOfPlace : PySem.W.nsIn K mainGlobals "OutOfPlace" = some (some (.ref aOutOfPlace)))
    (c_BadWidth : PySem.W.nsIn K mainGlobals "BadWidth" = some (some (.ref aBadWidth)))
    (c_Plain : PySem.W.nsIn K mainGlobals "Plain" = some (some (.ref aPlain)))
    (c_Code : PySem.W.nsIn K mainGlobals "Code" = some (some (.ref aCode)))
    (c_Strong : PySem.W.nsIn K mainGlobals "Strong" = some (some (.ref aStrong)))
    (c_Link : PySem.W.nsIn K mainGlobals "Link" = some (some (.ref aLink)))
    (c_Mark : PySem.W.nsIn K mainGlobals "Mark" = some (some (.ref aMark)))
    (x_BadTree : OwnX K aBadTree)
    (m_BadTree : PySem.W.exmOne K (.ref aBadTree) (.ref aMarkError) = some true)
    (k_BadTree : ExcK K aBadTree)
    (i_BadTree_BadText : PySem.W.kitOne K (.ref aBadTree) (.ref aBadText) = some false)
    (i_BadTree_BadName : PySem.W.kitOne K (.ref aBadTree) (.ref aBadName) = some false)
    (i_BadTree_BadTree : PySem.W.kitOne K (.ref aBadTree) (.ref aBadTree) = some true)
    (i_BadTree_OutOfPlace : PySem.W.kitOne K (.ref aBadTree) (.ref aOutOfPlace) = some false)
    (i_BadTree_BadWidth : PySem.W.kitOne K (.ref aBadTree) (.ref aBadWidth) = some false)
    (v_BadTree : PySem.W.kitOne K (.ref aBadTree) (.type "ValueError") = some true)
    (p_Plain : PIn K aPlain sPlainInit sPlainTold "Plain.__init__" "Plain.told")
    (n_Plain_signs : PySem.W.findIn K (.ref aPlain) "signs" = some none)
    (i_Plain_Plain : PySem.W.kitOne K (.ref aPlain) (.ref aPlain) = some true)
    (p_Code : PIn K aCode sCodeInit sCodeTold "Code.__init__" "Code.told")
    (n_Code_signs : PySem.W.findIn K (.ref aCode) "signs" = some none)
    (i_Code_Plain : PySem.W.kitOne K (.ref aCode) (.ref aPlain) = some false)
    (p_Strong : PIn K aStrong sStrongInit sStrongTold "Strong.__init__" "Strong.told")
    (n_Strong_parts : PySem.W.findIn K (.ref aStrong) "parts" = some none)
    (i_Strong_Plain : PySem.W.kitOne K (.ref aStrong) (.ref aPlain) = some false)
    (p_Link : PIn K aLink sLinkInit sLinkTold "Link.__init__" "Link.told")
    (n_Link_words : PySem.W.findIn K (.ref aLink) "words" = some none)
    (n_Link_name : PySem.W.findIn K (.ref aLink) "name" = some none)
    (i_Link_Plain : PySem.W.kitOne K (.ref aLink) (.ref aPlain) = some false)
    (p_Mark : PIn K aMark sMarkInit sMarkTold "Mark.__init__" "Mark.told")
    (n_Mark_name : PySem.W.findIn K (.ref aMark) "name" = some none)
    (i_Mark_Plain : PySem.W.kitOne K (.ref aMark) (.ref aPlain) = some false)
    : ∃ c : Addrs, ClsT K c := ⟨⟨aMarkError, aBadText, aBadName, aBadTree, aOutOfPlace, aBadWidth, aPlain, aCode, aStrong, aLink, aMark⟩, ⟨c_MarkError, c_BadText, c_BadName, c_BadTree, c_OutOfPlace, c_BadWidth, c_Plain, c_Code, c_Strong, c_Link, c_Mark, x_BadTree, m_BadTree, k_BadTree, i_BadTree_BadText, i_BadTree_BadName, i_BadTree_BadTree, i_BadTree_OutOfPlace, i_BadTree_BadWidth, v_BadTree, p_Plain, n_Plain_signs, i_Plain_Plain, p_Code, n_Code_signs, i_Code_Plain, p_Strong, n_Strong_parts, i_Strong_Plain, p_Link, n_Link_words, n_Link_name, i_Link_Plain, p_Mark, n_Mark_name, i_Mark_Plain⟩⟩
structure Top (K : PySem.W.Frag) : Prop where
  f_told_parts : FnIn K "told_parts" sTolds
  f_is_name : FnIn K "is_name" sName
  f_name_of : FnIn K "name_of" sNameOf
  f_need_parts : FnIn K "need_parts" sNeedParts
  f_need_run : FnIn K "need_run" sNeedRun
  f_need_part : FnIn K "need_part" sNeedPart
  f_need_inner : FnIn K "need_inner" sNeedInner
  f_need_signs : FnIn K "need_signs" sNeedSigns
  f_need_code : FnIn K "need_code" sNeedCode
  f_need_small_name : FnIn K "need_small_name" sNeedName
  f_begins_with_blank : FnIn K "begins_with_blank" sBegins
  f_ends_with_blank : FnIn K "ends_with_blank" sEndsB
  f__law_cell : FnIn K "_law_cell" sCell
  f__law_mixed : FnIn K "_law_mixed" sMixed
  f__law_menu : FnIn K "_law_menu" sMenu
  f__law_signs : FnIn K "_law_signs" sSigns
  f__law_text : FnIn K "_law_text" sText
  f__law_name : FnIn K "_law_name" sName7
  f__law_ends : FnIn K "_law_ends" sEnds
  f__law_part : FnIn K "_law_part" sPart7
  f__law_parts : FnIn K "_law_parts" sParts7
  f__law_kind : FnIn K "_law_kind" sKind
  f__law_odd : FnIn K "_law_odd" sOdd
  f__law_told : FnIn K "_law_told" sTold7
  f__law_wrong : FnIn K "_law_wrong" sWrong
  f_law : FnIn K "law" sLaw7
  n_list : PySem.W.nsIn K mainGlobals "list" = some none
  n_len : PySem.W.nsIn K mainGlobals "len" = some none
  n_isinstance : PySem.W.nsIn K mainGlobals "isinstance" = some none
  n_all : PySem.W.nsIn K mainGlobals "all" = some none
  n_str : PySem.W.nsIn K mainGlobals "str" = some none
  n_tuple : PySem.W.nsIn K mainGlobals "tuple" = some none
  n_range : PySem.W.nsIn K mainGlobals "range" = some none
  n_int : PySem.W.nsIn K mainGlobals "int" = some none
  n_ValueError : PySem.W.nsIn K mainGlobals "ValueError" = some none
  g_NAME_SIGNS : ∃ v, PySem.W.nsIn K mainGlobals "NAME_SIGNS" = some (some v) ∧ ∃ t, v = .str (S nameSigns) t
  g_LONGEST_NAME : ∃ v, PySem.W.nsIn K mainGlobals "LONGEST_NAME" = some (some v) ∧ ∃ t, v = .int 12 t
  cl : ∃ c : Addrs, ClsT K c
theorem all_law {P : Program} {w : World} {K : PySem.W.Frag} {h : Heap} {mg : Str → Option Value} {fa : Addr} (X : K.In h) (G : h.Ns mainGlobals mg) (hfa : mg "law" = some (.ref fa)) (t : Top K) :
    ∃ fd : FuncData, (∀ (s : Shared) (v : Value), BindsTo s fd ⟨[v], []⟩ [("_law_script", v)]) ∧ ∀ base : Heap, K.In base → base.Ns mainGlobals mg → FnOk P w K mg base CX0 33 fa fd ["_law_script"] (spLaw7 K) := by
  obtain ⟨z, L⟩ := t.cl
  let c : Cp := ⟨0, z.Plain, z.Code, z.Strong, z.Link, z.Mark⟩
  have n_len := PySem.W.mg_none_of X G t.n_len
  have n_int := PySem.W.mg_none_of X G t.n_int
  have n_range := PySem.W.mg_none_of X G t.n_range
  have n_list := PySem.W.mg_none_of X G t.n_list
  have n_isinstance := PySem.W.mg_none_of X G t.n_isinstance
  have T : TxP K mg c z.BadTree := {
    n_list := n_list
    n_len := n_len
    n_isinstance := n_isinstance
    n_all := PySem.W.mg_none_of X G t.n_all
    n_str := PySem.W.mg_none_of X G t.n_str
    n_tuple := PySem.W.mg_none_of X G t.n_tuple
    g_NAME_SIGNS := by obtain ⟨v, e, k, rfl⟩ := t.g_NAME_SIGNS; exact ⟨k, PySem.W.mg_of X G e⟩
    g_LONGEST_NAME := by obtain ⟨v, e, k, rfl⟩ := t.g_LONGEST_NAME; exact ⟨k, PySem.W.mg_of X G e⟩
    c_BadTree := PySem.W.mg_of X G L.c_BadTree
    x_BadTree := L.x_BadTree
    c_Plain := PySem.W.mg_of X G L.c_Plain
    o_Plain := L.p_Plain.inst
    o_Code := L.p_Code.inst
    o_Strong := L.p_Strong.inst
    o_Link := L.p_Link.inst
    o_Mark := L.p_Mark.inst
    a_Plain := L.n_Plain_signs
    a_Code := L.n_Code_signs
    a_Strong := L.n_Strong_parts
    a_Linkw := L.n_Link_words
    a_Linkn := L.n_Link_name
    a_Mark := L.n_Mark_name
    i_Plain := L.i_Plain_Plain
    i_Code := L.i_Code_Plain
    i_Strong := L.i_Strong_Plain
    i_Link := L.i_Link_Plain
    i_Mark := L.i_Mark_Plain
  }
  have TL : TxL mg := ⟨n_len, n_range, n_int⟩
  have TW : TxW mg := ⟨n_range, n_list⟩
  have TK : TxK K mg z.BadTree := ⟨n_isinstance, n_int, n_len, PySem.W.mg_none_of X G t.n_ValueError, ⟨_, PySem.W.mg_of X G L.c_BadText, L.i_BadTree_BadText⟩, ⟨_, PySem.W.mg_of X G L.c_BadName, L.i_BadTree_BadName⟩, ⟨PySem.W.mg_of X G L.c_BadTree, L.i_BadTree_BadTree⟩,
    ⟨_, PySem.W.mg_of X G L.c_OutOfPlace, L.i_BadTree_OutOfPlace⟩, ⟨_, PySem.W.mg_of X G L.c_BadWidth, L.i_BadTree_BadWidth⟩, ⟨_, PySem.W.mg_of X G L.c_MarkError, L.m_BadTree⟩, L.v_BadTree, L.k_BadTree⟩
  obtain ⟨f, oc, od, kV, dc, pm, an, cd, ct, sl, a, l, cc, kp⟩ := t.f_law.ex
  have e := hfa.symm.trans (PySem.W.mg_of X G a)
  cases e
  refine ⟨PySem.W.fnOf "law" "law" (defArgs sLaw7) (defBody sLaw7) (defScope sLaw7) .none kV dc pm an cd ct, fun s v => .of_eq rfl, fun base _ _ => ?_⟩
  have D_Plain : New P w K mg base 1 "Plain" c.Plain ["self", "signs"] (spInit1 c.Plain "signs") := new_of (PySem.W.mg_of X G L.c_Plain) L.p_Plain.mkc L.p_Plain.kc L.p_Plain.mi (fun _ _ _ _ _ _ us hl => match us, hl with | [_, _], _ => rfl) fun f fd F => ok_PlainInit F T
  have D_Code : New P w K mg base 1 "Code" c.Code ["self", "signs"] (spInit1 c.Code "signs") := new_of (PySem.W.mg_of X G L.c_Code) L.p_Code.mkc L.p_Code.kc L.p_Code.mi (fun _ _ _ _ _ _ us hl => match us, hl with | [_, _], _ => rfl) fun f fd F => ok_CodeInit F T
  have D_Strong : New P w K mg base 1 "Strong" c.Strong ["self", "parts"] (spInitS c.Strong) := new_of (PySem.W.mg_of X G L.c_Strong) L.p_Strong.mkc L.p_Strong.kc L.p_Strong.mi (fun _ _ _ _ _ _ us hl => match us, hl with | [_, _], _ => rfl) fun f fd F => ok_StrongInit F T
  have D_Link : New P w K mg base 1 "Link" c.Link ["self", "words", "name"] (spInit2 c.Link "words" "name") := new_of (PySem.W.mg_of X G L.c_Link) L.p_Link.mkc L.p_Link.kc L.p_Link.mi (fun _ _ _ _ _ _ us hl => match us, hl with | [_, _, _], _ => rfl) fun f fd F => ok_LinkInit F T
  have D_Mark : New P w K mg base 1 "Mark" c.Mark ["self", "name"] (spInit1 c.Mark "name") := new_of (PySem.W.mg_of X G L.c_Mark) L.p_Mark.mkc L.p_Mark.kc L.p_Mark.mi (fun _ _ _ _ _ _ us hl => match us, hl with | [_, _], _ => rfl) fun f fd F => ok_MarkInit F T
  have V_Plain : MethV P w K mg base 1 c.Plain "told" ["self"] (spTold c fun p => ∃ s, p = .one (.plain s)) := meth_of L.p_Plain.cls L.p_Plain.mt (fun _ _ _ _ _ _ us hl => match us, hl with | [_], _ => rfl) fun f fd F => ok_PlainTold F T
  have V_Code : MethV P w K mg base 1 c.Code "told" ["self"] (spTold c fun p => ∃ s, p = .one (.code s)) := meth_of L.p_Code.cls L.p_Code.mt (fun _ _ _ _ _ _ us hl => match us, hl with | [_], _ => rfl) fun f fd F => ok_CodeTold F T
  have V_Mark : MethV P w K mg base 1 c.Mark "told" ["self"] (spTold c fun p => ∃ s, p = .one (.note s)) := meth_of L.p_Mark.cls L.p_Mark.mt (fun _ _ _ _ _ _ us hl => match us, hl with | [_], _ => rfl) fun f fd F => ok_MarkTold F T
  have V_Link : MethV P w K mg base 1 c.Link "told" ["self"] (spTold c fun p => ∃ s n, p = .one (.link s n)) := meth_of L.p_Link.cls L.p_Link.mt (fun _ _ _ _ _ _ us hl => match us, hl with | [_], _ => rfl) fun f fd F => ok_LinkTold F T
  have W1 : ∀ {k : Nat}, 1 ≤ k → ∀ (p : P1) H a, PCAt c H a (.one p) → ∃ C dx fs sp, H a = some (.ins C dx fs) ∧ fs.lookup ("told" : Str) = none ∧ MethV P w K mg base k C "told" ["self"] sp ∧ ∀ Q E, (∀ v H', Same H H' → Dn (dif H H') v (dP (.one p)) → Q v H') → sp [.ref a] H Q E := fun {k} hk p H a h => by
    cases p with
    | plain s =>
      obtain ⟨_, dx, e⟩ := id h
      exact ⟨_, dx, _, _, e, rfl, V_Plain.mono hk, fun Q E g => ⟨a, _, rfl, h, ⟨s, rfl⟩, g⟩⟩
    | code s =>
      obtain ⟨_, dx, e⟩ := id h
      exact ⟨_, dx, _, _, e, rfl, V_Code.mono hk, fun Q E g => ⟨a, _, rfl, h, ⟨s, rfl⟩, g⟩⟩
    | link s n =>
      obtain ⟨_, _, dx, e⟩ := id h
      exact ⟨_, dx, _, _, e, rfl, V_Link.mono hk, fun Q E g => ⟨a, _, rfl, h, ⟨s, n, rfl⟩, g⟩⟩
    | note s =>
      obtain ⟨_, dx, e⟩ := id h
      exact ⟨_, dx, _, _, e, rfl, V_Mark.mono hk, fun Q E g => ⟨a, _, rfl, h, ⟨s, rfl⟩, g⟩⟩
  have M1 : ToldV P w K mg base 1 c R1 := fun p hp H a h => by
    cases p with
    | one p => exact W1 (Nat.le_refl 1) p H a h
    | strong ps => exact absurd hp (by unfold R1; simp [one?])
  have D_told1 : Def P w K mg base 2 "told_parts" ["parts"] (spTolds c R1) := def_of X G t.f_told_parts (fun _ _ _ _ _ _ us hl => match us, hl with | [_], _ => rfl) fun f fd F => ok_tolds F M1
  have V_Strong : MethV P w K mg base 3 c.Strong "told" ["self"] (spTold c fun p => ∃ ps, p = .strong ps ∧ ps.length ≤ 100000) := meth_of L.p_Strong.cls L.p_Strong.mt (fun _ _ _ _ _ _ us hl => match us, hl with | [_], _ => rfl) fun f fd F => ok_StrongTold F T D_told1
  have M2 : ToldV P w K mg base 3 c R2 := fun p hp H a h => by
    cases p with
    | one p => exact W1 (by decide) p H a h
    | strong ps =>
      obtain ⟨dx, l, as, e, _⟩ := id h
      exact ⟨_, dx, _, _, e, rfl, V_Strong, fun Q E g => ⟨a, _, rfl, h, ⟨ps, rfl, hp⟩, g⟩⟩
  have D_told_parts : Def P w K mg base 4 "told_parts" ["parts"] (spTolds c R2) := def_of X G t.f_told_parts (fun _ _ _ _ _ _ us hl => match us, hl with | [_], _ => rfl) fun f fd F => ok_tolds F M2
  have D_is_name : Def P w K mg base 1 "is_name" ["thing"] spNameD := def_of X G t.f_is_name (fun _ _ _ _ _ _ us hl => match us, hl with | [_], _ => rfl) fun f fd F => ok_nameD F T
  have D_name_of : Def P w K mg base 2 "name_of" ["thing"] spNameOf := def_of X G t.f_name_of (fun _ _ _ _ _ _ us hl => match us, hl with | [_], _ => rfl) fun f fd F => ok_nameOf F T D_is_name
  have D_need_signs : DefR P w K mg base 1 "need_signs" ["thing"] (spStr z.BadTree sgD) := def_ofR X G t.f_need_signs (fun _ _ _ _ _ _ us hl => match us, hl with | [_], _ => rfl) fun f fd F => ok_needSigns F T
  have D_need_code : DefR P w K mg base 2 "need_code" ["thing"] (spStr z.BadTree cdD) := def_ofR X G t.f_need_code (fun _ _ _ _ _ _ us hl => match us, hl with | [_], _ => rfl) fun f fd F => ok_needCode F T D_need_signs
  have D_need_small_name : DefR P w K mg base 3 "need_small_name" ["thing"] (spStr z.BadTree nmD) := def_ofR X G t.f_need_small_name (fun _ _ _ _ _ _ us hl => match us, hl with | [_], _ => rfl) fun f fd F => ok_needName F T D_is_name D_name_of
  have D_begins_with_blank : Def P w K mg base 1 "begins_with_blank" ["part"] (spBlank c begB) := def_of X G t.f_begins_with_blank (fun _ _ _ _ _ _ us hl => match us, hl with | [_], _ => rfl) fun f fd F => ok_begins F T
  have D_ends_with_blank : Def P w K mg base 1 "ends_with_blank" ["part"] (spBlank c endB) := def_of X G t.f_ends_with_blank (fun _ _ _ _ _ _ us hl => match us, hl with | [_], _ => rfl) fun f fd F => ok_endsB F T
  have D_inner0 : DefR P w K mg base 1 "need_inner" ["told"] spNo := def_ofR X G t.f_need_inner (fun _ _ _ _ _ _ us hl => match us, hl with | [_], _ => rfl) fun f fd F => ok_no
  have D_part0 : DefR P w K mg base 5 "need_part" ["thing", "strong_too"] (spPart z.BadTree c false) := def_ofR X G t.f_need_part (fun _ _ _ _ _ _ us hl => match us, hl with | [_, _], _ => rfl) fun f fd F => ok_needPart F T D_Link D_Plain D_Code D_Mark D_Strong D_need_signs D_need_code D_need_small_name D_inner0 (fun z => nomatch z)
  have D_run0 : DefR P w K mg base 6 "need_run" ["told", "strong_too"] (spRun K z.BadTree c false) := def_ofR X G t.f_need_run (fun _ _ _ _ _ _ us hl => match us, hl with | [_, _], _ => rfl) fun f fd F => ok_needRun F T D_part0
  have D_need_inner : DefR P w K mg base 7 "need_inner" ["told"] (spInner z.BadTree c) := def_ofR X G t.f_need_inner (fun _ _ _ _ _ _ us hl => match us, hl with | [_], _ => rfl) fun f fd F => ok_needInner F T D_run0
  have D_need_part : DefR P w K mg base 11 "need_part" ["thing", "strong_too"] (spPart z.BadTree c true) := def_ofR X G t.f_need_part (fun _ _ _ _ _ _ us hl => match us, hl with | [_, _], _ => rfl) fun f fd F => ok_needPart F T D_Link D_Plain D_Code D_Mark D_Strong D_need_signs D_need_code D_need_small_name D_need_inner (fun _ _ _ _ _ h => h)
  have D_need_run : DefR P w K mg base 12 "need_run" ["told", "strong_too"] (spRun K z.BadTree c true) := def_ofR X G t.f_need_run (fun _ _ _ _ _ _ us hl => match us, hl with | [_, _], _ => rfl) fun f fd F => ok_needRun F T D_need_part
  have D_need_parts : DefR P w K mg base 13 "need_parts" ["told"] (spNeed K z.BadTree c) := def_ofR X G t.f_need_parts (fun _ _ _ _ _ _ us hl => match us, hl with | [_], _ => rfl) fun f fd F => ok_needParts F T D_need_run D_begins_with_blank D_ends_with_blank
  have D_l_cell : Def P w K mg base 1 "_law_cell" ["_law_script", "_law_k"] (spCell K) := def_of X G t.f__law_cell (fun _ _ _ _ _ _ us hl => match us, hl with | [_, _], _ => rfl) fun f fd F => ok_cell F TL
  have D_l_mixed : Def P w K mg base 1 "_law_mixed" ["_law_cell_here", "_law_k"] spMixed := def_of X G t.f__law_mixed (fun _ _ _ _ _ _ us hl => match us, hl with | [_, _], _ => rfl) fun f fd F => ok_mixed F
  have D_l_menu : Def P w K mg base 1 "_law_menu" ["_law_kind_here"] spMenu := def_of X G t.f__law_menu (fun _ _ _ _ _ _ us hl => match us, hl with | [_], _ => rfl) fun f fd F => ok_menu F
  have D_l_signs : Def P w K mg base 1 "_law_signs" ["_law_number", "_law_size", "_law_menu_here"] spSigns := def_of X G t.f__law_signs (fun _ _ _ _ _ _ us hl => match us, hl with | [_, _, _], _ => rfl) fun f fd F => ok_signs F TL
  have D_l_text : Def P w K mg base 2 "_law_text" ["_law_number", "_law_most"] spText := def_of X G t.f__law_text (fun _ _ _ _ _ _ us hl => match us, hl with | [_, _], _ => rfl) fun f fd F => ok_text F TL D_l_mixed D_l_menu D_l_signs
  have D_l_name : Def P w K mg base 2 "_law_name" ["_law_number"] spName7 := def_of X G t.f__law_name (fun _ _ _ _ _ _ us hl => match us, hl with | [_], _ => rfl) fun f fd F => ok_name7 F TL D_l_menu D_l_signs
  have D_l_ends : Def P w K mg base 1 "_law_ends" ["_law_signs_here", "_law_number"] spEnds := def_of X G t.f__law_ends (fun _ _ _ _ _ _ us hl => match us, hl with | [_, _], _ => rfl) fun f fd F => ok_ends F TL
  have D_lparts0 : Def P w K mg base 1 "_law_parts" ["_law_number", "_law_size", "_law_is_inner"] spNo := def_of X G t.f__law_parts (fun _ _ _ _ _ _ us hl => match us, hl with | [_, _, _], _ => rfl) fun f fd F => ok_no
  have D_lpart1 : Def P w K mg base 4 "_law_part" ["_law_number", "_law_before", "_law_is_inner"] (spPart7 true) := def_of X G t.f__law_part (fun _ _ _ _ _ _ us hl => match us, hl with | [_, _, _], _ => rfl) fun f fd F => ok_part7 F TL D_l_mixed D_l_text D_l_name D_l_ends D_lparts0 (fun z => nomatch z)
  have D_lparts1 : Def P w K mg base 6 "_law_parts" ["_law_number", "_law_size", "_law_is_inner"] (spParts7 true) := def_of X G t.f__law_parts (fun _ _ _ _ _ _ us hl => match us, hl with | [_, _, _], _ => rfl) fun f fd F => ok_parts7 F TL D_l_mixed D_lpart1
  have D_l_part : Def P w K mg base 9 "_law_part" ["_law_number", "_law_before", "_law_is_inner"] (spPart7 false) := def_of X G t.f__law_part (fun _ _ _ _ _ _ us hl => match us, hl with | [_, _, _], _ => rfl) fun f fd F => ok_part7 F TL D_l_mixed D_l_text D_l_name D_l_ends D_lparts1 (fun _ _ _ _ _ h => h)
  have D_l_parts : Def P w K mg base 11 "_law_parts" ["_law_number", "_law_size", "_law_is_inner"] (spParts7 false) := def_of X G t.f__law_parts (fun _ _ _ _ _ _ us hl => match us, hl with | [_, _, _], _ => rfl) fun f fd F => ok_parts7 F TL D_l_mixed D_l_part
  have D_l_odd : Def P w K mg base 1 "_law_odd" ["_law_number"] spOdd := def_of X G t.f__law_odd (fun _ _ _ _ _ _ us hl => match us, hl with | [_], _ => rfl) fun f fd F => ok_odd F TL
  have D_l_wrong : Def P w K mg base 2 "_law_wrong" ["_law_due", "_law_number"] spWrong := def_of X G t.f__law_wrong (fun _ _ _ _ _ _ us hl => match us, hl with | [_, _], _ => rfl) fun f fd F => ok_wrong F TL D_l_odd
  have D_l_kind : DefQ P w K mg base 1 "_law_kind" ["_law_error"] (spKind7 z.BadTree) := def_ofQ X G t.f__law_kind (fun _ _ _ _ _ _ us hl => match us, hl with | [_], _ => rfl) fun f fd F => ok_kind7 F TK
  have D_l_told : Def P w K mg base 19 "_law_told" ["_law_thing"] (spTold7 K) := def_of X G t.f__law_told (fun _ _ _ _ _ _ us hl => match us, hl with | [_], _ => rfl) fun f fd F => ok_told7 F TK D_need_parts D_told_parts D_l_kind
  exact ok_law7 (fun_mk (st := sLaw7) l cc kp) TW D_l_cell D_l_mixed D_l_parts D_l_told D_l_wrong
end K7

set_option Elab.async false
set_option linter.all false

open PySem PySem.W PySem.W.X PySem.W.ZRun PyProof.Rows
theorem L2.true_law {c : PySem.W.ClaimW} {cl : PySem.Str → Option PySem.Addr} {mean : PySem.ExcName → Option PySem.Value} {args : List PySem.W.WData} {s₁ s' : PySem.Shared} (hr : ∀ cls : PySem.ExcName, c.raises args cls = false) (hp : c.post args (.bool true) args = true)
    (h : OldK s₁.heap s'.heap ∧ s'.os = s₁.os ∧ PyProof.Rows.AllBare s'.gens) : PySem.W.GoodWG c cl mean args s₁ (Except.ok (PySem.Flow.ret (.bool true))) s' :=
  ⟨.inl ⟨_, .bool true, [], rfl, hr, .bool _, hp, fun _ => ⟨.nil, fun _ z => nomatch z⟩⟩, h⟩
def PySem.W.Fast.tw914806909762680194 : Unit := ()
def PySem.W.Fast.tw10525944298002950527 : Unit := ()
def PySem.W.Fast.tw17597052964239781390 : Unit := ()
def PySem.W.Fast.tw9777325266212092041 : Unit := ()
def PySem.W.Fast.tw9812941372194295796 : Unit := ()
def PySem.W.Fast.tw14804495222381943159 : Unit := ()
def PySem.W.Fast.tw6402567119654494964 : Unit := ()
def PySem.W.Fast.tw11999043125318668413 : Unit := ()
def PySem.W.Fast.tw7166174803505835717 : Unit := ()
def PySem.W.Fast.tw5105177801965996971 : Unit := ()
def PySem.W.Fast.tw10878316911121394274 : Unit := ()
def PySem.W.Fast.tw5415018261966261420 : Unit := ()
def PySem.W.Fast.tw2444598928765244604 : Unit := ()
def PySem.W.Fast.tw1673503417488917242 : Unit := ()
def PySem.W.Fast.tw3761461191421756590 : Unit := ()
def PySem.W.Fast.tw9634450248041046684 : Unit := ()
def PySem.W.Fast.tw4370568229239075170 : Unit := ()
def PySem.W.Fast.tw10009848125942168263 : Unit := ()
def PySem.W.Fast.tw5093024010726571276 : Unit := ()
def PySem.W.Fast.tw4621225229685033612 : Unit := ()
def PySem.W.Fast.tw8854744707907693199 : Unit := ()
def PySem.W.Fast.tw9879723490857037150 : Unit := ()
def PySem.W.Fast.tw7627827379500465278 : Unit := ()
def PySem.W.Fast.tw7349305926885172676 : Unit := ()
def PySem.W.Fast.tw4601864496424250470 : Unit := ()
def PySem.W.Fast.tw907023411032971291 : Unit := ()
def PySem.W.Fast.tw10413021670854795402 : Unit := ()
def PySem.W.Fast.tw11682460605646408642 : Unit := ()
def PySem.W.Fast.tw16025919152900390664 : Unit := ()
def PySem.W.Fast.tw17389843369400866632 : Unit := ()
def PySem.W.Fast.tw8923639510657125539 : Unit := ()
def PySem.W.Fast.tw92682968349465203 : Unit := ()
def PySem.W.Fast.tw5718085130406225323 : Unit := ()
def PySem.W.Fast.tw13016689042339989739 : Unit := ()
set_option maxRecDepth 100000 in
set_option maxHeartbeats 0 in
theorem PySem.Challenge.cw_lightmark_k07_parts_refused_or_made_holds : PySem.Challenge.rw_lightmark_k07_parts_refused_or_made.Holds := by
  w_on; o_law; z_head; (case hw => w_witness2)
  k_fill
  intro w s₀ s₁ mg mb G y fa o pm cd doc dV kV ho hd hcd hD hmg hg args vals as L hpre hlay hrd hwl hlo
  z_open y L KX ZH ZN ZT
  refine Ground.open G ?_
  intro T B D TE TW
  wrow_args hpre hlay hrd hwl hlo
  rename_i ns _ _ _ _ _ _ _ a vs _ hL _ _ _ hI _ hlen _
  have htk := script_toks L ZT
  have hobj := script_obj L hL
  have t : K7.Top (L2.KOf KX) := by
    dsimp only [L2.KOf]
    constructor
    case f_told_parts => (refine' K7.fnIn_mk ?xa ?xl ?xc ?xk; (case xa => k_is); (case xl => k_is); (case xc => k_is); (case xk => k_is))
    case f_is_name => (refine' K7.fnIn_mk ?xa ?xl ?xc ?xk; (case xa => k_is); (case xl => k_is); (case xc => k_is); (case xk => k_is))
    case f_name_of => (refine' K7.fnIn_mk ?xa ?xl ?xc ?xk; (case xa => k_is); (case xl => k_is); (case xc => k_is); (case xk => k_is))
    case f_need_parts => (refine' K7.fnIn_mk ?xa ?xl ?xc ?xk; (case xa => k_is); (case xl => k_is); (case xc => k_is); (case xk => k_is))
    case f_need_run => (refine' K7.fnIn_mk ?xa ?xl ?xc ?xk; (case xa => k_is); (case xl => k_is); (case xc => k_is); (case xk => k_is))
    case f_need_part => (refine' K7.fnIn_mk ?xa ?xl ?xc ?xk; (case xa => k_is); (case xl => k_is); (case xc => k_is); (case xk => k_is))
    case f_need_inner => (refine' K7.fnIn_mk ?xa ?xl ?xc ?xk; (case xa => k_is); (case xl => k_is); (case xc => k_is); (case xk => k_is))
    case f_need_signs => (refine' K7.fnIn_mk ?xa ?xl ?xc ?xk; (case xa => k_is); (case xl => k_is); (case xc => k_is); (case xk => k_is))
    case f_need_code => (refine' K7.fnIn_mk ?xa ?xl ?xc ?xk; (case xa => k_is); (case xl => k_is); (case xc => k_is); (case xk => k_is))
    case f_need_small_name => (refine' K7.fnIn_mk ?xa ?xl ?xc ?xk; (case xa => k_is); (case xl => k_is); (case xc => k_is); (case xk => k_is))
    case f_begins_with_blank => (refine' K7.fnIn_mk ?xa ?xl ?xc ?xk; (case xa => k_is); (case xl => k_is); (case xc => k_is); (case xk => k_is))
    case f_ends_with_blank => (refine' K7.fnIn_mk ?xa ?xl ?xc ?xk; (case xa => k_is); (case xl => k_is); (case xc => k_is); (case xk => k_is))
    case f__law_cell => (refine' K7.fnIn_mk ?xa ?xl ?xc ?xk; (case xa => k_is); (case xl => k_is); (case xc => k_is); (case xk => k_is))
    case f__law_mixed => (refine' K7.fnIn_mk ?xa ?xl ?xc ?xk; (case xa => k_is); (case xl => k_is); (case xc => k_is); (case xk => k_is))
    case f__law_menu => (refine' K7.fnIn_mk ?xa ?xl ?xc ?xk; (case xa => k_is); (case xl => k_is); (case xc => k_is); (case xk => k_is))
    case f__law_signs => (refine' K7.fnIn_mk ?xa ?xl ?xc ?xk; (case xa => k_is); (case xl => k_is); (case xc => k_is); (case xk => k_is))
    case f__law_text => (refine' K7.fnIn_mk ?xa ?xl ?xc ?xk; (case xa => k_is); (case xl => k_is); (case xc => k_is); (case xk => k_is))
    case f__law_name => (refine' K7.fnIn_mk ?xa ?xl ?xc ?xk; (case xa => k_is); (case xl => k_is); (case xc => k_is); (case xk => k_is))
    case f__law_ends => (refine' K7.fnIn_mk ?xa ?xl ?xc ?xk; (case xa => k_is); (case xl => k_is); (case xc => k_is); (case xk => k_is))
    case f__law_part => (refine' K7.fnIn_mk ?xa ?xl ?xc ?xk; (case xa => k_is); (case xl => k_is); (case xc => k_is); (case xk => k_is))
    case f__law_parts => (refine' K7.fnIn_mk ?xa ?xl ?xc ?xk; (case xa => k_is); (case xl => k_is); (case xc => k_is); (case xk => k_is))
    case f__law_kind => (refine' K7.fnIn_mk ?xa ?xl ?xc ?xk; (case xa => k_is); (case xl => k_is); (case xc => k_is); (case xk => k_is))
    case f__law_odd => (refine' K7.fnIn_mk ?xa ?xl ?xc ?xk; (case xa => k_is); (case xl => k_is); (case xc => k_is); (case xk => k_is))
    case f__law_told => (refine' K7.fnIn_mk ?xa ?xl ?xc ?xk; (case xa => k_is); (case xl => k_is); (case xc => k_is); (case xk => k_is))
    case f__law_wrong => (refine' K7.fnIn_mk ?xa ?xl ?xc ?xk; (case xa => k_is); (case xl => k_is); (case xc => k_is); (case xk => k_is))
    case f_law => (refine' K7.fnIn_mk ?xa ?xl ?xc ?xk; (case xa => k_is); (case xl => k_is); (case xc => k_is); (case xk => k_is))
    case n_list => k_is
    case n_len => k_is
    case n_isinstance => k_is
    case n_all => k_is
    case n_str => k_is
    case n_tuple => k_is
    case n_range => k_is
    case n_int => k_is
    case n_ValueError => k_is
    case g_NAME_SIGNS => (refine' K7.cst_mk ?xe ?xf; (case xe => k_is); (case xf => exact ⟨_, rfl⟩))
    case g_LONGEST_NAME => (refine' K7.cst_mk ?xe ?xf; (case xe => k_is); (case xf => exact ⟨_, rfl⟩))
    case cl =>
      refine' K7.cls_mk ?y_c_MarkError ?y_c_BadText ?y_c_BadName ?y_c_BadTree ?y_c_OutOfPlace ?y_c_BadWidth ?y_c_Plain ?y_c_Code ?y_c_Strong ?y_c_Link ?y_c_Mark ?y_x_BadTree ?y_m_BadTree ?y_k_BadTree ?y_i_BadTree_BadText ?y_i_BadTree_BadName ?y_i_BadTree_BadTree ?y_i_BadTree_OutOfPlace ?y_i_BadTree_BadWidth ?y_v_BadTree ?y_p_Plain ?y_n_Plain_signs ?y_i_Plain_Plain ?y_p_Code ?y_n_Code_signs ?y_i_Code_Plain ?y_p_Strong ?y_n_Strong_parts ?y_i_Strong_Plain ?y_p_Link ?y_n_Link_words ?y_n_Link_name ?y_i_Link_Plain ?y_p_Mark ?y_n_Mark_name ?y_i_Mark_Plain
      case y_c_MarkError => k_is
      case y_c_BadText => k_is
      case y_c_BadName => k_is
      case y_c_BadTree => k_is
      case y_c_OutOfPlace => k_is
      case y_c_BadWidth => k_is
      case y_c_Plain => k_is
      case y_c_Code => k_is
      case y_c_Strong => k_is
      case y_c_Link => k_is
      case y_c_Mark => k_is
      case y_x_BadTree => (refine' K7.ownx_VE ?yq; (case yq => k_exc))
      case y_m_BadTree => kts_exm
      case y_k_BadTree => (refine' ⟨?y1, ?y2, ?y3, ?y4, ?y5, ?y6, ?y7⟩; (case y1 => k_is); (case y2 => k_is); (case y3 => k_is); (case y4 => k_is); (case y5 => k_is); (case y6 => k_is); (case y7 => k_is))
      case y_i_BadTree_BadText => kit_is
      case y_i_BadTree_BadName => kit_is
      case y_i_BadTree_BadTree => kit_is
      case y_i_BadTree_OutOfPlace => kit_is
      case y_i_BadTree_BadWidth => kit_is
      case y_v_BadTree => kit_is
      case y_p_Plain => (refine' ⟨?z1, ?z2, ?z3, ?z4, ?z5, ?z6, ?z7, ?z8, ?z9, ?z10, ?z11, ?z12⟩; (case z1 => k_is); (case z2 => k_is); (case z3 => k_is); (case z4 => k_is); (case z5 => k_is); (case z6 => k_is); (case z7 => k_is); (case z8 => k_is); (case z9 => k_is); (case z10 => k_is); (case z11 => (refine' K7.mIn_mk ?xa ?xi ?xl ?xc ?xk; (case xa => k_is); (case xi => k_is); (case xl => k_is); (case xc => k_is); (case xk => k_is))); (case z12 => (refine' K7.mIn_mk ?xa ?xi ?xl ?xc ?xk; (case xa => k_is); (case xi => k_is); (case xl => k_is); (case xc => k_is); (case xk => k_is))))
      case y_n_Plain_signs => k_is
      case y_i_Plain_Plain => kit_is
      case y_p_Code => (refine' ⟨?z1, ?z2, ?z3, ?z4, ?z5, ?z6, ?z7, ?z8, ?z9, ?z10, ?z11, ?z12⟩; (case z1 => k_is); (case z2 => k_is); (case z3 => k_is); (case z4 => k_is); (case z5 => k_is); (case z6 => k_is); (case z7 => k_is); (case z8 => k_is); (case z9 => k_is); (case z10 => k_is); (case z11 => (refine' K7.mIn_mk ?xa ?xi ?xl ?xc ?xk; (case xa => k_is); (case xi => k_is); (case xl => k_is); (case xc => k_is); (case xk => k_is))); (case z12 => (refine' K7.mIn_mk ?xa ?xi ?xl ?xc ?xk; (case xa => k_is); (case xi => k_is); (case xl => k_is); (case xc => k_is); (case xk => k_is))))
      case y_n_Code_signs => k_is
      case y_i_Code_Plain => kit_is
      case y_p_Strong => (refine' ⟨?z1, ?z2, ?z3, ?z4, ?z5, ?z6, ?z7, ?z8, ?z9, ?z10, ?z11, ?z12⟩; (case z1 => k_is); (case z2 => k_is); (case z3 => k_is); (case z4 => k_is); (case z5 => k_is); (case z6 => k_is); (case z7 => k_is); (case z8 => k_is); (case z9 => k_is); (case z10 => k_is); (case z11 => (refine' K7.mIn_mk ?xa ?xi ?xl ?xc ?xk; (case xa => k_is); (case xi => k_is); (case xl => k_is); (case xc => k_is); (case xk => k_is))); (case z12 => (refine' K7.mIn_mk ?xa ?xi ?xl ?xc ?xk; (case xa => k_is); (case xi => k_is); (case xl => k_is); (case xc => k_is); (case xk => k_is))))
      case y_n_Strong_parts => k_is
      case y_i_Strong_Plain => kit_is
      case y_p_Link => (refine' ⟨?z1, ?z2, ?z3, ?z4, ?z5, ?z6, ?z7, ?z8, ?z9, ?z10, ?z11, ?z12⟩; (case z1 => k_is); (case z2 => k_is); (case z3 => k_is); (case z4 => k_is); (case z5 => k_is); (case z6 => k_is); (case z7 => k_is); (case z8 => k_is); (case z9 => k_is); (case z10 => k_is); (case z11 => (refine' K7.mIn_mk ?xa ?xi ?xl ?xc ?xk; (case xa => k_is); (case xi => k_is); (case xl => k_is); (case xc => k_is); (case xk => k_is))); (case z12 => (refine' K7.mIn_mk ?xa ?xi ?xl ?xc ?xk; (case xa => k_is); (case xi => k_is); (case xl => k_is); (case xc => k_is); (case xk => k_is))))
      case y_n_Link_words => k_is
      case y_n_Link_name => k_is
      case y_i_Link_Plain => kit_is
      case y_p_Mark => (refine' ⟨?z1, ?z2, ?z3, ?z4, ?z5, ?z6, ?z7, ?z8, ?z9, ?z10, ?z11, ?z12⟩; (case z1 => k_is); (case z2 => k_is); (case z3 => k_is); (case z4 => k_is); (case z5 => k_is); (case z6 => k_is); (case z7 => k_is); (case z8 => k_is); (case z9 => k_is); (case z10 => k_is); (case z11 => (refine' K7.mIn_mk ?xa ?xi ?xl ?xc ?xk; (case xa => k_is); (case xi => k_is); (case xl => k_is); (case xc => k_is); (case xk => k_is))); (case z12 => (refine' K7.mIn_mk ?xa ?xi ?xl ?xc ?xk; (case xa => k_is); (case xi => k_is); (case xl => k_is); (case xc => k_is); (case xk => k_is))))
      case y_n_Mark_name => k_is
      case y_i_Mark_Plain => kit_is
  obtain ⟨fd, hb, hF⟩ := K7.all_law (P := PySem.Challenge.rw_lightmark_k07_parts_refused_or_made.row.prog) (w := w) KX T.g hmg t
  have hbits : ∀ n ∈ ns, PySem.Builtin.Int.intBits n ≤ 1048576 := fun n hn => PySem.intBits_le_of_item hn (by assumption)
  refine wpAny_call (codeAny_mono (L2.law_call KX T.g T.b T.builtins T.nolimit hg (Nat.lt_of_lt_of_le (by decide) htk) hobj hI (Lw.big (by omega)) ⟨rfl, by decide, by decide⟩ hF hb (fun H hO hS => ⟨a, ns, rfl, hS, fun H' s' => s'.seq hS, hbits, fun _ _ => rfl⟩) fun H e s' z => z) fun r s' q => ?_)
  obtain ⟨rfl, q⟩ := q
  exact L2.true_law (fun _ => rfl) (by with_unfolding_all rfl) q
#print axioms PySem.Challenge.cw_lightmark_k07_parts_refused_or_made_holds

