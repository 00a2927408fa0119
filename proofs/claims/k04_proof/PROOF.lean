import PyProof.Rows.All
import Wide.All
import OpenK.AllK
import Wide.FinOn
import Lean
import PyProof.EqAt
import PyProof.EqKinds
import PyProof.TupleCall
import KE.KTryMore
import PyProof.NsDelKeeps
import KE.KNest
import PyProof.StrLawsTight
import PyProof.StrBlockI
import PyProof.StrBlock2
import PyProof.StrCalls6
import PyProof.Rows.StrCase
import PyProof.Rows.StrFirst
import KE.IntBitsLaws
import PySem.Challenge.RW_lightmark_k04_parts_of_built_texts
import PyProof.StrLawsFrom
-- CHANGE: your row's module here, as the last of these rows
set_option Elab.async false
set_option linter.all false
set_option maxRecDepth 100000
/-! THE HAND LAYER, for ints, bools, texts, own classes, LISTS and tuples (index, slices, in, append, pop ..), calls, loops. Paste it whole ahead of your own text; what your proof does not reach may be deleted. -/
namespace L2
open PySem PySem.Spec PyProof.Rows

/-- a key: an int or a str -/
abbrev Key := Sum Int Str
def keyIs : Key → Value → Bool
  | .inl k, v => Value.isInt k v
  | .inr x, v => Value.isStrOf x v
def keyH (w : World) : Key → Int
  | .inl k => hashInt k
  | .inr x => hashStr w x
theorem keyIs_shape : ∀ {k : Key} {v : Value}, keyIs k v = true → (∃ i t, k = Sum.inl i ∧ v = Value.int i t) ∨ (∃ x t, k = Sum.inr x ∧ v = Value.str x t)
  | .inl i, v, h => by
    obtain ⟨t, e⟩ := Value.isInt_shape (k := i) (v := v) h
    exact .inl ⟨i, t, rfl, e⟩
  | .inr x, v, h => by
    obtain ⟨t, e⟩ := Value.isStrOf_shape (x := x) (v := v) h
    exact .inr ⟨x, t, rfl, e⟩
theorem key_ll (a b : Int) : decide ((Sum.inl a : Key) = Sum.inl b) = (a == b) := by
  by_cases e : a = b
  · subst e; simp
  · have h : ¬ (Sum.inl a : Key) = Sum.inl b := fun q => e (Sum.inl.inj q)
    rw [decide_eq_false h]
    exact (beq_eq_false_iff_ne.mpr e).symm
theorem key_rr (a b : Str) : decide ((Sum.inr a : Key) = Sum.inr b) = decide (a = b) := by
  by_cases e : a = b
  · subst e; simp
  · have h : ¬ (Sum.inr a : Key) = Sum.inr b := fun q => e (Sum.inr.inj q)
    rw [decide_eq_false h, decide_eq_false e]
theorem key_lr (a : Int) (b : Str) : decide ((Sum.inl a : Key) = Sum.inr b) = false := decide_eq_false (fun q => nomatch q)
theorem key_rl (a : Str) (b : Int) : decide ((Sum.inr a : Key) = Sum.inl b) = false := decide_eq_false (fun q => nomatch q)

def mixKind (prog : Program) (w : World) : PySem.KeyKind prog w Key where
  is := keyIs
  hash := keyH w
  inj := fun v a b ha hb => by
    rcases keyIs_shape ha with ⟨i, t, rfl, rfl⟩ | ⟨x, t, rfl, rfl⟩
    · rcases keyIs_shape hb with ⟨j, u, rfl, e⟩ | ⟨y, u, rfl, e⟩
      · injection e with e1 _; rw [e1]
      · exact nomatch e
    · rcases keyIs_shape hb with ⟨j, u, rfl, e⟩ | ⟨y, u, rfl, e⟩
      · exact nomatch e
      · injection e with e1 _; rw [e1]
  byValue := fun k v h => by
    rcases keyIs_shape h with ⟨i, t, rfl, rfl⟩ | ⟨x, t, rfl, rfl⟩ <;> rfl
  pyHash := fun hv h => by
    rcases keyIs_shape hv with ⟨i, t, rfl, rfl⟩ | ⟨x, t, rfl, rfl⟩
    · exact wpAny_pyHash_int h
    · exact wpAny_pyHash_str h
  eqBool := fun hu hv h => by
    rcases keyIs_shape hu with ⟨i, t, rfl, rfl⟩ | ⟨x, t, rfl, rfl⟩
    · rcases keyIs_shape hv with ⟨j, u, rfl, rfl⟩ | ⟨y, u, rfl, rfl⟩
      · rw [key_ll] at h; exact wpAny_eqBool_int h
      · rw [key_lr] at h; exact SeqAt.EqAt.int_str i t y u _ _ _ _ h
    · rcases keyIs_shape hv with ⟨j, u, rfl, rfl⟩ | ⟨y, u, rfl, rfl⟩
      · rw [key_rl] at h; exact SeqAt.EqAt.str_int x t j u _ _ _ _ h
      · rw [key_rr] at h; exact wpAny_eqBool_str h
  «strs» := fun k x t v h => by
    rcases keyIs_shape h with ⟨i, u, rfl, e⟩ | ⟨y, u, rfl, e⟩
    · exact nomatch e
    · injection e with e1 _
      subst e1
      cases v <;> rfl

end L2

namespace L2
open PySem PySem.Spec PyProof.Rows

/-- a value, without the heap -/
inductive V where
  | non | bl (b : Bool) | int (i : Int) | str (x : Str) | byt (b : Array UInt8) | flt (b : UInt64) | ref (a : Addr) | ty (n : String)
  deriving DecidableEq

def RelV : V → Value → Prop
  | .non, u => u = Value.none
  | .bl b, u => u = Value.bool b
  | .int i, u => ∃ t, u = Value.int i t
  | .str x, u => ∃ t, u = Value.str x t
  | .byt b, u => ∃ t, u = Value.bytes b t
  | .flt b, u => ∃ t, u = Value.float b t
  | .ref a, u => u = Value.ref a
  | .ty n, u => u = Value.type n

abbrev Vals : List V → List Value → Prop := Paired RelV
theorem Vals.length {xs : List V} {us : List Value} (r : Vals xs us) : xs.length = us.length := Paired.length r
theorem Vals.get : ∀ {xs : List V} {us : List Value} {i : Nat} {x : V}, Vals xs us → xs[i]? = some x → ∃ u, us[i]? = some u ∧ RelV x u
  | _, _, _, _, .nil, e => by simp at e
  | _, _, 0, _, .cons r _, e => by simp at e; subst e; exact ⟨_, rfl, r⟩
  | _, _, i + 1, x, .cons _ t, e => by
    obtain ⟨u, h1, h2⟩ := Vals.get (i := i) (x := x) t (by simpa using e)
    exact ⟨u, by simpa using h1, h2⟩
theorem Vals.append : ∀ {xs ys : List V} {us ws : List Value}, Vals xs us → Vals ys ws → Vals (xs ++ ys) (us ++ ws)
  | _, _, _, _, .nil, s => s
  | _, _, _, _, .cons r t, s => .cons r (Vals.append t s)
theorem Vals.take : ∀ {xs : List V} {us : List Value} (n : Nat), Vals xs us → Vals (xs.take n) (us.take n)
  | _, _, 0, _ => .nil
  | _, _, _ + 1, .nil => .nil
  | _, _, n + 1, .cons r t => .cons r (Vals.take n t)
theorem Vals.drop : ∀ {xs : List V} {us : List Value} (n : Nat), Vals xs us → Vals (xs.drop n) (us.drop n)
  | _, _, 0, r => r
  | _, _, _ + 1, .nil => .nil
  | _, _, n + 1, .cons _ t => Vals.drop n t

def RelO : Option V → Option Value → Prop
  | some v, some u => RelV v u
  | none, none => True
  | _, _ => False
def KV {κ : Type} : List (κ × V) → List (κ × Value) → Prop := Paired fun (p : κ × V) (q : κ × Value) => p.1 = q.1 ∧ RelV p.2 q.2

/-- a key of a dict (00_mix): an int or a text -/
def kV : Key → V
  | .inl i => .int i
  | .inr x => .str x

/-- what stands at a tracked address -/
inductive HO where
  /-- a list -/
  | lst (xs : List V)
  /-- a tuple (never changes) -/
  | tup (xs : List V)
  /-- a dict whose keys are ints and texts; one whose keys are tuples of ints and texts (the empty one is both) -/
  | dK (kvs : List (Key × V)) | dT (kvs : List (List Key × V))
  /-- a set of ints: its members, its size -/
  | set (S : Int → Bool) (n : Nat)
  /-- an instance of the class at C, its dict at dx, its attributes -/
  | ins (C dx : Addr) (fs : List (Str × V))
  /-- the dict of the instance at x -/
  | own (x : Addr)
  /-- the dict of an exception -/
  | xd (fs : List (Str × V))
  /-- a bound method, f of x -/
  | met (f x : Addr)
  /-- a range object lo, lo + 1, .. below hi -/
  | rng (lo hi : Int)
  /-- a thing that is known to the object (the script; a dict while a loop walks it): read, never written while it is so -/
  | frz (o : Obj) (u : HO)
  /-- a code object's table -/
  | tbl (ps : Array Value)
  /-- any other thing, by what is true of its one object (a def of one's own: SetO a S n := HO.ext fun h => ..) -/
  | ext (φ : Heap → Prop)

abbrev Hp := Addr → Option HO
def upd (H : Hp) (a : Addr) (o : HO) : Hp := fun b => if b = a then some o else H b
theorem upd_same {H : Hp} {a : Addr} {o : HO} : upd H a o a = some o := by unfold upd; rw [if_pos rfl]
theorem upd_ne {H : Hp} {a b : Addr} {o : HO} (h : b ≠ a) : upd H a o b = H b := by unfold upd; rw [if_neg h]
theorem ne_of_none {H : Hp} {a b : Addr} {o : HO} (h : H a = some o) (h' : H b = none) : a ≠ b := by
  intro e; subst e; rw [h] at h'; cases h'

section
variable (P : Program) (w : World)
def ObjOk (H : Hp) (h : Heap) (a : Addr) : HO → Prop
  | .lst xs => xs.length ≤ sizeLine ∧ ∃ (its : List Value) (n : Nat), Vals xs its ∧ h.get? a = some { cls := .type "list", data := .seq its.toArray n }
  | .tup xs => xs.length ≤ sizeLine ∧ ∃ its : List Value, Vals xs its ∧ IsTup h a its.toArray
  | .dK kvs => kvs.length ≤ sizeLine ∧ (a == sysModules) = false ∧ ∃ vs, KV kvs vs ∧ h.DictOf (mixKind P w) a vs
  | .dT kvs => kvs.length ≤ sizeLine ∧ (a == sysModules) = false ∧ ∃ xs : List (List Key × Addr × Value),
      Paired (fun (p : List Key × V) (q : List Key × Addr × Value) => p.1 = q.1 ∧ H q.2.1 = some (.tup (p.1.map kV)) ∧ RelV p.2 q.2.2) kvs xs ∧
      ∃ o es ep, h.get? a = some o ∧ o.ExactDict ∧ o.data = .dict es ep ∧ es.toList = xs.map (entryOfKey (tupleKind (mixKind P w))) ∧ (xs.map (·.1)).Nodup
  | .set S n => h.SetOf (intKind P w) a S n
  | .ins C dx fs => H dx = some (.own a) ∧ fs.length ≤ 1000 ∧ dx ≠ a ∧ h.get? a = some (PySem.W.instObj C dx) ∧
      ∃ mA, h.Ns1 dx mA ∧ (∀ f, RelO (fs.lookup f) (mA f)) ∧ PySem.Within mA (fs.map (·.1))
  | .own _ => ∃ o, h.get? a = some o
  | .xd fs => ∃ mA, h.Ns1 a mA ∧ ∀ f, RelO (fs.lookup f) (mA f)
  | .rng lo hi => ∃ t u v, h.get? a = some { cls := .type "range", data := .fields #[.int lo t, .int hi u, .int 1 v] }
  | .frz o u => h.get? a = some o ∧ ObjOk H h a u
  | .tbl ps => h.get? a = some { cls := .none, data := .fields ps }
  | .met f x => h.get? a = some (PySem.W.methodObj (.ref f) (.ref x))
  | .ext φ => φ h ∧ (∃ o, h.get? a = some o) ∧ ∀ h1 h2 : Heap, φ h1 → (∀ o, h1.get? a = some o → h2.get? a = some o) → φ h2
/-- the abstract heap is held -/
def HOk (H : Hp) (h : Heap) : Prop := ∀ a o, H a = some o → ObjOk P w H h a o
end

section
variable {P : Program} {w : World} {H H' : Hp} {h h' : Heap} {a : Addr} {o : HO}
theorem ObjOk.lt (x : ObjOk P w H h a o) : a < h.objs.size := by
  cases o with
  | lst xs => obtain ⟨_, _, _, _, e⟩ := x; exact Heap.lt_size e
  | tup xs => obtain ⟨_, _, _, p⟩ := x; exact p.lt
  | dK kvs => obtain ⟨_, _, _, _, o, _, _, e, _⟩ := x; exact Heap.lt_size e
  | dT kvs => obtain ⟨_, _, _, _, o, _, _, e, _⟩ := x; exact Heap.lt_size e
  | set S n => obtain ⟨o, _, _, _, e, _⟩ := x; exact Heap.lt_size e
  | ins C dx fs => obtain ⟨_, _, _, e, _⟩ := x; exact Heap.lt_size e
  | own y => obtain ⟨_, e⟩ := x; exact Heap.lt_size e
  | xd fs => obtain ⟨_, ⟨_, _, _, e, _⟩, _⟩ := x; exact Heap.lt_size e
  | rng lo hi => obtain ⟨_, _, _, e⟩ := x; exact Heap.lt_size e
  | frz ob u => obtain ⟨e, _⟩ := x; exact Heap.lt_size e
  | tbl ps => exact Heap.lt_size (show h.get? a = some _ from x)
  | met f y => exact Heap.lt_size (show h.get? a = some _ from x)
  | ext φ => obtain ⟨_, ⟨_, e⟩, _⟩ := x; exact Heap.lt_size e
theorem Paired.mapP {α β : Type} {F G : α → β → Prop} : ∀ {l₁ : List α} {l₂ : List β}, Paired F l₁ l₂ → (∀ a b, F a b → G a b) → Paired G l₁ l₂
  | _, _, .nil, _ => .nil
  | _, _, .cons r t, f => .cons (f _ _ r) (Paired.mapP t f)
/-- what an object's description leans on: its own object, its own dict, the tuples -/
theorem ObjOk.stay (x : ObjOk P w H h a o) (k : ∀ b u, (b = a ∨ H b = some (.own a)) → h.get? b = some u → h'.get? b = some u)
    (ho : ∀ b, H b = some (.own a) → H' b = some (.own a)) (ht : ∀ b xs, H b = some (.tup xs) → H' b = some (.tup xs)) : ObjOk P w H' h' a o := by
  induction o with
  | lst xs => obtain ⟨z, its, n, r, e⟩ := x; exact ⟨z, its, n, r, k _ _ (.inl rfl) e⟩
  | tup xs => obtain ⟨z, its, r, ob, e, c⟩ := x; exact ⟨z, its, r, ob, k _ _ (.inl rfl) e, c⟩
  | dK kvs => obtain ⟨z, y, vs, r, ob, es, ep, e, c⟩ := x; exact ⟨z, y, vs, r, ob, es, ep, k _ _ (.inl rfl) e, c⟩
  | dT kvs =>
    obtain ⟨z, y, xs, r, ob, es, ep, e, c⟩ := x
    exact ⟨z, y, xs, Paired.mapP r fun p q z => ⟨z.1, ht _ _ z.2.1, z.2.2⟩, ob, es, ep, k _ _ (.inl rfl) e, c⟩
  | set S n => obtain ⟨ob, es, ep, t, e, c⟩ := x; exact ⟨ob, es, ep, t, k _ _ (.inl rfl) e, c⟩
  | ins C dx fs =>
    obtain ⟨d, z, ne, e, mA, ⟨od, es, ep, e2, c⟩, r⟩ := x
    exact ⟨ho _ d, z, ne, k _ _ (.inl rfl) e, mA, ⟨od, es, ep, k _ _ (.inr d) e2, c⟩, r⟩
  | own y => obtain ⟨ob, e⟩ := x; exact ⟨ob, k _ _ (.inl rfl) e⟩
  | xd fs => obtain ⟨mA, ⟨od, es, ep, e, c⟩, r⟩ := x; exact ⟨mA, ⟨od, es, ep, k _ _ (.inl rfl) e, c⟩, r⟩
  | rng lo hi => obtain ⟨t, u, v, e⟩ := x; exact ⟨t, u, v, k _ _ (.inl rfl) e⟩
  | frz ob u ih => obtain ⟨e, q⟩ := x; exact ⟨k _ _ (.inl rfl) e, ih q⟩
  | tbl ps =>
    have e : h.get? a = some { cls := .none, data := .fields ps } := x
    show h'.get? a = some { cls := .none, data := .fields ps }
    exact k a _ (.inl rfl) e
  | met f y =>
    have e : h.get? a = some (PySem.W.methodObj (.ref f) (.ref y)) := x
    show h'.get? a = some (PySem.W.methodObj (.ref f) (.ref y))
    exact k a _ (.inl rfl) e
  | ext φ => obtain ⟨p, ⟨o, e⟩, st⟩ := x; exact ⟨st _ _ p fun o q => k _ _ (.inl rfl) q, ⟨o, k _ _ (.inl rfl) e⟩, st⟩
theorem HOk.lt (x : HOk P w H h) (e : H a = some o) : a < h.objs.size := (x a o e).lt
theorem HOk.fresh (x : HOk P w H h) (e : h.objs.size ≤ a) : H a = none := by
  cases q : H a with
  | none => rfl
  | some u => exact absurd (Nat.lt_of_lt_of_le (x.lt q) e) (Nat.lt_irrefl _)
/-- every object of the heap is kept -/
theorem HOk.kept (x : HOk P w H h) (k : ∀ b u, h.get? b = some u → h'.get? b = some u) : HOk P w H h' := fun a o e =>
  (x a o e).stay (fun b u _ q => k b u q) (fun _ q => q) fun _ _ q => q
/-- a new object is laid and tracked -/
theorem HOk.laid (x : HOk P w H h) (k : ∀ b u, h.get? b = some u → h'.get? b = some u) (hp : h.objs.size ≤ a) (new : ObjOk P w (upd H a o) h' a o) : HOk P w (upd H a o) h' := fun b u e => by
  have hn := x.fresh hp
  by_cases hb : b = a
  · subst hb; rw [upd_same] at e; cases e; exact new
  · rw [upd_ne hb] at e
    exact (x b u e).stay (fun c v _ q => k c v q) (fun c q => by rw [upd_ne (ne_of_none q hn)]; exact q) fun c xs q => by rw [upd_ne (ne_of_none q hn)]; exact q
end

/-- what may be read as u: it is u, or a known u -/
def Rd (H : Hp) (a : Addr) (u : HO) : Prop := H a = some u ∨ ∃ o, H a = some (.frz o u)
theorem Rd.ok {P : Program} {w : World} {H : Hp} {h : Heap} {a : Addr} {u : HO} (r : Rd H a u) (x : HOk P w H h) : ObjOk P w H h a u := by
  rcases r with r | ⟨o, r⟩
  · exact x a u r
  · obtain ⟨_, q⟩ := x a _ r
    exact q
/-- what may be written -/
def Mut : Option HO → Prop
  | some (.lst _) => True
  | some (.dK _) => True
  | some (.dT _) => True
  | some (.set _ _) => True
  | some (.ins _ _ _) => True
  | some (.ext _) => True
  | _ => False
section
variable {P : Program} {w : World} {H : Hp} {h h' : Heap} {x e : Addr} {o' : HO}
/-- the object at e is changed: x itself, or the dict of the instance x -/
theorem HOk.write (ok : HOk P w H h) (mu : Mut (H x)) (he : e = x ∨ H e = some (.own x)) (k : ∀ b u, b ≠ e → h.get? b = some u → h'.get? b = some u) (heo : ∃ u, h'.get? e = some u)
    (new : ObjOk P w (upd H x o') h' x o') : HOk P w (upd H x o') h' := fun b u q => by
  have nown : ∀ c y, H c = some (.own y) → c ≠ x := fun c y r z => by subst z; rw [r] at mu; exact mu
  have ntup : ∀ c xs, H c = some (.tup xs) → c ≠ x := fun c xs r z => by subst z; rw [r] at mu; exact mu
  by_cases hb : b = x
  · subst hb; rw [upd_same] at q; cases q; exact new
  · rw [upd_ne hb] at q
    by_cases hbe : b = e
    · have q' : H b = some (.own x) := by
        rcases he with z | z
        · exact absurd (hbe.trans z) hb
        · rw [hbe]; exact z
      rw [q] at q'; cases q'
      obtain ⟨v, hv⟩ := heo
      exact ⟨v, by rw [hbe]; exact hv⟩
    · refine (ok b u q).stay (fun c v hc r => k c v ?_ r) (fun c r => by rw [upd_ne (nown c b r)]; exact r) fun c xs r => by rw [upd_ne (ntup c xs r)]; exact r
      rcases hc with rfl | hc
      · exact hbe
      · rintro rfl
        rcases he with z | z
        · exact nown c b hc z
        · rw [hc] at z; cases z; exact hb rfl
end

/-! ### kept unless tracked; of the frames at fs (the callers') the slots may change (an exception that passes writes there); of the records at ex (iterators) nothing is said -/
structure Un (fs ex : List Addr) (H H' : Hp) (h h' : Heap) : Prop where
  keep : ∀ b o, h.get? b = some o → H b = none → b ∉ fs → b ∉ ex → h'.get? b = some o
  slot : ∀ b o, h.get? b = some o → H b = none → b ∈ fs → b ∉ ex → ∃ sl, h'.get? b = some { o with slots := sl }
  free : ∀ b o, h.get? b = some o → H b = none → b ∉ ex → H' b = none
  there : ∀ b o, h.get? b = some o → b ∉ ex → ∃ o', h'.get? b = some o'
  tups : ∀ b xs, H b = some (.tup xs) → H' b = some (.tup xs)
  frzs : ∀ b o u, H b = some (.frz o u) → H' b = some (.frz o u)
  tbls : ∀ b ps, H b = some (.tbl ps) → ∃ more, H' b = some (.tbl (ps ++ more))
section
variable {fs fs' ex ex' : List Addr} {H H1 H2 : Hp} {h h1 h2 h' : Heap} {a x e : Addr} {o : HO}
theorem Un.any (u : Un fs ex H H1 h h1) {b : Addr} {ob : Obj} (q : h.get? b = some ob) (n : H b = none) (hx : b ∉ ex) : ∃ sl, h1.get? b = some { ob with slots := sl } := by
  by_cases hb : b ∈ fs
  · exact u.slot b ob q n hb hx
  · exact ⟨ob.slots, u.keep b ob q n hb hx⟩
theorem Un.kept (k : ∀ b u, h.get? b = some u → h'.get? b = some u) : Un fs ex H H h h' :=
  ⟨fun b ob q _ _ _ => k b ob q, fun b ob q _ _ _ => ⟨ob.slots, k b ob q⟩, fun _ _ _ n _ => n, fun b ob q _ => ⟨ob, k b ob q⟩, fun _ _ q => q, fun _ _ _ q => q, fun _ ps q => ⟨#[], by rw [q]; simp⟩⟩
theorem Un.refl : Un fs ex H H h h := Un.kept fun _ _ q => q
theorem Un.laid (k : ∀ b u, h.get? b = some u → h'.get? b = some u) (hp : h.objs.size ≤ a) (hn : H a = none) : Un fs ex H (upd H a o) h h' where
  keep := fun b u q _ _ _ => k b u q
  slot := fun b u q _ _ _ => ⟨u.slots, k b u q⟩
  free := fun b u q n _ => by rw [upd_ne (Nat.ne_of_lt (Nat.lt_of_lt_of_le (Heap.lt_size q) hp))]; exact n
  there := fun b u q _ => ⟨u, k b u q⟩
  tups := fun b xs q => by rw [upd_ne (ne_of_none q hn)]; exact q
  frzs := fun b u xs q => by rw [upd_ne (ne_of_none q hn)]; exact q
  tbls := fun b ps q => ⟨#[], by rw [upd_ne (ne_of_none q hn), q]; simp⟩
theorem Un.write (mu : Mut (H x)) (he : e = x ∨ H e = some (.own x)) (k : ∀ b u, b ≠ e → h.get? b = some u → h'.get? b = some u) (heo : ∃ u, h'.get? e = some u) : Un fs ex H (upd H x o) h h' := by
  have hx : ∀ b, H b = none → b ≠ x := fun b n z => by subst z; rw [n] at mu; exact mu
  have hb : ∀ b, H b = none → b ≠ e := fun b n z => by
    subst z
    rcases he with r | r
    · exact hx b n r
    · rw [n] at r; cases r
  have hm : ∀ b u, H b = some u → ¬ Mut (some u) → b ≠ x := fun b u q nm z => by subst z; rw [q] at mu; exact nm mu
  refine ⟨fun b u q n _ _ => k b u (hb b n) q, fun b u q n _ _ => ⟨u.slots, k b u (hb b n) q⟩, fun b u q n _ => by rw [upd_ne (hx b n)]; exact n, fun b u q _ => ?_,
    fun b xs q => by rw [upd_ne (hm b _ q fun z => z)]; exact q, fun b u xs q => by rw [upd_ne (hm b _ q fun z => z)]; exact q, fun b ps q => ⟨#[], by rw [upd_ne (hm b _ q fun z => z), q]; simp⟩⟩
  by_cases hbe : b = e
  · subst hbe; exact heo
  · exact ⟨u, k b u hbe q⟩
end

/-! ### the heap without what is tracked -/
def trk (h : Heap) (H : Hp) : List Addr := (List.range h.objs.size).filter fun a => (H a).isSome
def hidT (h : Heap) (H : Hp) : Heap := PySem.W.hideAll h (trk h H)
theorem hidT_size (h : Heap) (H : Hp) : (hidT h H).objs.size = h.objs.size := PySem.W.hideAll_size _ _
theorem hidT_get {h : Heap} {H : Hp} {b : Addr} {o : Obj} (e : h.get? b = some o) (n : H b = none) : (hidT h H).get? b = some o :=
  PySem.W.hideAll_get _ e fun hm => by
    have q : (H b).isSome = true := (List.mem_filter.mp hm).2
    rw [n] at q; simp at q
theorem of_hidT {h : Heap} {H : Hp} {b : Addr} {o : Obj} (e : (hidT h H).get? b = some o) : h.get? b = some o ∧ H b = none := by
  have e' : h.get? b = some o := PySem.W.of_hideAll (trk h H) e
  refine ⟨e', ?_⟩
  cases q : H b with
  | none => rfl
  | some x =>
    have hm : b ∈ trk h H := List.mem_filter.mpr ⟨List.mem_range.mpr (Heap.lt_size e'), by simp [q]⟩
    have z : (hidT h H).get? b = none := PySem.W.hideAll_none (trk h H) hm
    rw [z] at e; cases e

/-! ### OpenK's ledger, filled with every new object but one -/
end L2

namespace L2
open PySem PySem.Spec PyProof.Rows

/-- the module's facts, over the base: the heap at the law's entry without what is tracked there -/
structure Mod (K : PySem.W.Frag) (mg : Str → Option Value) (base : Heap) : Prop where
  kin : K.In base
  glob : base.Ns mainGlobals mg
  blt : ∃ mb, base.Ns builtinsNs mb ∧ ∀ x : Str, x ≠ "__name__" → mb x = bootBuiltins x
  nolimit : base.NoLimit

/-- the context: a def's body (or a comprehension's block) running. base: fixed through the whole law; s₀, H₀: the entry; outer: the frames whose slots others may change (a def's callers); stack: all frames that run;
   ex: iterators that were made ahead of the entry and are walked here (a comprehension's); fn: the names whose cells were made at the entry (a def: all; a comprehension's block: its own); calm: not within an except suite; pn: pins that every state bears; xe: what is wanted of an exception that leaves the code -/
structure Cx where
  prog : Program
  w : World
  K : PySem.W.Frag
  mg : Str → Option Value
  base : Heap
  A : Around
  N : List Str
  s₀ : Shared
  H₀ : Hp
  env : Env
  outer : List Env
  stack : List Env
  ex : List Addr
  fn : Str → Bool
  calm : Bool
  pn : List (Addr × Obj)
  xe : Value → Shared → Prop
/-- the callers' frames -/
def frs (l : List Env) : List Addr := l.filterMap (·.frame)
abbrev Cx.fs (X : Cx) : List Addr := frs X.outer

def Vis (sc : Scope) (x : Str) : Prop := sc.names.lookup x = some .local ∨ sc.names.lookup x = some .cell ∨ sc.names.lookup x = some .free
def Loc (sc : Scope) (x : Str) : Prop := sc.names.lookup x = some .local ∨ sc.names.lookup x = some .cell
def Look (env : Env) (h : Heap) (m : Str → Option Value) (x : Str) (u : Value) : Prop :=
  (env.kindOf x = some .local ∧ m x = some u) ∨ ((env.kindOf x = some .cell ∨ env.kindOf x = some .free) ∧ ∃ c, env.cells.lookup x = some c ∧ h.IsCell c (some u))

structure Cx.Ok (X : Cx) : Prop where
  mod : Mod X.K X.mg X.base
  kind : X.env.scope.kind = .function
  glob : X.env.globals = mainGlobals
  blt : X.env.builtins = builtinsNs
  above : X.s₀.heap.objs.size ≤ X.env.locals
  inj : ∀ x y c, X.env.cells.lookup x = some c → X.env.cells.lookup y = some c → x = y
  has : ∀ x, (X.env.kindOf x = some .cell ∨ X.env.kindOf x = some .free) → ∃ c, X.env.cells.lookup x = some c
  cab : ∀ x c, X.fn x = true → X.env.cells.lookup x = some c → X.s₀.heap.objs.size ≤ c
  hd : X.calm = true → X.A.handled = none
  frames : X.A.frames = some X.stack
  stk : X.stack = X.outer ∨ (X.stack = X.env :: X.outer ∧ X.env.frame = some X.env.locals)
  exf : ∀ b ∈ X.ex, b ≠ X.env.locals ∧ ∀ x c, X.env.cells.lookup x = some c → c ≠ b
  bs : ∀ b o, X.base.get? b = some o → X.s₀.heap.get? b = some o ∧ X.H₀ b = none
  bsz : X.base.objs.size ≤ X.s₀.heap.objs.size
  noex : ∀ b o, X.base.get? b = some o → b ∉ X.ex
  exfs : ∀ b ∈ X.ex, b ∉ X.fs
  funs : X.s₀.heap.FunFrames X.base X.outer
  frf : ∀ b ∈ X.fs, X.H₀ b = none

structure Inv (X : Cx) (pins : List (Addr × Obj)) (σ : List (Option V)) (H : Hp) (s : Shared) : Prop where
  ok : X.Ok
  os : s.os = X.s₀.os
  bare : AllBare s.gens
  base : Un X.fs X.ex X.H₀ H X.s₀.heap s.heap
  loc : ∃ m, s.heap.Ns X.env.locals m ∧ ∀ (i : Nat) (x : Str) (v : V), X.N[i]? = some x → σ[i]? = some (some v) → Vis X.env.scope x → ∃ u, RelV v u ∧ Look X.env s.heap m x u
  cell : ∀ x c, X.env.cells.lookup x = some c → ∃ v, s.heap.IsCell c v
  free : H X.env.locals = none
  freeC : ∀ x c, X.env.cells.lookup x = some c → H c = none
  pin : ∀ p ∈ X.pn ++ pins, s.heap.get? p.1 = some p.2 ∧ H p.1 = none ∧ p.1 ≠ X.env.locals ∧ p.1 ∉ X.fs ∧ ∀ v, p.2.data ≠ .cell v
  hok : HOk X.prog X.w H s.heap
  len : σ.length = X.N.length
  tk : 0 < s.toks

section
variable {X : Cx} {pins : List (Addr × Obj)} {σ : List (Option V)} {H H' : Hp} {s : Shared} {h' : Heap}

theorem Cx.Ok.nofr (ok : X.Ok) {b : Addr} {o : Obj} (e : X.base.get? b = some o) : b ∉ X.fs := fun hb => by
  have := (ok.funs.mem hb).1
  rw [e] at this; cases this
theorem Inv.bs (I : Inv X pins σ H s) : ∀ b o, X.base.get? b = some o → s.heap.get? b = some o ∧ H b = none := fun b o e =>
  ⟨I.base.keep b o (I.ok.bs b o e).1 (I.ok.bs b o e).2 (I.ok.nofr e) (I.ok.noex b o e), I.base.free b o (I.ok.bs b o e).1 (I.ok.bs b o e).2 (I.ok.noex b o e)⟩
theorem Inv.bk (I : Inv X pins σ H s) : ∀ b o, X.base.get? b = some o → s.heap.get? b = some o := fun b o e => (I.bs b o e).1
theorem Inv.mod (I : Inv X pins σ H s) : Mod X.K X.mg X.base := I.ok.mod
theorem Inv.kIn (I : Inv X pins σ H s) : X.K.In s.heap := I.ok.mod.kin.keeps I.bk
theorem Inv.lt (I : Inv X pins σ H s) : X.env.locals < s.heap.objs.size := let ⟨_, hn, _⟩ := I.loc; hn.lt
theorem Inv.sz (I : Inv X pins σ H s) : X.s₀.heap.objs.size ≤ s.heap.objs.size := Nat.le_trans I.ok.above (Nat.le_of_lt I.lt)
theorem Inv.nofs (I : Inv X pins σ H s) {a : Addr} (h : s.heap.objs.size ≤ a) : a ∉ X.fs := fun hb => by
  obtain ⟨_, o, ho, _⟩ := I.ok.funs.mem hb
  exact absurd (Nat.lt_of_lt_of_le (Heap.lt_size ho) (Nat.le_trans I.sz h)) (Nat.lt_irrefl _)
theorem Inv.cne (I : Inv X pins σ H s) : ∀ x c, X.env.cells.lookup x = some c → c ≠ X.env.locals := fun x c e z => by
  obtain ⟨v, o, ho, hd⟩ := I.cell x c e
  obtain ⟨m, ⟨o', es, ep, ho', hd', _⟩, _⟩ := I.loc
  rw [z, ho'] at ho; cases ho; rw [hd'] at hd; cases hd
theorem Inv.funs (I : Inv X pins σ H s) : s.heap.FunFrames X.base X.outer := by
  have all : ∀ (l : List Env), (∀ b ∈ frs l, b ∈ X.fs) → X.s₀.heap.FunFrames X.base l → s.heap.FunFrames X.base l := by
    intro l
    induction l with
    | nil => intro _ _; trivial
    | cons env r ih =>
      intro hs hl
      obtain ⟨hk, ⟨L, o, hf, hn, ho, hd⟩, hr⟩ := hl
      have hL : L ∈ X.fs := hs L (by unfold frs; rw [List.filterMap_cons, hf]; exact List.mem_cons_self)
      obtain ⟨sl, e⟩ := I.base.slot L o ho (I.ok.frf L hL) hL fun z => I.ok.exfs L z hL
      exact ⟨hk, ⟨L, _, hf, hn, e, hd⟩, ih (fun b hb => hs b (by unfold frs; rw [List.filterMap_cons, hf]; exact List.mem_cons_of_mem _ hb)) hr⟩
  exact all X.outer (fun _ hb => hb) I.ok.funs

/-- the frames that run, for a call -/
theorem Inv.stack (I : Inv X pins σ H s) : s.heap.FunFrames X.base X.stack := by
  rcases I.ok.stk with e | ⟨e, hf⟩
  · rw [e]; exact I.funs
  · rw [e]
    obtain ⟨m, hn, _⟩ := I.loc
    refine .cons (by rw [I.ok.kind]; decide) hf hn ?_ I.funs
    exact Heap.get?_none_of_le (Nat.le_trans I.ok.bsz I.ok.above)
theorem Inv.stkSub (I : Inv X pins σ H s) : ∀ b ∈ frs X.stack, b ∈ X.env.locals :: X.fs := fun b hb => by
  rcases I.ok.stk with e | ⟨e, hf⟩
  · rw [e] at hb; exact List.mem_cons_of_mem _ hb
  · rw [e] at hb
    unfold frs at hb
    rw [List.filterMap_cons, hf] at hb
    exact hb
theorem Inv.stkFree (I : Inv X pins σ H s) : ∀ b ∈ frs X.stack, H b = none := fun b hb => by
  rcases List.mem_cons.mp (I.stkSub b hb) with e | hb
  · rw [e]; exact I.free
  · obtain ⟨_, o, ho, _⟩ := I.ok.funs.mem hb
    exact I.base.free b o ho (I.ok.frf b hb) fun z => I.ok.exfs b z hb

/-- THE STEP: the untracked objects but the frame and the records at ch are kept (the callers' frames up to slots), the frame's map is kept, the new abstract heap is held -/
theorem Inv.step {g' : Array GenState} {t' : Nat} {d' : Drawn} {ch : List Addr} (I : Inv X pins σ H s)
    (hch : ∀ b ∈ ch, (b ∈ X.ex ∨ X.s₀.heap.objs.size ≤ b) ∧ b ≠ X.env.locals ∧ (∀ x c, X.env.cells.lookup x = some c → c ≠ b) ∧ ∀ p ∈ X.pn ++ pins, p.1 ≠ b)
    (keep : ∀ b o, b ≠ X.env.locals → b ∉ X.fs → b ∉ ch → s.heap.get? b = some o → H b = none → h'.get? b = some o)
    (slot : ∀ b o, b ≠ X.env.locals → b ∈ X.fs → b ∉ ch → s.heap.get? b = some o → H b = none → ∃ sl, h'.get? b = some { o with slots := sl }) (free : ∀ b o, b ∉ ch → s.heap.get? b = some o → H b = none → H' b = none)
    (there : ∀ b o, b ∉ ch → s.heap.get? b = some o → ∃ o', h'.get? b = some o')
    (tups : ∀ b xs, H b = some (.tup xs) → H' b = some (.tup xs)) (frzs : ∀ b o u, H b = some (.frz o u) → H' b = some (.frz o u)) (tbls : ∀ b ps, H b = some (.tbl ps) → ∃ more, H' b = some (.tbl (ps ++ more)))
    (ns : ∀ m, s.heap.Ns X.env.locals m → h'.Ns X.env.locals m) (hok : HOk X.prog X.w H' h') (hg : AllBare g') (ht : 0 < t' := by first | assumption | exact Nat.succ_pos _ | (apply Inv.tk; assumption)) :
    Inv X pins σ H' { s with heap := h', gens := g', drawn := d', toks := t' } := by
  have neL : ∀ b o, X.s₀.heap.get? b = some o → b ≠ X.env.locals := fun b o e => Nat.ne_of_lt (Nat.lt_of_lt_of_le (Heap.lt_size e) I.ok.above)
  have neC : ∀ b o, X.s₀.heap.get? b = some o → b ∉ X.ex → b ∉ ch := fun b o e hx hb => by
    rcases (hch b hb).1 with z | z
    · exact hx z
    · exact absurd (Nat.lt_of_lt_of_le (Heap.lt_size e) z) (Nat.lt_irrefl _)
  have cellK : ∀ x c, X.env.cells.lookup x = some c → ∀ v, s.heap.IsCell c v → h'.IsCell c v := fun x c e v ⟨o, ho, hd⟩ => by
    have nch : c ∉ ch := fun z => (hch c z).2.2.1 x c e rfl
    by_cases hc : c ∈ X.fs
    · obtain ⟨sl, q⟩ := slot c o (I.cne x c e) hc nch ho (I.freeC x c e)
      exact ⟨_, q, hd⟩
    · exact ⟨o, keep c o (I.cne x c e) hc nch ho (I.freeC x c e), hd⟩
  refine ⟨I.ok, I.os, hg, ⟨fun b o e n hb hx => ?_, fun b o e n hb hx => ?_, fun b o e n hx => ?_, fun b o e hx => ?_, fun b xs e => tups b xs (I.base.tups b xs e), fun b o xs e => frzs b o xs (I.base.frzs b o xs e), fun b ps e => ?_⟩, ?_, fun x c e => ?_, ?_, fun x c e => ?_, fun p hp => ?_, hok, I.len, ht⟩
  · exact keep b o (neL b o e) hb (neC b o e hx) (I.base.keep b o e n hb hx) (I.base.free b o e n hx)
  · obtain ⟨sl, e1⟩ := I.base.slot b o e n hb hx
    obtain ⟨sl', e2⟩ := slot b _ (neL b o e) hb (neC b o e hx) e1 (I.base.free b o e n hx)
    exact ⟨sl', e2⟩
  · obtain ⟨o', e1⟩ := I.base.there b o e hx
    exact free b o' (neC b o e hx) e1 (I.base.free b o e n hx)
  · obtain ⟨o', e1⟩ := I.base.there b o e hx
    exact there b o' (neC b o e hx) e1
  · obtain ⟨m1, e1⟩ := I.base.tbls b ps e
    obtain ⟨m2, e2⟩ := tbls b _ e1
    exact ⟨m1 ++ m2, by rw [e2, Array.append_assoc]⟩
  · obtain ⟨m, hn, hl⟩ := I.loc
    refine ⟨m, ns m hn, fun i x v e1 e2 e3 => ?_⟩
    obtain ⟨u, r, l⟩ := hl i x v e1 e2 e3
    refine ⟨u, r, ?_⟩
    rcases l with l | ⟨k, c, e, z⟩
    · exact .inl l
    · exact .inr ⟨k, c, e, cellK x c e _ z⟩
  · obtain ⟨v, z⟩ := I.cell x c e
    exact ⟨v, cellK x c e v z⟩
  · obtain ⟨m, ⟨o, _, _, ho, _⟩, _⟩ := I.loc
    exact free _ o (fun z => (hch _ z).2.1 rfl) ho I.free
  · obtain ⟨v, o, ho, hd⟩ := I.cell x c e
    exact free c o (fun z => (hch c z).2.2.1 x c e rfl) ho (I.freeC x c e)
  · obtain ⟨e, n, ne, nf, d⟩ := I.pin p hp
    have nch : p.1 ∉ ch := fun z => (hch p.1 z).2.2.2 p hp rfl
    exact ⟨keep p.1 p.2 ne nf nch e n, free p.1 p.2 nch e n, ne, nf, d⟩
/-- .. where the frame's own object is kept too -/
theorem Inv.un {t' : Nat} (I : Inv X pins σ H s) (u : Un X.fs [] H H' s.heap h') (hok : HOk X.prog X.w H' h') (ht : 0 < t' := by first | assumption | exact Nat.succ_pos _ | (apply Inv.tk; assumption)) : Inv X pins σ H' { s with heap := h', toks := t' } := by
  obtain ⟨m, ⟨o, es, ep, ho, r⟩, _⟩ := id I.loc
  obtain ⟨sl, hL⟩ := u.any ho I.free (by simp)
  exact I.step (g' := s.gens) (d' := s.drawn) (ch := []) (fun _ z => nomatch z) (fun b o _ hb _ e n => u.keep b o e n hb (by simp)) (fun b o _ hb _ e n => u.slot b o e n hb (by simp)) (fun b o _ e n => u.free b o e n (by simp)) (fun b o _ e => u.there b o e (by simp)) u.tups u.frzs u.tbls (fun m' hm => by
    obtain ⟨o', es', ep', ho', r'⟩ := hm
    rw [ho] at ho'; cases ho'
    exact ⟨_, es', ep', hL, r'⟩) hok I.bare
/-- behind a call (or a comprehension's block): the slots of this frame may have changed too, the records at ch may have turned -/
theorem Inv.call {g' : Array GenState} {t' : Nat} {d' : Drawn} {ch : List Addr} (I : Inv X pins σ H s) (u : Un (frs X.stack) ch H H' s.heap h') (hok : HOk X.prog X.w H' h') (hg : AllBare g')
    (hch : ∀ b ∈ ch, (b ∈ X.ex ∨ X.s₀.heap.objs.size ≤ b) ∧ b ≠ X.env.locals ∧ (∀ x c, X.env.cells.lookup x = some c → c ≠ b) ∧ ∀ p ∈ X.pn ++ pins, p.1 ≠ b) (ht : 0 < t' := by first | assumption | exact Nat.succ_pos _ | (apply Inv.tk; assumption)) :
    Inv X pins σ H' { s with heap := h', gens := g', drawn := d', toks := t' } := by
  obtain ⟨m, ⟨o, es, ep, ho, r⟩, _⟩ := id I.loc
  obtain ⟨sl, hL⟩ := u.any ho I.free fun z => (hch _ z).2.1 rfl
  exact I.step (ch := ch) hch (fun b o hL hb hc e n => u.keep b o e n (fun z => (List.mem_cons.mp (I.stkSub b z)).elim hL hb) hc) (fun b o _ _ hc e n => u.any e n hc) (fun b o hc e n => u.free b o e n hc) (fun b o hc e => u.there b o e hc) u.tups u.frzs u.tbls (fun m' hm => by
    obtain ⟨o', es', ep', ho', r'⟩ := hm
    rw [ho] at ho'; cases ho'
    exact ⟨_, es', ep', hL, r'⟩) hok hg
/-- an untracked record of ours (an iterator) has turned -/
theorem Inv.turned {t' : Nat} {it : Addr} (I : Inv X pins σ H s) (k : ∀ b o, b ≠ it → s.heap.get? b = some o → h'.get? b = some o) (hn : H it = none) (hL : it ≠ X.env.locals)
    (h1 : it ∈ X.ex ∨ X.s₀.heap.objs.size ≤ it) (h2 : ∀ x c, X.env.cells.lookup x = some c → c ≠ it) (h3 : ∀ p ∈ X.pn ++ pins, p.1 ≠ it) (ht : 0 < t' := by first | assumption | exact Nat.succ_pos _ | (apply Inv.tk; assumption)) : Inv X pins σ H { s with heap := h', toks := t' } := by
  have nit : ∀ b u, H b = some u → b ≠ it := fun b u e z => by rw [z, hn] at e; cases e
  refine I.step (g' := s.gens) (d' := s.drawn) (ch := [it]) (fun b hb => ?_) (fun b o _ _ hc e _ => k b o (fun z => hc (by simp [z])) e) (fun b o _ _ hc e _ => ⟨o.slots, k b o (fun z => hc (by simp [z])) e⟩) (fun _ _ _ _ n => n)
    (fun b o hc e => ⟨o, k b o (fun z => hc (by simp [z])) e⟩) (fun _ _ e => e) (fun _ _ _ e => e) (fun b ps e => ⟨#[], by rw [e]; simp⟩) (fun m hm => ?_) (fun b u e => ?_) I.bare
  · have e : b = it := by simpa using hb
    subst e
    exact ⟨h1, hL, h2, h3⟩
  · obtain ⟨o, es, ep, ho, r⟩ := hm
    exact ⟨o, es, ep, k _ o (Ne.symm hL) ho, r⟩
  · refine (I.hok b u e).stay (fun c v hc q => k c v ?_ q) (fun _ q => q) fun _ _ q => q
    rcases hc with z | z
    · rw [z]; exact nit b u e
    · exact nit c _ z
theorem Inv.tok (I : Inv X pins σ H s) (t : Nat) (ht : 0 < t := by first | assumption | exact Nat.succ_pos _ | (apply Inv.tk; assumption)) : Inv X pins σ H { s with toks := t } := I.un (h' := s.heap) (t' := t) Un.refl I.hok
/-- all objects kept -/
theorem Inv.kept {t' : Nat} (I : Inv X pins σ H s) (k : ∀ b u, s.heap.get? b = some u → h'.get? b = some u) (ht : 0 < t' := by first | assumption | exact Nat.succ_pos _ | (apply Inv.tk; assumption)) : Inv X pins σ H { s with heap := h', toks := t' } := I.un (Un.kept k) (I.hok.kept k)
/-- a new object laid and tracked -/
theorem Inv.laid {a : Addr} {o : HO} {t' : Nat} (I : Inv X pins σ H s) (k : ∀ b u, s.heap.get? b = some u → h'.get? b = some u) (hp : s.heap.objs.size ≤ a) (new : ObjOk X.prog X.w (upd H a o) h' a o) (ht : 0 < t' := by first | assumption | exact Nat.succ_pos _ | (apply Inv.tk; assumption)) :
    Inv X pins σ (upd H a o) { s with heap := h', toks := t' } := I.un (Un.laid k hp (I.hok.fresh hp)) (I.hok.laid k hp new)
/-- an object written -/
theorem Inv.write {x e : Addr} {o : HO} {t' : Nat} (I : Inv X pins σ H s) (mu : Mut (H x)) (he : e = x ∨ H e = some (.own x)) (k : ∀ b u, b ≠ e → s.heap.get? b = some u → h'.get? b = some u) (heo : ∃ u, h'.get? e = some u)
    (new : ObjOk X.prog X.w (upd H x o) h' x o) (ht : 0 < t' := by first | assumption | exact Nat.succ_pos _ | (apply Inv.tk; assumption)) : Inv X pins σ (upd H x o) { s with heap := h', toks := t' } := I.un (Un.write mu he k heo) (I.hok.write mu he k heo new)
/-- forgetting slots, pins -/
theorem Inv.weak {σ' : List (Option V)} (I : Inv X pins σ H s) (hl : σ'.length = σ.length) (w : ∀ (i : Nat) v, σ'[i]? = some (some v) → σ[i]? = some (some v)) : Inv X pins σ' H s :=
  ⟨I.ok, I.os, I.bare, I.base, let ⟨m, hn, hl'⟩ := I.loc; ⟨m, hn, fun i x v e1 e2 e3 => hl' i x v e1 (w i v e2) e3⟩, I.cell, I.free, I.freeC, I.pin, I.hok, hl.trans I.len, I.tk⟩
theorem Inv.pins_of {pins' : List (Addr × Obj)} (I : Inv X pins σ H s) (h : ∀ p ∈ pins', s.heap.get? p.1 = some p.2 ∧ H p.1 = none ∧ p.1 ≠ X.env.locals ∧ p.1 ∉ X.fs ∧ ∀ v, p.2.data ≠ .cell v) : Inv X pins' σ H s :=
  ⟨I.ok, I.os, I.bare, I.base, I.loc, I.cell, I.free, I.freeC, fun p hp => (List.mem_append.mp hp).elim (fun z => I.pin p (List.mem_append_left _ z)) (h p), I.hok, I.len, I.tk⟩

theorem nodup_ix {N : List Str} (hN : N.Nodup) {i j : Nat} {x : Str} (a : N[i]? = some x) (b : N[j]? = some x) : i = j := by
  obtain ⟨h1, e1⟩ := List.getElem?_eq_some_iff.mp a
  obtain ⟨h2, e2⟩ := List.getElem?_eq_some_iff.mp b
  exact (List.getElem_inj hN).mp (e1.trans e2.symm)

/-- a name is stored; what changed -/
theorem store_ok2 {M : Model} {A : Around} {E : Value → Shared → Prop} {i : Nat} {x : Str} {v : V} {u : Value} {Q : Unit → Shared → Prop} (I : Inv X pins σ H s) (hN : X.N.Nodup) (hi : X.N[i]? = some x) (hx : Loc X.env.scope x) (r : RelV v u)
    (h : ∀ s', Inv X pins (σ.set i (some v)) H s' → (∃ a, Heap.SameBut a s.heap s'.heap ∧ (a = X.env.locals ∨ X.env.cells.lookup x = some a)) → Q () s') (hf : X.fn x = true ∨ X.env.scope.names.lookup x = some .local := by first | exact .inl rfl | exact .inr rfl | assumption) : wpAny M A (storeName X.env x u) Q E s := by
  obtain ⟨m, hn, hl⟩ := id I.loc
  have hcls : (X.env.scope.kind == .class || (X.env.scope.kind == .module && X.env.locals != X.env.globals)) = false := by rw [I.ok.kind]; rfl
  have hiσ : i < σ.length := by rw [I.len]; exact (List.getElem?_eq_some_iff.mp hi).1
  have cne := I.cne
  have tracked : ∀ {a : Addr} {h' : Heap}, (∃ o, s.heap.get? a = some o ∧ H a = none) → Heap.SameBut a s.heap h' → HOk X.prog X.w H h' := fun {a h'} ha hs b ob e => by
    obtain ⟨_, _, hfree⟩ := ha
    refine (I.hok b ob e).stay (fun c w' hc q => (hs.2 c ?_).trans q) (fun _ q => q) fun _ _ q => q
    rintro rfl
    rcases hc with rfl | hc
    · rw [hfree] at e; cases e
    · rw [hfree] at hc; cases hc
  rcases hx with hk | hk
  · refine wpAny_storeName_local hk hn (fun h' hn' hs => ?_) hcls
    obtain ⟨oL, _, _, hoL, _⟩ := id hn
    refine h _ ⟨I.ok, I.os, I.bare, ⟨fun b o e n hb hx => ?_, fun b o e n hb hx => ?_, I.base.free, fun b o e hx => ?_, I.base.tups, I.base.frzs, I.base.tbls⟩, ⟨_, hn', fun j y v' e1 e2 e3 => ?_⟩, fun y c e => ?_, I.free, I.freeC, fun p hp => ?_, tracked ⟨oL, hoL, I.free⟩ hs, by simpa using I.len, by first | exact I.tk | exact Nat.succ_pos _⟩ ⟨_, hs, .inl rfl⟩
    · exact (hs.2 b (Nat.ne_of_lt (Nat.lt_of_lt_of_le (Heap.lt_size e) I.ok.above))).trans (I.base.keep b o e n hb hx)
    · obtain ⟨sl, e1⟩ := I.base.slot b o e n hb hx
      exact ⟨sl, (hs.2 b (Nat.ne_of_lt (Nat.lt_of_lt_of_le (Heap.lt_size e) I.ok.above))).trans e1⟩
    · obtain ⟨o', e1⟩ := I.base.there b o e hx
      exact ⟨o', (hs.2 b (Nat.ne_of_lt (Nat.lt_of_lt_of_le (Heap.lt_size e) I.ok.above))).trans e1⟩
    · by_cases hj : j = i
      · subst hj
        rw [hi] at e1; cases e1
        rw [List.getElem?_set_self hiσ] at e2
        cases e2
        exact ⟨u, r, .inl ⟨hk, by simp⟩⟩
      · rw [List.getElem?_set_ne (Ne.symm hj)] at e2
        obtain ⟨u', r', q⟩ := hl j y v' e1 e2 e3
        refine ⟨u', r', ?_⟩
        rcases q with ⟨k, e⟩ | ⟨k, c, e, z⟩
        · refine .inl ⟨k, ?_⟩
          have : y ≠ x := fun e => hj (nodup_ix hN e1 (e ▸ hi))
          simp [this, e]
        · exact .inr ⟨k, c, e, z.sameBut hs (cne y c e)⟩
    · obtain ⟨w', z⟩ := I.cell y c e
      exact ⟨w', z.sameBut hs (cne y c e)⟩
    · obtain ⟨e, n, ne, nf, d⟩ := I.pin p hp
      exact ⟨(hs.2 p.1 ne).trans e, n, ne, nf, d⟩
  · have hfn : X.fn x = true := by
      rcases hf with z | z
      · exact z
      · rw [z] at hk; cases hk
    obtain ⟨c, hc⟩ := I.ok.has x (.inl hk)
    obtain ⟨w', z⟩ := I.cell x c hc
    refine wpAny_storeName_cell I.ok.kind hk hc z (fun h' hc' hs => ?_)
    obtain ⟨oc, hoc, hocd⟩ := id z
    refine h { s with heap := h' } ⟨I.ok, I.os, I.bare, ⟨fun b o e n hb hx => ?_, fun b o e n hb hx => ?_, I.base.free, fun b o e hx => ?_, I.base.tups, I.base.frzs, I.base.tbls⟩, ⟨m, hn.sameBut hs (Ne.symm (cne x c hc)), fun j y v' e1 e2 e3 => ?_⟩, fun y c' e => ?_, I.free, I.freeC, fun p hp => ?_, tracked ⟨oc, hoc, I.freeC x c hc⟩ hs, by simpa using I.len, by first | exact I.tk | exact Nat.succ_pos _⟩ ⟨c, hs, .inr hc⟩
    · exact (hs.2 b (Nat.ne_of_lt (Nat.lt_of_lt_of_le (Heap.lt_size e) (I.ok.cab x c hfn hc)))).trans (I.base.keep b o e n hb hx)
    · obtain ⟨sl, e1⟩ := I.base.slot b o e n hb hx
      exact ⟨sl, (hs.2 b (Nat.ne_of_lt (Nat.lt_of_lt_of_le (Heap.lt_size e) (I.ok.cab x c hfn hc)))).trans e1⟩
    · obtain ⟨o', e1⟩ := I.base.there b o e hx
      exact ⟨o', (hs.2 b (Nat.ne_of_lt (Nat.lt_of_lt_of_le (Heap.lt_size e) (I.ok.cab x c hfn hc)))).trans e1⟩
    · by_cases hj : j = i
      · subst hj
        rw [hi] at e1; cases e1
        rw [List.getElem?_set_self hiσ] at e2
        cases e2
        exact ⟨u, r, .inr ⟨.inl hk, c, hc, hc'⟩⟩
      · rw [List.getElem?_set_ne (Ne.symm hj)] at e2
        obtain ⟨u', r', q⟩ := hl j y v' e1 e2 e3
        refine ⟨u', r', ?_⟩
        rcases q with q | ⟨k, c', e, z'⟩
        · exact .inl q
        · refine .inr ⟨k, c', e, z'.sameBut hs ?_⟩
          rintro rfl
          exact hj (nodup_ix hN e1 (I.ok.inj _ _ _ e hc ▸ hi))
    · by_cases hcc : c' = c
      · subst hcc; exact ⟨_, hc'⟩
      · obtain ⟨w2, z2⟩ := I.cell y c' e
        exact ⟨w2, z2.sameBut hs hcc⟩
    · obtain ⟨e, n, ne, nf, d⟩ := I.pin p hp
      refine ⟨(hs.2 p.1 ?_).trans e, n, ne, nf, d⟩
      intro q
      rw [q, hoc] at e
      have q' : oc = p.2 := Option.some.inj e
      exact d w' (by rw [← q']; exact hocd)
theorem store_ok {M : Model} {A : Around} {E : Value → Shared → Prop} {i : Nat} {x : Str} {v : V} {u : Value} {Q : Unit → Shared → Prop} (I : Inv X pins σ H s) (hN : X.N.Nodup) (hi : X.N[i]? = some x) (hx : Loc X.env.scope x) (r : RelV v u)
    (h : ∀ s', Inv X pins (σ.set i (some v)) H s' → Q () s') (hf : X.fn x = true ∨ X.env.scope.names.lookup x = some .local := by first | exact .inl rfl | exact .inr rfl | assumption) : wpAny M A (storeName X.env x u) Q E s :=
  store_ok2 I hN hi hx r (fun s' I' _ => h s' I') hf
/-- behind a call or a block, the state as it is -/
theorem Inv.call' {s' : Shared} {ch : List Addr} (I : Inv X pins σ H s) (ho : s'.os = s.os) (u : Un (frs X.stack) ch H H' s.heap s'.heap) (hok : HOk X.prog X.w H' s'.heap) (hg : AllBare s'.gens)
    (hch : ∀ b ∈ ch, (b ∈ X.ex ∨ X.s₀.heap.objs.size ≤ b) ∧ b ≠ X.env.locals ∧ (∀ x c, X.env.cells.lookup x = some c → c ≠ b) ∧ ∀ p ∈ X.pn ++ pins, p.1 ≠ b) (ht : 0 < s'.toks) : Inv X pins σ H' s' := by
  obtain ⟨h', g', d', t', o'⟩ := s'
  have e : o' = s.os := ho
  subst e
  exact I.call (g' := g') (t' := t') (d' := d') u hok hg hch ht
end

/-! ### the judgements -/
/-- an exception: its class, its own dict's address (where it has one), the abstract heap behind it -/
abbrev XK := Value → Option Addr → Hp → Prop
abbrev St := List (Option V)
abbrev VK := V → Hp → Prop
/-- an expression's reading; a test's; an argument list's -/
abbrev TE := St → Hp → VK → Prop
abbrev TT := St → Hp → (Bool → Hp → Prop) → Prop
abbrev TA := St → Hp → (List V → Hp → Prop) → Prop
/-- what is wanted behind a statement -/
structure Ends where
  nx : St → Hp → Prop
  rt : VK
  bk : St → Hp → Prop := fun _ _ => False
  ct : St → Hp → Prop := fun _ _ => False
abbrev TS := Ends → St → Hp → Prop

def EP (X : Cx) (pins : List (Addr × Obj)) (σ : St) (Q : VK) (u : Value) (s' : Shared) : Prop := ∃ v H', Inv X pins σ H' s' ∧ RelV v u ∧ Q v H'
def TP (X : Cx) (pins : List (Addr × Obj)) (σ : St) (Q : Bool → Hp → Prop) (b : Bool) (s' : Shared) : Prop := ∃ H', Inv X pins σ H' s' ∧ Q b H'
def AP (X : Cx) (pins : List (Addr × Obj)) (σ : St) (Q : List V → Hp → Prop) (us : List Value) (s' : Shared) : Prop := ∃ vs H', Inv X pins σ H' s' ∧ Vals vs us ∧ Q vs H'
def SP (X : Cx) (pins : List (Addr × Obj)) (D : Ends) (f : Flow) (s' : Shared) : Prop :=
  match f with
  | .next => ∃ σ' H', Inv X pins σ' H' s' ∧ D.nx σ' H'
  | .brk => ∃ σ' H', Inv X pins σ' H' s' ∧ D.bk σ' H'
  | .cont => ∃ σ' H', Inv X pins σ' H' s' ∧ D.ct σ' H'
  | .ret u => ∃ v σ' H', Inv X pins σ' H' s' ∧ RelV v u ∧ D.rt v H'

def PE (X : Cx) (e : Expr) (t : TE) : Prop :=
  ∀ (pins : List (Addr × Obj)) (s : Shared) (σ : St) (H : Hp) (Q : VK), Inv X pins σ H s → t σ H Q → wpAny (model X.prog X.w) X.A (eval e X.env) (EP X pins σ Q) X.xe s
def PT (X : Cx) (e : Expr) (t : TT) : Prop :=
  ∀ (pins : List (Addr × Obj)) (s : Shared) (σ : St) (H : Hp) (Q : Bool → Hp → Prop), Inv X pins σ H s → t σ H Q → wpAny (model X.prog X.w) X.A (isTrue e X.env (eval e X.env)) (TP X pins σ Q) X.xe s
/-- a test whatever its 'whole' is (and, or) -/
def PW (X : Cx) (e : Expr) (t : TT) : Prop :=
  ∀ (whole : Sem Value) (pins : List (Addr × Obj)) (s : Shared) (σ : St) (H : Hp) (Q : Bool → Hp → Prop), Inv X pins σ H s → t σ H Q → wpAny (model X.prog X.w) X.A (isTrue e X.env whole) (TP X pins σ Q) X.xe s
theorem PW.pt {X : Cx} {e : Expr} {t : TT} (h : PW X e t) : PT X e t := h _
/-- an argument list (no star), from the left -/
def PA (X : Cx) (es : List Expr) (t : TA) : Prop :=
  ∀ (pos : Pos) (pins : List (Addr × Obj)) (s : Shared) (σ : St) (H : Hp) (Q : List V → Hp → Prop), Inv X pins σ H s → t σ H Q → wpAny (model X.prog X.w) X.A (spliced (backTo pos (starEach es X.env))) (AP X pins σ Q) X.xe s
def PS (X : Cx) (st : Stmt) (t : TS) : Prop :=
  ∀ (pins : List (Addr × Obj)) (s : Shared) (σ : St) (H : Hp) (D : Ends), Inv X pins σ H s → t D σ H → wpAny (model X.prog X.w) X.A (exec st X.env) (SP X pins D) X.xe s
def PSs (X : Cx) (st : List Stmt) (t : TS) : Prop :=
  ∀ (pins : List (Addr × Obj)) (s : Shared) (σ : St) (H : Hp) (D : Ends), Inv X pins σ H s → t D σ H → wpAny (model X.prog X.w) X.A (execs st X.env) (SP X pins D) X.xe s
/-- weaken the end -/
theorem thn {α : Type} {t : Sem α} {Q Q' : α → Shared → Prop} {M : Model} {A : Around} {E : Value → Shared → Prop} {s : Shared} (h : wpAny M A t Q E s) (hQ : ∀ a s, Q a s → Q' a s) : wpAny M A t Q' E s := wpAny_mono h hQ fun _ _ x => x
end L2

namespace L2
open PySem PySem.Spec PyProof.Rows
section
variable {X : Cx}


/-! ### names and constants -/
def tVar (i : Nat) : TE := fun σ H Q => ∃ v, σ[i]? = some (some v) ∧ Q v H
def tC (v : V) : TE := fun _ H Q => Q v H
theorem pe_var {i : Nat} {x : Str} {pos : Pos} (hN : X.N[i]? = some x) (hv : Vis X.env.scope x) (hd : (x == ("__debug__" : Str)) = false := by decide) (hcd : (x == ("__classdict__" : Str)) = false := by decide) : PE X (.Name x pos) (tVar i) := by
  intro pins s σ H Q I h
  obtain ⟨v, e, h⟩ := h
  obtain ⟨m, hn, hl⟩ := I.loc
  obtain ⟨u, r, l⟩ := hl i x v hN e hv
  have fin : EP X pins σ Q u s := ⟨v, H, I, r, h⟩
  rcases l with ⟨hk, hm⟩ | ⟨hk, c, hc, hcell⟩
  · exact wpAny_Name (wpAny_loadName_local I.ok.kind hk hn hm fin) hd
  · rcases hk with hk | hk
    · exact wpAny_Name (wpAny_loadName_cell I.ok.kind hk hc hcell fin) hd
    · exact wpAny_Name (wpAny_loadName_free I.ok.kind hk hc hcell fin hcd) hd
theorem pe_int {i j pos} : PE X (.Constant (.int i) j pos) (tC (.int i)) := fun _ _ _ H _ I h => wpAny_Constant_int ⟨.int i, H, I.tok _, ⟨_, rfl⟩, h⟩
theorem pe_bl {b j pos} : PE X (.Constant (.bool b) j pos) (tC (.bl b)) := fun _ _ _ H _ I h => Constant_bool ⟨.bl b, H, I, rfl, h⟩
theorem pe_non {j pos} : PE X (.Constant .none j pos) (tC .non) := fun _ _ _ H _ I h => Constant_none ⟨.non, H, I, rfl, h⟩
theorem pe_str {x j pos} : PE X (.Constant (.str x) j pos) (tC (.str x)) := fun _ _ _ H _ I h => Calls.Constant_str ⟨.str x, H, I.tok _, ⟨_, rfl⟩, h⟩

/-- a global name of the def -/
def Gl (X : Cx) (x : Str) : Prop := X.env.kindOf x = some .globalImplicit
theorem ld_glob {E : Value → Shared → Prop} {pins : List (Addr × Obj)} {s : Shared} {σ : St} {H : Hp} {x : Str} {u : Value} {pos : Pos} {Q : Value → Shared → Prop} (I : Inv X pins σ H s) (hg : Gl X x) (hm : X.mg x = some u) (h : Q u s)
    (hd : (x == ("__debug__" : Str)) = false := by decide) : wpAny (model X.prog X.w) X.A (eval (.Name x pos) X.env) Q E s :=
  Calls.Name_function_global I.ok.kind hg (Calls.loadGlobal_global (by rw [I.ok.glob]; exact I.mod.glob.keeps I.bk) hm h) hd
theorem ld_blt {E : Value → Shared → Prop} {pins : List (Addr × Obj)} {s : Shared} {σ : St} {H : Hp} {x : Str} {u : Value} {pos : Pos} {Q : Value → Shared → Prop} (I : Inv X pins σ H s) (hg : Gl X x) (hm : X.mg x = none) (hv : bootBuiltins x = some u) (h : Q u s)
    (hn : x ≠ "__name__" := by decide) (hd : (x == ("__debug__" : Str)) = false := by decide) : wpAny (model X.prog X.w) X.A (eval (.Name x pos) X.env) Q E s := by
  obtain ⟨mb, h1, h2⟩ := I.mod.blt
  exact Calls.Name_function_global I.ok.kind hg (Calls.loadGlobal_builtin (by rw [I.ok.glob]; exact I.mod.glob.keeps I.bk) hm (by rw [I.ok.blt]; exact h1.keeps I.bk) ((h2 x hn).trans hv) h) hd
/-- a module's constant, a class, a function, as a value -/
theorem pe_glob {x : Str} {v : V} {u : Value} {pos : Pos} (hg : Gl X x) (hm : X.mg x = some u) (r : RelV v u) (hd : (x == ("__debug__" : Str)) = false := by decide) : PE X (.Name x pos) (tC v) :=
  fun _ _ _ H _ I h => ld_glob I hg hm ⟨v, H, I, r, h⟩ hd
theorem pe_bltn {x : Str} {v : V} {u : Value} {pos : Pos} (hg : Gl X x) (hm : X.mg x = none) (hv : bootBuiltins x = some u) (r : RelV v u) (hn : x ≠ "__name__" := by decide) (hd : (x == ("__debug__" : Str)) = false := by decide) : PE X (.Name x pos) (tC v) :=
  fun _ _ _ H _ I h => ld_blt I hg hm hv ⟨v, H, I, r, h⟩ hn hd

/-! ### arithmetic -/
variable {a b : Expr} {ta tb : TE} {pos : Pos}

/-! ### comparisons -/
/-- a comparison as a value, as a test -/
def tB (t : TE) : TT := fun σ H Q => t σ H fun x H1 => ∃ c, x = .bl c ∧ Q c H1
/-- an expression whose value is a bool, as a test -/
theorem pt_val {e : Expr} {t : TE} (h : PE X e t) (he : ∀ whole, isTrue e X.env whole = (do let v ← whole; standAt e.pos; holding [v] (truthy v)) := by intro _; rfl) : PT X e (tB t) := by
  intro pins s σ H Q I hw
  refine isTrue_plain (thn (h pins s σ H _ I hw) fun v s1 ⟨x, H1, I1, r1, q1⟩ => ?_) (he _)
  obtain ⟨d, rfl, q⟩ := q1
  cases r1
  exact wpAny_truthy_bool ⟨H1, I1, q⟩

/-! ### and, or, not -/
variable {tA tB' : TT} {rest : List Expr}
def tAnd (t u : TT) : TT := fun σ H Q => t σ H fun c H1 => if c = true then u σ H1 Q else Q false H1
def tOr (t u : TT) : TT := fun σ H Q => t σ H fun c H1 => if c = true then Q true H1 else u σ H1 Q
def tNot (t : TT) : TT := fun σ H Q => t σ H fun c H1 => Q (!c) H1
theorem pw_and1 (ha : PT X a tA) : PW X (.BoolOp .And [a] pos) tA := by
  intro wh pins s σ H Q I h
  refine isTrue_and (thn (ha pins s σ H Q I h) fun c s1 e => ?_)
  cases c with
  | true => exact isTrue_and_nil e
  | false => exact e
theorem pw_or1 (ha : PT X a tA) : PW X (.BoolOp .Or [a] pos) tA := by
  intro wh pins s σ H Q I h
  refine isTrue_or (thn (ha pins s σ H Q I h) fun c s1 e => ?_)
  cases c with
  | false => exact isTrue_or_nil e
  | true => exact e
theorem pw_and (ha : PT X a tA) (hb : PW X (.BoolOp .And (b :: rest) pos) tB') : PW X (.BoolOp .And (a :: b :: rest) pos) (tAnd tA tB') := by
  intro wh pins s σ H Q I h
  refine isTrue_and (thn (ha pins s σ H _ I h) fun c s1 ⟨H1, I1, q1⟩ => ?_)
  cases c with
  | true => exact hb wh pins s1 σ H1 Q I1 q1
  | false => exact ⟨H1, I1, q1⟩
theorem pw_or (ha : PT X a tA) (hb : PW X (.BoolOp .Or (b :: rest) pos) tB') : PW X (.BoolOp .Or (a :: b :: rest) pos) (tOr tA tB') := by
  intro wh pins s σ H Q I h
  refine isTrue_or (thn (ha pins s σ H _ I h) fun c s1 ⟨H1, I1, q1⟩ => ?_)
  cases c with
  | true => exact ⟨H1, I1, q1⟩
  | false => exact hb wh pins s1 σ H1 Q I1 q1
theorem pt_not (ha : PT X a tA) : PT X (.UnaryOp .Not a pos) (tNot tA) := by
  intro pins s σ H Q I h
  exact isTrue_not (ha pins s σ H (fun c H1 => Q (!c) H1) I h)
/-- .. as values (bools) -/
def tAndV (ta tb : TE) : TE := fun σ H Q => ta σ H fun x H1 => ∃ c, x = .bl c ∧ if c = true then tb σ H1 Q else Q (.bl false) H1
theorem pe_one {op} {t : TE} (h : PE X a t) : PE X (.BoolOp op [a] pos) t := fun pins s σ H Q I hw => BoolOp_one (h pins s σ H Q I hw)
theorem pe_and (ha : PE X a ta) (hb : PE X (.BoolOp .And (b :: rest) pos) tb) : PE X (.BoolOp .And (a :: b :: rest) pos) (tAndV ta tb) := by
  intro pins s σ H Q I h
  refine BoolOp_and (thn (ha pins s σ H _ I h) fun v s1 ⟨x, H1, I1, r1, q1⟩ => ?_)
  obtain ⟨c, rfl, q1⟩ := q1
  cases r1
  refine wpAny_truthy_bool ?_
  cases c with
  | true => exact hb pins s1 σ H1 Q I1 q1
  | false => exact ⟨.bl false, H1, I1, rfl, q1⟩
/-- a if t else b -/
def tIf (t : TT) (ta tb : TE) : TE := fun σ H Q => t σ H fun c H1 => if c = true then ta σ H1 Q else tb σ H1 Q
theorem pe_ifExp {c : Expr} (hc : PT X c tA) (ha : PE X a ta) (hb : PE X b tb) : PE X (.IfExp c a b pos) (tIf tA ta tb) := by
  intro pins s σ H Q I h
  refine wpAny_IfExp (thn (hc pins s σ H _ I h) fun d s1 ⟨H1, I1, q1⟩ => ?_)
  cases d with
  | true => exact ha pins s1 σ H1 Q I1 q1
  | false => exact hb pins s1 σ H1 Q I1 q1
end
end L2

namespace L2
open PySem PySem.Spec PyProof.Rows

/-! ### a list, a tuple that is read: tracked, frozen, or an object of the module -/
def SqL (K : PySem.W.Frag) (H : Hp) (a : Addr) (xs : List V) : Prop :=
  Rd H a (.lst xs) ∨
    ∃ (o : Obj) (its : Array Value) (n : Nat), K.lookup a = some o ∧ o.cls = .type "list" ∧ o.dict = none ∧ o.data = .seq its n ∧ its.size ≤ sizeLine ∧ Vals xs its.toList
def SqT (K : PySem.W.Frag) (H : Hp) (a : Addr) (xs : List V) : Prop :=
  Rd H a (.tup xs) ∨
    ∃ (o : Obj) (its : Array Value) (n : Nat), K.lookup a = some o ∧ o.cls = .type "tuple" ∧ o.data = .seq its n ∧ its.size ≤ sizeLine ∧ Vals xs its.toList
def absV : Value → Option V
  | .none => some .non
  | .bool b => some (.bl b)
  | .int i _ => some (.int i)
  | .str x _ => some (.str x)
  | .bytes b _ => some (.byt b)
  | .float b _ => some (.flt b)
  | .ref a => some (.ref a)
  | .type n => some (.ty n)
  | _ => none
theorem RelV.abs {x : V} {u : Value} (r : RelV x u) : absV u = some x := by
  cases x with
  | non => cases r; rfl
  | bl _ => cases r; rfl
  | int _ => obtain ⟨t, rfl⟩ := r; rfl
  | str _ => obtain ⟨t, rfl⟩ := r; rfl
  | byt _ => obtain ⟨t, rfl⟩ := r; rfl
  | flt _ => obtain ⟨t, rfl⟩ := r; rfl
  | ref _ => cases r; rfl
  | ty _ => cases r; rfl
theorem RelV.inj {x y : V} {u : Value} (r : RelV x u) (q : RelV y u) : x = y := Option.some.inj (r.abs.symm.trans q.abs)
theorem Vals.inj : ∀ {xs ys : List V} {us : List Value}, Vals xs us → Vals ys us → xs = ys
  | _, _, _, .nil, .nil => rfl
  | _, _, _, .cons r t, .cons r' t' => by rw [r.inj r', Vals.inj t t']
section
variable {X : Cx} {pins : List (Addr × Obj)} {σ : St} {H : Hp} {s : Shared} {a : Addr} {xs ys : List V}
theorem SqL.of {K : PySem.W.Frag} (h : H a = some (.lst xs)) : SqL K H a xs := .inl (.inl h)
theorem SqT.of {K : PySem.W.Frag} (h : H a = some (.tup xs)) : SqT K H a xs := .inl (.inl h)
theorem Inv.list (I : Inv X pins σ H s) (h : SqL X.K H a xs) : ∃ its : List Value, Vals xs its ∧ PlainL s.heap a its.toArray ∧ xs.length ≤ sizeLine := by
  rcases h with h | ⟨o, its, n, hk, hc, hd, hs, hz, r⟩
  · obtain ⟨z, its, n, r, e⟩ := h.ok I.hok
    exact ⟨its, r, ⟨_, n, e, rfl, rfl, rfl⟩, z⟩
  · refine ⟨its.toList, r, ⟨o, n, I.kIn a o hk, hc, hd, by simpa using hs⟩, ?_⟩
    have e := r.length
    simp only [Array.length_toList] at e
    omega
theorem Inv.tuple (I : Inv X pins σ H s) (h : SqT X.K H a xs) : ∃ its : List Value, Vals xs its ∧ IsTup s.heap a its.toArray ∧ xs.length ≤ sizeLine := by
  rcases h with h | ⟨o, its, n, hk, hc, hs, hz, r⟩
  · obtain ⟨z, its, r, p⟩ := h.ok I.hok
    exact ⟨its, r, p, z⟩
  · refine ⟨its.toList, r, ⟨o, I.kIn a o hk, hc, n, by simpa using hs⟩, ?_⟩
    have e := r.length
    simp only [Array.length_toList] at e
    omega
theorem Inv.list_inj (I : Inv X pins σ H s) (h : SqL X.K H a xs) (h' : SqL X.K H a ys) : xs = ys := by
  obtain ⟨its, r, ⟨o, n, e, _, _, d⟩, _⟩ := I.list h
  obtain ⟨its', r', ⟨o', n', e', _, _, d'⟩, _⟩ := I.list h'
  rw [e] at e'; cases e'
  rw [d] at d'
  injection d' with d1 _
  have : its = its' := by simpa using congrArg Array.toList d1
  subst this
  exact r.inj r'
theorem Inv.tuple_inj (I : Inv X pins σ H s) (h : SqT X.K H a xs) (h' : SqT X.K H a ys) : xs = ys := by
  obtain ⟨its, r, ⟨o, e, _, n, d⟩, _⟩ := I.tuple h
  obtain ⟨its', r', ⟨o', e', _, n', d'⟩, _⟩ := I.tuple h'
  rw [e] at e'; cases e'
  rw [d] at d'
  injection d' with d1 _
  have : its = its' := by simpa using congrArg Array.toList d1
  subst this
  exact r.inj r'
end

/-! ### another wish about exceptions -/
abbrev Cx.wish (X : Cx) (E : Value → Shared → Prop) : Cx := { X with xe := E }
/-- no exception leaves -/
abbrev Cx.nox (X : Cx) : Cx := X.wish fun _ _ => False
theorem Cx.Ok.wish {X : Cx} (ok : X.Ok) (E : Value → Shared → Prop) : (X.wish E).Ok :=
  ⟨ok.mod, ok.kind, ok.glob, ok.blt, ok.above, ok.inj, ok.has, ok.cab, ok.hd, ok.frames, ok.stk, ok.exf, ok.bs, ok.bsz, ok.noex, ok.exfs, ok.funs, ok.frf⟩
theorem Cx.Ok.unwish {X : Cx} {E : Value → Shared → Prop} (ok : (X.wish E).Ok) : X.Ok :=
  ⟨ok.mod, ok.kind, ok.glob, ok.blt, ok.above, ok.inj, ok.has, ok.cab, ok.hd, ok.frames, ok.stk, ok.exf, ok.bs, ok.bsz, ok.noex, ok.exfs, ok.funs, ok.frf⟩
section
variable {X : Cx} {pins : List (Addr × Obj)} {σ : St} {H : Hp} {s : Shared} {E : Value → Shared → Prop}
theorem Inv.wish (I : Inv X pins σ H s) (E : Value → Shared → Prop) : Inv (X.wish E) pins σ H s := ⟨I.ok.wish E, I.os, I.bare, I.base, I.loc, I.cell, I.free, I.freeC, I.pin, I.hok, I.len, I.tk⟩
theorem Inv.unwish (I : Inv (X.wish E) pins σ H s) : Inv X pins σ H s := ⟨I.ok.unwish, I.os, I.bare, I.base, I.loc, I.cell, I.free, I.freeC, I.pin, I.hok, I.len, I.tk⟩
theorem SP.unwish {D : Ends} {f : Flow} {s' : Shared} (h : SP (X.wish E) pins D f s') : SP X pins D f s' := by
  cases f with
  | next => obtain ⟨σ', H', I, q⟩ := h; exact ⟨σ', H', I.unwish, q⟩
  | brk => obtain ⟨σ', H', I, q⟩ := h; exact ⟨σ', H', I.unwish, q⟩
  | cont => obtain ⟨σ', H', I, q⟩ := h; exact ⟨σ', H', I.unwish, q⟩
  | ret u => obtain ⟨v, σ', H', I, r, q⟩ := h; exact ⟨v, σ', H', I.unwish, r, q⟩
theorem PSs.nox {st : List Stmt} {t : TS} (h : PSs X.nox st t) : PSs X st t := fun pins s σ H D I hw =>
  wpAny_mono (h pins s σ H D (I.wish _) hw) (fun _ _ q => q.unwish) fun _ _ z => False.elim z
end

/-! ### blocks and small statements -/
section
variable {X : Cx} {st : Stmt} {rest : List Stmt} {t u : TS} {e : Expr} {te : TE} {pos : Pos}
def tNext : TS := fun D σ H => D.nx σ H
def tSeq (t u : TS) : TS := fun D σ H => t { D with nx := u D } σ H
theorem pss_nil : PSs X [] tNext := fun _ _ σ H _ I h => wpAny_execs_nil ⟨σ, H, I, h⟩
theorem pss_cons (h1 : PS X st t) (h2 : PSs X rest u) : PSs X (st :: rest) (tSeq t u) := by
  intro pins s σ H D I h
  refine wpAny_execs_cons (thn (h1 pins s σ H { D with nx := u D } I h) fun f s1 q => ?_)
  cases f with
  | next =>
    obtain ⟨σ', H', I', q⟩ := q
    exact h2 pins s1 σ' H' D I' q
  | ret v => exact q
  | brk => exact q
  | cont => exact q
theorem pss_one (h1 : PS X st t) : PSs X [st] t := by
  intro pins s σ H D I h
  refine wpAny_execs_cons (thn (h1 pins s σ H D I h) fun f s1 q => ?_)
  cases f with
  | next => exact wpAny_execs_nil q
  | ret v => exact q
  | brk => exact q
  | cont => exact q
def tCont : TS := fun D σ H => D.ct σ H
theorem ps_continue : PS X (.Continue pos) tCont := fun _ _ σ H _ I h => wpAny_Continue ⟨σ, H, I, h⟩
/-- in a def's body nothing is shown -/
theorem Inv.quiet {pins : List (Addr × Obj)} {σ : St} {H : Hp} {s : Shared} (I : Inv X pins σ H s) : interactive X.env = false := by simp [interactive, I.ok.kind]
/-- an expression whose value is dropped -/
def tDrop (te : TE) : TS := fun D σ H => te σ H fun _ H1 => D.nx σ H1
theorem ps_expr (he : PE X e te) (hs : swapsWith e none pos.line X.env = pure false := by rfl) : PS X (.Expr e pos) (tDrop te) := by
  intro pins s σ H D I h
  exact wpAny_Expr_any (thn (he pins s σ H _ I h) fun v s1 ⟨x, H1, I1, r1, q1⟩ => ⟨σ, H1, I1, q1⟩) I.quiet hs
def tRet (te : TE) : TS := fun D σ H => te σ H D.rt
theorem ps_ret (he : PE X e te) : PS X (.Return (some e) pos) (tRet te) := by
  intro pins s σ H D I h
  exact wpAny_Return_some (thn (he pins s σ H _ I h) fun v s1 ⟨x, H1, I1, r1, q1⟩ => ⟨x, σ, H1, I1, r1, q1⟩)
def tIfS (c : TT) (t u : TS) : TS := fun D σ H => c σ H fun b H1 => if b = true then t D σ H1 else u D σ H1
theorem ps_if {c : Expr} {a b : List Stmt} {tc : TT} (hc : PT X c tc) (ha : PSs X a t) (hb : PSs X b u) : PS X (.If c a b pos) (tIfS tc t u) := by
  intro pins s σ H D I h
  refine wpAny_If (thn (hc pins s σ H _ I h) fun d s1 ⟨H1, I1, q1⟩ => ?_)
  cases d with
  | true => exact ha pins s1 σ H1 D I1 q1
  | false => exact hb pins s1 σ H1 D I1 q1
/-- code that the proof never comes to -/
def tNever : TS := fun _ _ _ => False
theorem ps_never : PS X st tNever := fun _ _ _ _ _ _ h => h.elim
end

/-! ### targets -/
abbrev TG := V → St → Hp → (St → Hp → Prop) → Prop
abbrev TGs := List V → St → Hp → (St → Hp → Prop) → Prop
def PG (X : Cx) (target : Expr) (t : TG) : Prop :=
  ∀ (pins : List (Addr × Obj)) (s : Shared) (σ : St) (H : Hp) (v : V) (u : Value) (Q : St → Hp → Prop), Inv X pins σ H s → RelV v u → t v σ H Q →
    wpAny (model X.prog X.w) X.A (assign target X.env u) (fun _ s' => ∃ σ' H', Inv X pins σ' H' s' ∧ Q σ' H') X.xe s
/-- several targets, one after another -/
def PGs (X : Cx) (ts : List Expr) (t : TGs) : Prop :=
  ∀ (pins : List (Addr × Obj)) (s : Shared) (σ : St) (H : Hp) (vs : List V) (us : List Value) (Q : St → Hp → Prop), Inv X pins σ H s → Vals vs us → t vs σ H Q →
    wpAny (model X.prog X.w) X.A (assignInOrder ((assignEach ts X.env).map (·.2)) us) (fun _ s' => ∃ σ' H', Inv X pins σ' H' s' ∧ Q σ' H') X.xe s
/-- a op= b, by values -/
abbrev TIp := V → V → Hp → VK → Prop
def PIp (X : Cx) (op : Operator) (t : TIp) : Prop :=
  ∀ (pins : List (Addr × Obj)) (s : Shared) (σ : St) (H : Hp) (x y : V) (v u : Value) (Q : VK), Inv X pins σ H s → RelV x v → RelV y u → t x y H Q →
    wpAny (model X.prog X.w) X.A (inplaceOp op v u) (EP X pins σ Q) X.xe s
section
variable {X : Cx} {pos : Pos}
def gName (i : Nat) : TG := fun v σ H Q => Q (σ.set i (some v)) H
theorem pg_name {i : Nat} {x : Str} (hN : X.N.Nodup) (hi : X.N[i]? = some x) (hx : Loc X.env.scope x) (hf : X.fn x = true ∨ X.env.scope.names.lookup x = some .local := by first | exact .inl rfl | exact .inr rfl | assumption) : PG X (.Name x pos) (gName i) := by
  intro pins s σ H v u Q I r h
  exact wpAny_assign_Name (store_ok I hN hi hx r (fun s' I' => ⟨_, H, I', h⟩) hf)
def gNil : TGs := fun vs σ H Q => vs = [] ∧ Q σ H
def gCons (t : TG) (u : TGs) : TGs := fun vs σ H Q => ∃ v r, vs = v :: r ∧ t v σ H fun σ' H' => u r σ' H' Q
theorem pgs_nil : PGs X [] gNil := by
  intro pins s σ H vs us Q I r h
  obtain ⟨e, h⟩ := h
  subst e
  cases r
  exact assignInOrder_nil ⟨σ, H, I, h⟩
theorem pgs_cons {e : Expr} {es : List Expr} {t : TG} {u : TGs} (h1 : PG X e t) (h2 : PGs X es u)
    (hs : (assignEach (e :: es) X.env).map (·.2) = assign e X.env :: (assignEach es X.env).map (·.2) := by rfl) : PGs X (e :: es) (gCons t u) := by
  intro pins s σ H vs us Q I r h
  obtain ⟨v, vr, e1, h⟩ := h
  subst e1
  cases r with
  | cons r rr =>
    rw [hs]
    refine assignInOrder_cons (thn (h1 pins s σ H _ _ _ I r h) fun _ s1 ⟨σ1, H1, I1, q1⟩ => ?_)
    exact h2 pins s1 σ1 H1 _ _ Q I1 rr q1
/-- (a, b, ..) = a tuple of that length -/
def gTup (K : PySem.W.Frag) (n : Nat) (t : TGs) : TG := fun v σ H Q => ∃ a xs, v = .ref a ∧ SqT K H a xs ∧ xs.length = n ∧ t xs σ H Q
theorem pg_tup {es : List Expr} {k : Nat} {t : TGs} {n : Nat} (hc : X.calm = true) (h : PGs X es t)
    (hn : (assignEach es X.env).length = n := by rfl) (hst : (assignEach es X.env).findIdx? (·.1) = none := by rfl) : PG X (.Tuple es k pos) (gTup X.K n t) := by
  intro pins s σ H v u Q I r hw
  obtain ⟨a, xs, e1, hq, hl, hw⟩ := hw
  subst e1
  cases r
  obtain ⟨its, rv, ht, hz⟩ := I.tuple hq
  refine assign_Tuple_tuple (I.ok.hd hc) ht (by simp [hn, ← hl, rv.length]) hst fun h' hx => ?_
  have I1 : Inv X pins σ H { s with heap := h' } := I.kept (t' := s.toks) fun b o e => hx b o (Nat.ne_of_lt (Heap.lt_size e)) e
  exact h pins _ σ H xs _ Q I1 (by simpa using rv) hw
/-- target = value -/
def tAsg (te : TE) (g : TG) : TS := fun D σ H => te σ H fun x H1 => g x σ H1 D.nx
theorem ps_asg {tg e : Expr} {te : TE} {g : TG} (he : PE X e te) (hg : PG X tg g) (hs : swapsWithSole [tg] e pos.line X.env = pure false := by rfl) (hw : swappedStores [tg] e X.env = pure none := by rfl)
    (h1 : (assignEach [tg] X.env).map (·.2) = [assign tg X.env] := by rfl) : PS X (.Assign [tg] e pos) (tAsg te g) := by
  intro pins s σ H D I h
  refine wpAny_Assign_stores (thn (he pins s σ H _ I h) fun v s1 ⟨x, H1, I1, r1, q1⟩ => ?_) hs hw
  rw [h1]
  exact thn (hg pins s1 σ H1 x v _ I1 r1 q1) fun _ s2 q => q
/-- name = value -/
theorem ps_set {i : Nat} {x : Str} {e : Expr} {te : TE} {pos' : Pos} (hN : X.N.Nodup) (hi : X.N[i]? = some x) (hx : Loc X.env.scope x) (he : PE X e te) (hs : swapsWith e (some (.Name x pos')) pos.line X.env = pure false := by rfl) (hf : X.fn x = true ∨ X.env.scope.names.lookup x = some .local := by first | exact .inl rfl | exact .inr rfl | assumption) :
    PS X (.Assign [.Name x pos'] e pos) (tAsg te (gName i)) := by
  intro pins s σ H D I h
  refine wpAny_Assign_Name (thn (he pins s σ H _ I h) fun v s1 ⟨y, H1, I1, r1, q1⟩ => ?_) hs
  exact store_ok I1 hN hi hx r1 (fun s2 I2 => ⟨_, H1, I2, q1⟩) hf
/-- name op= e -/
def tAug (i : Nat) (te : TE) (ti : TIp) : TS := fun D σ H => ∃ x, σ[i]? = some (some x) ∧ te σ H fun y H1 => ti x y H1 fun z H2 => D.nx (σ.set i (some z)) H2
theorem ps_aug {i : Nat} {x : Str} {e : Expr} {te : TE} {op : Operator} {ti : TIp} {pos' : Pos} (hN : X.N.Nodup) (hi : X.N[i]? = some x) (hx : Loc X.env.scope x) (he : PE X e te) (ho : PIp X op ti) (hf : X.fn x = true ∨ X.env.scope.names.lookup x = some .local := by first | exact .inl rfl | exact .inr rfl | assumption) :
    PS X (.AugAssign (.Name x pos') op e pos) (tAug i te ti) := by
  intro pins s σ H D I h
  obtain ⟨v, e1, h⟩ := h
  obtain ⟨m, hn, hl⟩ := I.loc
  have vis : Vis X.env.scope x := by rcases hx with k | k; exact .inl k; exact .inr (.inl k)
  obtain ⟨u, r, l⟩ := hl i x v hi e1 vis
  refine wpAny_AugAssign_Name ?_
  have go : wpAny (model X.prog X.w) X.A (eval e X.env) (fun w s₂ => wpAny (model X.prog X.w) X.A (inplaceOp op u w) (fun r s₃ => wpAny (model X.prog X.w) X.A (storeName X.env x r) (fun _ => SP X pins D .next) X.xe s₃) X.xe s₂) X.xe s := by
    refine thn (he pins s σ H _ I h) fun w s1 ⟨y, H1, I1, r1, q1⟩ => ?_
    refine thn (ho pins s1 σ H1 v y u w _ I1 r r1 q1) fun z s2 ⟨zv, H2, I2, r2, q2⟩ => ?_
    exact store_ok I2 hN hi hx r2 (fun s3 I3 => ⟨_, H2, I3, q2⟩) hf
  rcases l with ⟨hk, hm⟩ | ⟨hk, c, hc, hcell⟩
  · exact wpAny_loadName_local I.ok.kind hk hn hm go
  · rcases hk with hk | hk
    · exact wpAny_loadName_cell I.ok.kind hk hc hcell go
    · rcases hx with k | k
      · have : X.env.scope.names.lookup x = some .free := hk
        rw [k] at this; cases this
      · have : X.env.scope.names.lookup x = some .free := hk
        rw [k] at this; cases this
/-- ints -/
def ipI (f : Int → Int → Int) : TIp := fun x y H Q => ∃ i j, x = .int i ∧ y = .int j ∧ Q (.int (f i j)) H
theorem ip_add : PIp X .Add (ipI fun i j => i + j) := by
  intro pins s σ H x y v u Q I r1 r2 h
  obtain ⟨i, j, e1, e2, q⟩ := h
  subst e1; subst e2
  obtain ⟨t, rfl⟩ := r1
  obtain ⟨t', rfl⟩ := r2
  exact iadd_int ⟨.int _, H, I.tok _, ⟨_, rfl⟩, q⟩
end

/-! ### while -/
section
variable {X : Cx} {pos : Pos}
/-- the invariant W with its measure -/
def tWhile (c : TT) (tb : TS) : TS := fun D σ H => ∃ W : Nat → St → Hp → Prop, (∃ m, W m σ H) ∧ ∀ m σ H, W m σ H →
  c σ H fun b H1 => if b = true then ∃ N : St → Hp → Prop, (∀ σ' H', N σ' H' → ∃ m', m' < m ∧ W m' σ' H') ∧ tb { D with nx := N, ct := N, bk := D.nx } σ H1 else D.nx σ H1
theorem ps_while {c : Expr} {body : List Stmt} {tc : TT} {tb : TS} (hp : PassesOwn (model X.prog X.w) X.A X.env X.xe) (hc : PT X c tc) (hb : PSs X body tb) : PS X (.While c body [] pos) (tWhile tc tb) := by
  intro pins s σ H D I h
  obtain ⟨W, ⟨m0, w0⟩, turn⟩ := h
  refine wpAny_While (codeAny_whileLoop (fun n s' => ∃ σ' H', Inv X pins σ' H' s' ∧ W n σ' H') ?_ m0 ⟨σ, H, I, w0⟩)
  rintro n s1 ⟨σ1, H1, I1, w1⟩
  refine wpAny_passesOwn hp (thn (hc pins s1 σ1 H1 _ I1 (turn n σ1 H1 w1)) fun b s2 ⟨H2, I2, q2⟩ => ?_)
  cases b with
  | true =>
    obtain ⟨N, hN, q2⟩ := q2
    rw [if_pos rfl]
    refine wpAny_passesOwn hp (thn (hb pins s2 σ1 H2 _ I2 q2) fun f s3 q3 => ?_)
    cases f with
    | next =>
      obtain ⟨σ3, H3, I3, n3⟩ := q3
      obtain ⟨m', hm, w3⟩ := hN σ3 H3 n3
      exact ⟨m', hm, σ3, H3, I3, w3⟩
    | cont =>
      obtain ⟨σ3, H3, I3, n3⟩ := q3
      obtain ⟨m', hm, w3⟩ := hN σ3 H3 n3
      exact ⟨m', hm, σ3, H3, I3, w3⟩
    | brk => exact q3
    | ret v => exact q3
  | false =>
    rw [if_neg Bool.false_ne_true]
    exact wpAny_execs_nil ⟨σ1, H2, I2, q2⟩
end

/-! ### what a loop or a comprehension walks -/
/-- at turn i: it yields x (the heap may grow), or it stops -/
structure It where
  go : Nat → Hp → Prop
  yld : Nat → Hp → V → Hp → Prop
  stop : Nat → Hp → Prop
/-- the iterator's own objects may turn: they are not the frame's, not pinned, younger than the entry (or a comprehension's own) -/
def FpOk (X : Cx) (pins : List (Addr × Obj)) (H : Hp) (b : Addr) : Prop :=
  H b = none ∧ b ≠ X.env.locals ∧ b ∉ X.fs ∧ (b ∈ X.ex ∨ X.s₀.heap.objs.size ≤ b) ∧ (∀ x c, X.env.cells.lookup x = some c → c ≠ b) ∧ ∀ p ∈ X.pn ++ pins, p.1 ≠ b
theorem Inv.fpOk {X : Cx} {pins : List (Addr × Obj)} {σ : St} {H H' : Hp} {s : Shared} {b : Addr} (I : Inv X pins σ H s) (hb : s.heap.objs.size ≤ b) (hn : H' b = none) : FpOk X pins H' b := by
  refine ⟨hn, Nat.ne_of_gt (Nat.lt_of_lt_of_le I.lt hb), I.nofs hb, .inr (Nat.le_trans I.sz hb), fun x c e z => ?_, fun p hp z => ?_⟩
  · obtain ⟨v, q⟩ := I.cell x c e
    exact absurd (Nat.lt_of_lt_of_le q.lt (by rw [z]; exact hb)) (Nat.lt_irrefl _)
  · exact absurd (Nat.lt_of_lt_of_le (Heap.lt_size (I.pin p hp).1) (by rw [z]; exact hb)) (Nat.lt_irrefl _)
structure Turn (P : Program) (w : World) (K : PySem.W.Frag) (tg : Expr) (J : It) (fp : List Addr) (it : Addr) (tn : Nat → Heap → Prop) : Prop where
  mem : it ∈ fp
  obj : ∀ i h, tn i h → ∀ b ∈ fp, ∃ o, h.get? b = some o ∧ ∀ v, o.data ≠ .cell v
  keep : ∀ i h h', tn i h → (∀ b ∈ fp, ∀ o, h.get? b = some o → h'.get? b = some o) → tn i h'
  item : ∀ (X : Cx), X.prog = P → X.w = w → X.K = K → X.calm = true → ∀ (i : Nat) (pins : List (Addr × Obj)) (s : Shared) (σ : St) (H : Hp) (E : Value → Shared → Prop), Inv X pins σ H s → (∀ b ∈ fp, FpOk X pins H b) → tn i s.heap → J.go i H →
    wpAny (model P w) X.A (pyNext (.ref it)) (fun r s1 => ∃ u, r = some u ∧
      wpAny (model P w) X.A (letOwnedTupleGo tg (.ref it) u) (fun _ s2 => ∃ x H', Inv X pins σ H' s2 ∧ RelV x u ∧ J.yld i H x H' ∧ tn (i + 1) s2.heap ∧ ∀ b ∈ fp, H' b = none) E s1) E s
  done : ∀ (X : Cx), X.prog = P → X.w = w → X.K = K → X.calm = true → ∀ (i : Nat) (pins : List (Addr × Obj)) (s : Shared) (σ : St) (H : Hp) (E : Value → Shared → Prop), Inv X pins σ H s → (∀ b ∈ fp, FpOk X pins H b) → tn i s.heap → J.stop i H →
    wpAny (model P w) X.A (pyNext (.ref it)) (fun r s1 => r = none ∧ Inv X pins σ H s1) E s
  self : ∀ (A : Around) (i : Nat) (s : Shared) (Q : Value → Shared → Prop) (E : Value → Shared → Prop), tn i s.heap → Q (.ref it) s → wpAny (model P w) A (pyIter (.ref it)) Q E s
abbrev TI := St → Hp → (It → Hp → Prop) → Prop
/-- an iterator has come -/
def PIE (X : Cx) (pins : List (Addr × Obj)) (σ : St) (tg : Expr) (R : It → Hp → Prop) (itv : Value) (s2 : Shared) : Prop :=
  ∃ (it : Addr) (fp : List Addr) (tn : Nat → Heap → Prop) (J : It) (H' : Hp), itv = .ref it ∧ Inv X pins σ H' s2 ∧ Turn X.prog X.w X.K tg J fp it tn ∧ tn 0 s2.heap ∧ (∀ b ∈ fp, FpOk X pins H' b) ∧ R J H'
def PI (X : Cx) (tg iter : Expr) (wi : TI) : Prop :=
  ∀ (pins : List (Addr × Obj)) (s : Shared) (σ : St) (H : Hp) (R : It → Hp → Prop), Inv X pins σ H s → wi σ H R →
    wpAny (model X.prog X.w) X.A (eval iter X.env) (fun v s1 => wpAny (model X.prog X.w) X.A (pyIter v) (PIE X pins σ tg R) X.xe s1) X.xe s

/-- the step ahead of the store is nothing for an iterator that keeps no tuple -/
theorem go_of {M : Model} {A : Around} {E : Value → Shared → Prop} {s : Shared} {tg : Expr} {it : Addr} {u : Value} {o : Obj} {n : String} {vs : Array Value} {Q : Unit → Shared → Prop} (ho : s.heap.get? it = some o) (hc : o.cls = .type n) (hd : o.data = .fields vs)
    (hn : ["enumerate", "zip", "dict_itemiterator", "dict_reverseitemiterator", "odict_iterator", "itertools.zip_longest", "itertools.pairwise"].contains n = false) (hQ : Q () s) : wpAny M A (letOwnedTupleGo tg (.ref it) u) Q E s := by
  unfold letOwnedTupleGo
  cases tg <;> first
    | exact wpAny_pure hQ
    | (cases u <;> first
        | exact wpAny_pure hQ
        | (refine wpAny_bind (wpAny_load ho ?_)
           rw [hc, hd]
           show wpAny M A (if (["enumerate", "zip", "dict_itemiterator", "dict_reverseitemiterator", "odict_iterator", "itertools.zip_longest", "itertools.pairwise"].contains n && vs[0]? == some (rawInt _)) = true then _ else _) Q E s
           rw [if_neg (by intro h; rw [hn, Bool.false_and] at h; cases h)]
           exact wpAny_pure hQ))

/-- the list at a, as it stands at each turn (a loop may append to it) -/
def Itl (K : PySem.W.Frag) (a : Addr) : It :=
  ⟨fun i H => ∃ xs x, SqL K H a xs ∧ xs[i]? = some x, fun i H x H' => H' = H ∧ ∀ xs, SqL K H a xs → xs[i]? = some x, fun i H => ∃ xs, SqL K H a xs ∧ xs.length ≤ i⟩
def Itt (K : PySem.W.Frag) (a : Addr) : It :=
  ⟨fun i H => ∃ xs x, SqT K H a xs ∧ xs[i]? = some x, fun i H x H' => H' = H ∧ ∀ xs, SqT K H a xs → xs[i]? = some x, fun i H => ∃ xs, SqT K H a xs ∧ xs.length ≤ i⟩
/-- lo, lo + 1, .. (n of them) -/
def Itr (lo : Int) (n : Nat) : It := ⟨fun i _ => i < n, fun i H x H' => H' = H ∧ x = .int (lo + i), fun i _ => n ≤ i⟩
theorem turn_list {P : Program} {w : World} {K : PySem.W.Frag} {tg : Expr} (a it : Addr) : Turn P w K tg (Itl K a) [it] it (fun i h => h.IsListIter it a i) where
  mem := by simp
  obj := fun i h st b hb => by
    have e : b = it := by simpa using hb
    subst e
    obtain ⟨o, e, c, d⟩ := st
    exact ⟨o, e, fun v z => by rw [d] at z; cases z⟩
  keep := fun i h h' st k => st.at fun o e => k it (by simp) o e
  item := by
    intro X hP hw hK hc i pins s σ H E I hf st hg
    subst hP hw hK
    obtain ⟨xs, x, hq, hx⟩ := hg
    obtain ⟨its, rv, p, hz⟩ := I.list hq
    obtain ⟨u, hu, ru⟩ := rv.get hx
    obtain ⟨f0, f1, f2, f3, f4, f5⟩ := hf it (by simp)
    refine wpAny_pyNext_list_item st p.isList (x := u) (by simpa using hu) fun h' st' sb => ?_
    have I1 : Inv X pins σ H { s with heap := h' } := I.turned (t' := s.toks) (fun b o hb e => (sb.2 b hb).trans e) f0 f1 f3 f4 f5
    obtain ⟨o, e, c, d⟩ := id st'
    exact ⟨u, rfl, go_of (s := { s with heap := h' }) e c d (by decide) ⟨x, H, I1, ru, ⟨rfl, fun ys hy => by rw [I.list_inj hy hq]; exact hx⟩, st', fun b hb => (hf b hb).1⟩⟩
  done := by
    intro X hP hw hK hc i pins s σ H E I hf st hg
    subst hP hw hK
    obtain ⟨xs, hq, hx⟩ := hg
    obtain ⟨its, rv, p, hz⟩ := I.list hq
    obtain ⟨f0, f1, f2, f3, f4, f5⟩ := hf it (by simp)
    have hl := rv.length
    exact wpAny_pyNext_list_end (I.ok.hd hc) st p.isList (by simp; omega) fun h' eb => ⟨rfl, I.turned (t' := s.toks) (fun b o hb e => eb b o hb e) f0 f1 f3 f4 f5⟩
  self := fun _ _ _ _ _ st h => wpAny_pyIter_listiter st h
theorem turn_tuple {P : Program} {w : World} {K : PySem.W.Frag} {tg : Expr} (a it : Addr) : Turn P w K tg (Itt K a) [it] it (fun i h => h.IsTupleIter it a i) where
  mem := by simp
  obj := fun i h st b hb => by
    have e : b = it := by simpa using hb
    subst e
    obtain ⟨o, e, c, d⟩ := st
    exact ⟨o, e, fun v z => by rw [d] at z; cases z⟩
  keep := fun i h h' st k => st.at fun o e => k it (by simp) o e
  item := by
    intro X hP hw hK hc i pins s σ H E I hf st hg
    subst hP hw hK
    obtain ⟨xs, x, hq, hx⟩ := hg
    obtain ⟨its, rv, p, hz⟩ := I.tuple hq
    obtain ⟨u, hu, ru⟩ := rv.get hx
    obtain ⟨f0, f1, f2, f3, f4, f5⟩ := hf it (by simp)
    refine wpAny_pyNext_tuple_item st (show s.heap.IsTuple a its.toArray from p) (x := u) (by simpa using hu) fun h' st' sb => ?_
    have I1 : Inv X pins σ H { s with heap := h' } := I.turned (t' := s.toks) (fun b o hb e => (sb.2 b hb).trans e) f0 f1 f3 f4 f5
    obtain ⟨o, e, c, d⟩ := id st'
    exact ⟨u, rfl, go_of (s := { s with heap := h' }) e c d (by decide) ⟨x, H, I1, ru, ⟨rfl, fun ys hy => by rw [I.tuple_inj hy hq]; exact hx⟩, st', fun b hb => (hf b hb).1⟩⟩
  done := by
    intro X hP hw hK hc i pins s σ H E I hf st hg
    subst hP hw hK
    obtain ⟨xs, hq, hx⟩ := hg
    obtain ⟨its, rv, p, hz⟩ := I.tuple hq
    obtain ⟨f0, f1, f2, f3, f4, f5⟩ := hf it (by simp)
    have hl := rv.length
    exact wpAny_pyNext_tuple_end (I.ok.hd hc) st (show s.heap.IsTuple a its.toArray from p) (by simp; omega) fun h' eb => ⟨rfl, I.turned (t' := s.toks) (fun b o hb e => eb b o hb e) f0 f1 f3 f4 f5⟩
  self := fun _ _ _ _ _ st h => wpAny_pyIter_tupleiter st h
theorem turn_range {P : Program} {w : World} {K : PySem.W.Frag} {tg : Expr} (it : Addr) (lo : Int) (n : Nat) : Turn P w K tg (Itr lo n) [it] it (fun i h => IsRangeIter h it (lo + (i : Nat) * 1) ((n : Int) - (i : Nat)) 1) where
  mem := by simp
  obj := fun i h st b hb => by
    have e : b = it := by simpa using hb
    subst e
    exact ⟨_, st, fun v z => by
      have z' : Data.fields _ = Data.cell v := z
      cases z'⟩
  keep := fun i h h' st k => k it (by simp) _ st
  item := by
    intro X hP hw hK hc i pins s σ H E I hf st hg
    subst hP hw hK
    obtain ⟨f0, f1, f2, f3, f4, f5⟩ := hf it (by simp)
    have W := Walks.range (prog := X.prog) (w := X.w) (I.ok.hd hc) it lo 1 n
    refine wpAny_with_toks (n := 1) I.tk (W.item i s _ _ hg st fun v h' tk hv st' kk htk => ?_)
    obtain ⟨t, rfl⟩ := hv
    have htk : 0 < tk := htk
    have I1 : Inv X pins σ H { s with heap := h', toks := tk } := I.turned (fun b o hb e => kk b o (by simpa using hb) e) f0 f1 f3 f4 f5
    refine ⟨_, rfl, go_of (s := { s with heap := h', toks := tk }) (n := "range_iterator") st' rfl rfl (by decide) ⟨.int (lo + i), H, I1, ⟨t, ?_⟩, ⟨rfl, rfl⟩, st', fun b hb => (hf b hb).1⟩⟩
    rw [Int.mul_one]
  done := by
    intro X hP hw hK hc i pins s σ H E I hf st hg
    subst hP hw hK
    obtain ⟨f0, f1, f2, f3, f4, f5⟩ := hf it (by simp)
    exact wpAny_pyNext_range_end (I.ok.hd hc) st (by have : n ≤ i := hg; omega) fun h' eb => ⟨rfl, I.turned (t' := s.toks) (fun b o hb e => eb b o hb e) f0 f1 f3 f4 f5⟩
  self := fun _ _ _ _ _ st h => wpAny_pyIter_rangeiter st h
end L2

namespace L2
open PySem PySem.Spec PyProof.Rows
section
variable {X : Cx} {tg : Expr}
def iList (K : PySem.W.Frag) (tl : TE) : TI := fun σ H R => tl σ H fun x H1 => ∃ a, x = .ref a ∧ (∃ xs, SqL K H1 a xs) ∧ R (Itl K a) H1
def iTup (K : PySem.W.Frag) (tl : TE) : TI := fun σ H R => tl σ H fun x H1 => ∃ a, x = .ref a ∧ (∃ xs, SqT K H1 a xs) ∧ R (Itt K a) H1
theorem pi_list {l : Expr} {tl : TE} (hl : PE X l tl) : PI X tg l (iList X.K tl) := by
  intro pins s σ H R I h
  refine thn (hl pins s σ H _ I h) fun v s1 ⟨x, H1, I1, r1, q1⟩ => ?_
  obtain ⟨a, e, ⟨xs, hq⟩, q⟩ := q1
  subst e
  cases r1
  obtain ⟨its, rv, p, hz⟩ := I1.list hq
  refine wpAny_pyIter_list p.isList ?_
  refine ⟨s1.heap.objs.size, [s1.heap.objs.size], _, _, H1, rfl, I1.kept (t' := s1.toks) fun b o e => Heap.get?_push_of_some _ e, turn_list a _, ⟨_, Heap.get?_push_size _ rfl, rfl, rfl⟩, fun b hb => ?_, q⟩
  have e : b = s1.heap.objs.size := by simpa using hb
  subst e
  exact I1.fpOk (Nat.le_refl _) (I1.hok.fresh (Nat.le_refl _))
theorem pi_tup {l : Expr} {tl : TE} (hl : PE X l tl) : PI X tg l (iTup X.K tl) := by
  intro pins s σ H R I h
  refine thn (hl pins s σ H _ I h) fun v s1 ⟨x, H1, I1, r1, q1⟩ => ?_
  obtain ⟨a, e, ⟨xs, hq⟩, q⟩ := q1
  subst e
  cases r1
  obtain ⟨its, rv, p, hz⟩ := I1.tuple hq
  refine wpAny_pyIter_tuple (show s1.heap.IsTuple a its.toArray from p) ?_
  refine ⟨s1.heap.objs.size, [s1.heap.objs.size], _, _, H1, rfl, I1.kept (t' := s1.toks) fun b o e => Heap.get?_push_of_some _ e, turn_tuple a _, ⟨_, Heap.get?_push_size _ rfl, rfl, rfl⟩, fun b hb => ?_, q⟩
  have e : b = s1.heap.objs.size := by simpa using hb
  subst e
  exact I1.fpOk (Nat.le_refl _) (I1.hok.fresh (Nat.le_refl _))
/-- a range object just made, walked -/
theorem range_it {pins : List (Addr × Obj)} {σ : St} {H : Hp} {s : Shared} {R : It → Hp → Prop} {E : Value → Shared → Prop} {lo hi : Int} {t u v : Tok} {tk : Nat} (htk : 0 < tk) (I : Inv X pins σ H s) (h1 : -(2 ^ 62) ≤ lo) (h2 : lo < 2 ^ 62) (h3 : -(2 ^ 62) ≤ hi) (h4 : hi < 2 ^ 62)
    (q : R (Itr lo (hi - lo).toNat) H) : wpAny (model X.prog X.w) X.A (pyIter (.ref s.heap.objs.size)) (PIE X pins σ tg R) E { s with heap := s.heap.push { cls := .type "range", data := .fields #[.int lo t, .int hi u, .int 1 v] }, toks := tk } := by
  refine wpAny_pyIter_range (IsRange.new ..) (small_one h1 h2 h3 h4) ?_
  have I1 : Inv X pins σ H { s with heap := s.heap.push { cls := .type "range", data := .fields #[.int lo t, .int hi u, .int 1 v] }, toks := tk } := I.kept fun b o e => Heap.get?_push_of_some _ e
  refine ⟨(s.heap.push { cls := .type "range", data := .fields #[.int lo t, .int hi u, .int 1 v] }).objs.size, [(s.heap.push { cls := .type "range", data := .fields #[.int lo t, .int hi u, .int 1 v] }).objs.size], _, _, H, rfl,
    I1.kept (t' := tk) fun b o e => Heap.get?_push_of_some _ e, turn_range _ lo (hi - lo).toNat, ?_, fun b hb => ?_, q⟩
  · have e1 : lo + ((0 : Nat) : Int) * 1 = lo := by simp
    have e2 : (((hi - lo).toNat : Nat) : Int) - ((0 : Nat) : Int) = Builtin.Range.rangeSize lo hi 1 := by rw [rangeSize_one]; split <;> omega
    show IsRangeIter _ _ (lo + ((0 : Nat) : Int) * 1) ((((hi - lo).toNat : Nat) : Int) - ((0 : Nat) : Int)) 1
    rw [e1, e2]
    exact Heap.get?_push_size _ rfl
  · have e : b = (s.heap.push { cls := .type "range", data := .fields #[.int lo t, .int hi u, .int 1 v] }).objs.size := by simpa using hb
    subst e
    exact I1.fpOk (Nat.le_refl _) (I1.hok.fresh (Nat.le_refl _))
def iRng1 (ta : TA) : TI := fun σ H R => ta σ H fun vs H1 => ∃ j : Int, vs = [.int j] ∧ -(2 ^ 62) ≤ j ∧ j < 2 ^ 62 ∧ R (Itr 0 j.toNat) H1
theorem pi_range1 {a : Expr} {ta : TA} {p pos : Pos} (hg : Gl X "range") (hm : X.mg "range" = none) (ha : PA X [a] ta) (hs : starEach [a] X.env = [(false, eval a X.env)] := by rfl) : PI X tg (.Call (.Name "range" p) [a] [] pos) (iRng1 ta) := by
  intro pins s σ H R I h
  refine Call_ (ld_blt I hg hm boot_range (PyProof.Rows.callWith_type1 (thn (ha pos pins s σ H _ I h) fun us s1 ⟨vs, H1, I1, r1, q1⟩ => ?_) hs rfl))
  obtain ⟨j, e, q1, q2, q⟩ := q1
  subst e
  cases r1 with
  | cons r rr =>
    cases rr
    obtain ⟨t, rfl⟩ := r
    exact call_range_1 (range_it (by first | exact I1.tk | exact Nat.succ_pos _) I1 (by omega) (by omega) q1 q2 (by simpa using q))

/-! ### for -/
/-- W: the invariant by the turn and a measure; N: what the body is to reach -/
def tFor (wi : TI) (g : TG) (tb : TS) : TS := fun D σ H => wi σ H fun J H1 => ∃ W : Nat → Nat → St → Hp → Prop, (∃ m, W 0 m σ H1) ∧ ∀ i m σ H, W i m σ H →
  (J.stop i H ∧ D.nx σ H) ∨ (J.go i H ∧ ∃ N : St → Hp → Prop, (∀ σ' H', N σ' H' → ∃ m', m' < m ∧ W (i + 1) m' σ' H') ∧ ∀ x H', J.yld i H x H' → g x σ H' fun σ2 H2 => tb { D with nx := N, ct := N, bk := D.nx } σ2 H2)
/-- the records at fp as they stand -/
def pinsAt (fp : List Addr) (h : Heap) : List (Addr × Obj) := fp.filterMap fun b => (h.get? b).map fun o => (b, o)
theorem mem_pinsAt {fp : List Addr} {h : Heap} {b : Addr} {o : Obj} (hb : b ∈ fp) (e : h.get? b = some o) : (b, o) ∈ pinsAt fp h := List.mem_filterMap.mpr ⟨b, hb, by rw [e]; rfl⟩
theorem of_pinsAt {fp : List Addr} {h : Heap} {p : Addr × Obj} (hp : p ∈ pinsAt fp h) : p.1 ∈ fp ∧ h.get? p.1 = some p.2 := by
  obtain ⟨b, hb, e⟩ := List.mem_filterMap.mp hp
  cases q : h.get? b with
  | none => rw [q] at e; cases e
  | some o =>
    rw [q] at e
    have e' : (b, o) = p := Option.some.inj e
    subst e'
    exact ⟨hb, q⟩
theorem Inv.pinned {pins : List (Addr × Obj)} {σ : St} {H : Hp} {s : Shared} {fp : List Addr} (I : Inv X pins σ H s) (hf : ∀ b ∈ fp, FpOk X pins H b) (ho : ∀ b ∈ fp, ∃ o, s.heap.get? b = some o ∧ ∀ v, o.data ≠ .cell v) : Inv X (pins ++ pinsAt fp s.heap) σ H s :=
  I.pins_of fun p hp => (List.mem_append.mp hp).elim (fun z => I.pin p (List.mem_append_right _ z)) fun z => by
    obtain ⟨hb, e⟩ := of_pinsAt z
    obtain ⟨f0, f1, f2, _⟩ := hf p.1 hb
    obtain ⟨o, e', d⟩ := ho p.1 hb
    rw [e] at e'; cases e'
    exact ⟨e, f0, f1, f2, d⟩
theorem Inv.unpinned {pins pl : List (Addr × Obj)} {σ : St} {H : Hp} {s : Shared} (I : Inv X (pins ++ pl) σ H s) : Inv X pins σ H s := I.pins_of fun p hp => I.pin p (List.mem_append_right _ (List.mem_append_left _ hp))
theorem ps_for {iter : Expr} {body : List Stmt} {wi : TI} {g : TG} {tb : TS} {pos : Pos} (hp : PassesOwn (model X.prog X.w) X.A X.env X.xe) (hc : X.calm = true) (hi : PI X tg iter wi) (hg : PG X tg g) (hb : PSs X body tb)
    (hs : ∀ x, foldedSetIterable iter X.env x = pure x := by intro _; rfl) : PS X (.For tg iter body [] pos) (tFor wi g tb) := by
  intro pins s σ H D I h
  refine wpAny_For (thn (hi pins s σ H _ I h) fun v s1 h1 => thn h1 fun itv s2 h2 => ?_) hs
  obtain ⟨it, fp, tn, J, H2, e, I2, T, st2, f2, W, ⟨m0, w0⟩, turn⟩ := h2
  subst e
  -- what stays true of the iterator's objects through the loop
  have stat : ∀ {H' : Hp}, (∀ b ∈ fp, H' b = none) → ∀ b ∈ fp, FpOk X pins H' b := fun hn b hb => ⟨hn b hb, (f2 b hb).2⟩
  refine codeAny_forLoop_any (fun n s' => ∃ i σ' H', Inv X pins σ' H' s' ∧ tn i s'.heap ∧ (∀ b ∈ fp, H' b = none) ∧ W i n σ' H') ?_ m0 ⟨0, σ, H2, I2, st2, fun b hb => (f2 b hb).1, w0⟩
  rintro n s3 ⟨i, σ3, H3, I3, st3, fr3, w3⟩
  rcases turn i n σ3 H3 w3 with ⟨stop, qn⟩ | ⟨go, N, hN, step⟩
  · refine wpAny_passesOwn hp (thn (T.done X rfl rfl rfl hc i pins s3 σ3 H3 X.xe I3 (stat fr3) st3 stop) fun r s4 ⟨hr, I4⟩ => ?_)
    subst hr
    exact wpAny_execs_nil ⟨σ3, H3, I4, qn⟩
  · refine wpAny_passesOwn hp (thn (T.item X rfl rfl rfl hc i pins s3 σ3 H3 X.xe I3 (stat fr3) st3 go) fun r s4 ⟨u, hr, h4⟩ => ?_)
    subst hr
    refine wpAny_passesOwn hp (thn h4 fun _ s5 ⟨x, H5, I5, r5, y5, st5, fr5⟩ => ?_)
    have I5' := I5.pinned (stat fr5) (T.obj _ _ st5)
    refine wpAny_passesOwn hp (thn (hg _ s5 σ3 H5 x u _ I5' r5 (step x H5 y5)) fun _ s6 ⟨σ6, H6, I6, q6⟩ => ?_)
    refine wpAny_passesOwn hp (thn (hb _ s6 σ6 H6 _ I6 q6) fun f s7 q7 => ?_)
    have again : ∀ {σ7 : St} {H7 : Hp}, Inv X (pins ++ pinsAt fp s5.heap) σ7 H7 s7 → N σ7 H7 → ∃ m, m < n ∧ ∃ i σ' H', Inv X pins σ' H' s7 ∧ tn i s7.heap ∧ (∀ b ∈ fp, H' b = none) ∧ W i m σ' H' := fun {σ7 H7} I7 n7 => by
      obtain ⟨m', hm, w7⟩ := hN σ7 H7 n7
      refine ⟨m', hm, i + 1, σ7, H7, I7.unpinned, T.keep _ _ _ st5 fun b hb o e => (I7.pin (b, o) (List.mem_append_right _ (List.mem_append_right _ (mem_pinsAt hb e)))).1, fun b hb => ?_, w7⟩
      obtain ⟨o, e, d⟩ := T.obj _ _ st5 b hb
      exact (I7.pin (b, o) (List.mem_append_right _ (List.mem_append_right _ (mem_pinsAt hb e)))).2.1
    cases f with
    | next => obtain ⟨σ7, H7, I7, n7⟩ := q7; exact again I7 n7
    | cont => obtain ⟨σ7, H7, I7, n7⟩ := q7; exact again I7 n7
    | brk => obtain ⟨σ7, H7, I7, q7⟩ := q7; exact ⟨σ7, H7, I7.unpinned, q7⟩
    | ret v => obtain ⟨x7, σ7, H7, I7, r7, q7⟩ := q7; exact ⟨x7, σ7, H7, I7.unpinned, r7, q7⟩
end

/-! ### the forms one uses -/
/-- over a list that the body leaves as it is -/
theorem for_list {K : PySem.W.Frag} {a : Addr} {xs : List V} {g : TG} {tb : TS} {D : Ends} {σ : St} {H : Hp} (Pv : Nat → St → Hp → Prop) (h0 : Pv 0 σ H) (hl : ∀ i σ H, i ≤ xs.length → Pv i σ H → SqL K H a xs)
    (hs : ∀ i x σ H, xs[i]? = some x → Pv i σ H → g x σ H fun σ2 H2 => tb { D with nx := Pv (i + 1), ct := Pv (i + 1), bk := D.nx } σ2 H2) (hd : ∀ σ H, Pv xs.length σ H → D.nx σ H) :
    ∃ W : Nat → Nat → St → Hp → Prop, (∃ m, W 0 m σ H) ∧ ∀ i m σ H, W i m σ H →
      ((Itl K a).stop i H ∧ D.nx σ H) ∨ ((Itl K a).go i H ∧ ∃ N : St → Hp → Prop, (∀ σ' H', N σ' H' → ∃ m', m' < m ∧ W (i + 1) m' σ' H') ∧ ∀ x H', (Itl K a).yld i H x H' → g x σ H' fun σ2 H2 => tb { D with nx := N, ct := N, bk := D.nx } σ2 H2) := by
  refine ⟨fun i m σ H => m = xs.length - i ∧ i ≤ xs.length ∧ Pv i σ H, ⟨xs.length, by simp, Nat.zero_le _, h0⟩, ?_⟩
  rintro i m σ H ⟨rfl, hi, p⟩
  have q := hl i σ H hi p
  by_cases hlt : i < xs.length
  · refine .inr ⟨⟨xs, xs[i], q, by simp [hlt]⟩, Pv (i + 1), fun σ' H' p' => ⟨xs.length - (i + 1), by omega, rfl, hlt, p'⟩, fun x H' y => ?_⟩
    obtain ⟨e, y⟩ := y
    subst e
    exact hs i x σ _ (y xs q) p
  · have e : i = xs.length := by omega
    subst e
    exact .inl ⟨⟨xs, q, Nat.le_refl _⟩, hd σ H p⟩
theorem for_range {lo : Int} {n : Nat} {g : TG} {tb : TS} {D : Ends} {σ : St} {H : Hp} (Pv : Nat → St → Hp → Prop) (h0 : Pv 0 σ H)
    (hs : ∀ i σ H, i < n → Pv i σ H → g (.int (lo + i)) σ H fun σ2 H2 => tb { D with nx := Pv (i + 1), ct := Pv (i + 1), bk := D.nx } σ2 H2) (hd : ∀ σ H, Pv n σ H → D.nx σ H) :
    ∃ W : Nat → Nat → St → Hp → Prop, (∃ m, W 0 m σ H) ∧ ∀ i m σ H, W i m σ H →
      ((Itr lo n).stop i H ∧ D.nx σ H) ∨ ((Itr lo n).go i H ∧ ∃ N : St → Hp → Prop, (∀ σ' H', N σ' H' → ∃ m', m' < m ∧ W (i + 1) m' σ' H') ∧ ∀ x H', (Itr lo n).yld i H x H' → g x σ H' fun σ2 H2 => tb { D with nx := N, ct := N, bk := D.nx } σ2 H2) := by
  refine ⟨fun i m σ H => m = n - i ∧ i ≤ n ∧ Pv i σ H, ⟨n, by simp, Nat.zero_le _, h0⟩, ?_⟩
  rintro i m σ H ⟨rfl, hi, p⟩
  by_cases hlt : i < n
  · refine .inr ⟨hlt, Pv (i + 1), fun σ' H' p' => ⟨n - (i + 1), by omega, rfl, hlt, p'⟩, fun x H' y => ?_⟩
    obtain ⟨e, y⟩ := y
    subst e y
    exact hs i σ _ hlt p
  · have e : i = n := by omega
    subst e
    exact .inl ⟨Nat.le_refl _, hd σ H p⟩
end L2

namespace L2
open PySem PySem.Spec PyProof.Rows

abbrev R2 := V → V → Hp → VK → Prop
/-- a two-place operation on values: f is binaryOp op, inplaceOp op or compareOp op -/
def OpR (X : Cx) (f : Value → Value → Sem Value) (r : R2) : Prop :=
  ∀ (pins : List (Addr × Obj)) (s : Shared) (σ : St) (H : Hp) (x y : V) (v u : Value) (Q : VK), Inv X pins σ H s → RelV x v → RelV y u → r x y H Q →
    wpAny (model X.prog X.w) X.A (f v u) (EP X pins σ Q) X.xe s
/-- a one-place operation -/
def UnR (X : Cx) (f : Value → Sem Value) (r : V → Hp → VK → Prop) : Prop :=
  ∀ (pins : List (Addr × Obj)) (s : Shared) (σ : St) (H : Hp) (x : V) (v : Value) (Q : VK), Inv X pins σ H s → RelV x v → r x H Q →
    wpAny (model X.prog X.w) X.A (f v) (EP X pins σ Q) X.xe s
/-- a call of a value that is known (a builtin, a type) with values -/
def CallR (X : Cx) (f : Value) (r : List V → Hp → VK → Prop) : Prop :=
  ∀ (pins : List (Addr × Obj)) (s : Shared) (σ : St) (H : Hp) (xs : List V) (us : List Value) (Q : VK), Inv X pins σ H s → Vals xs us → r xs H Q →
    wpAny (model X.prog X.w) X.A (call f us) (EP X pins σ Q) X.xe s

def tOp (r : R2) (ta tb : TE) : TE := fun σ H Q => ta σ H fun x H1 => tb σ H1 fun y H2 => r x y H2 Q
def tUn (r : V → Hp → VK → Prop) (ta : TE) : TE := fun σ H Q => ta σ H fun x H1 => r x H1 Q
/-- ints in, under C, and a value out -/
def rI (C : Int → Int → Prop) (g : Int → Int → V) : R2 := fun x y H Q => ∃ i j, x = .int i ∧ y = .int j ∧ C i j ∧ Q (g i j) H
def rI0 (g : Int → Int → V) : R2 := fun x y H Q => ∃ i j, x = .int i ∧ y = .int j ∧ Q (g i j) H
def rU (g : Int → V) : V → Hp → VK → Prop := fun x H Q => ∃ i, x = .int i ∧ Q (g i) H

section
variable {X : Cx} {a b c : Expr} {ta tb tc : TE} {pos : Pos}

theorem binT (ha : PE X a ta) (hb : PE X b tb) {pins : List (Addr × Obj)} {s : Shared} {σ : St} {H : Hp} {R : V → V → Hp → Prop} (I : Inv X pins σ H s)
    (h : ta σ H fun x H1 => tb σ H1 fun y H2 => R x y H2) {Q : Value → Shared → Prop} {f : Value → Value → Sem Value}
    (hf : ∀ v u s2 x y H2, Inv X pins σ H2 s2 → RelV x v → RelV y u → R x y H2 → wpAny (model X.prog X.w) X.A (f v u) Q X.xe s2) :
    wpAny (model X.prog X.w) X.A (eval a X.env) (fun v s₁ => wpAny (model X.prog X.w) X.A (eval b X.env) (fun u s₂ => wpAny (model X.prog X.w) X.A (f v u) Q X.xe s₂) X.xe s₁) X.xe s := by
  refine thn (ha pins s σ H _ I h) fun v s1 ⟨x, H1, I1, r1, q1⟩ => ?_
  refine thn (hb pins s1 σ H1 _ I1 q1) fun u s2 ⟨y, H2, I2, r2, q2⟩ => ?_
  exact hf v u s2 x y H2 I2 r1 r2 q2

theorem pe_op {op : Operator} {r : R2} (ho : OpR X (binaryOp op) r) (ha : PE X a ta) (hb : PE X b tb) : PE X (.BinOp a op b pos) (tOp r ta tb) := by
  intro pins s σ H Q I h
  exact wpAny_BinOp (binT ha hb I h fun v u s2 x y H2 I2 rx ry q => ho pins s2 σ H2 x y v u Q I2 rx ry q)
theorem pe_un {op : UnaryOp} {r : V → Hp → VK → Prop} (ho : UnR X (unaryOp op) r) (ha : PE X a ta) : PE X (.UnaryOp op a pos) (tUn r ta) := by
  intro pins s σ H Q I h
  exact UnaryOp_ (thn (ha pins s σ H _ I h) fun v s1 ⟨x, H1, I1, r1, q1⟩ => ho pins s1 σ H1 x v Q I1 r1 q1)

/-! ### ints -/
theorem opI {f : Value → Value → Sem Value} {C : Int → Int → Prop} {g : Int → Int → Int}
    (rule : ∀ (i j : Int) (t u : Tok) (s : Shared) (Q : Value → Shared → Prop) (E : Value → Shared → Prop), C i j → Q (.int (g i j) s.toks) { s with toks := s.toks + 1 } → wpAny (model X.prog X.w) X.A (f (.int i t) (.int j u)) Q E s) :
    OpR X f (rI C fun i j => .int (g i j)) := by
  intro pins s σ H x y v u Q I rx ry h
  obtain ⟨i, j, rfl, rfl, hc, q⟩ := h
  obtain ⟨t, rfl⟩ := rx
  obtain ⟨t', rfl⟩ := ry
  exact rule i j t t' s _ _ hc ⟨.int (g i j), H, I.tok _, ⟨_, rfl⟩, q⟩
theorem opI0 {f : Value → Value → Sem Value} {g : Int → Int → Int}
    (rule : ∀ (i j : Int) (t u : Tok) (s : Shared) (Q : Value → Shared → Prop) (E : Value → Shared → Prop), Q (.int (g i j) s.toks) { s with toks := s.toks + 1 } → wpAny (model X.prog X.w) X.A (f (.int i t) (.int j u)) Q E s) :
    OpR X f (rI0 fun i j => .int (g i j)) := by
  intro pins s σ H x y v u Q I rx ry h
  obtain ⟨i, j, rfl, rfl, q⟩ := h
  obtain ⟨t, rfl⟩ := rx
  obtain ⟨t', rfl⟩ := ry
  exact rule i j t t' s _ _ ⟨.int (g i j), H, I.tok _, ⟨_, rfl⟩, q⟩
theorem opB0 {f : Value → Value → Sem Value} {g : Int → Int → Bool}
    (rule : ∀ (i j : Int) (t u : Tok) (s : Shared) (Q : Value → Shared → Prop) (E : Value → Shared → Prop), Q (.bool (g i j)) s → wpAny (model X.prog X.w) X.A (f (.int i t) (.int j u)) Q E s) :
    OpR X f (rI0 fun i j => .bl (g i j)) := by
  intro pins s σ H x y v u Q I rx ry h
  obtain ⟨i, j, rfl, rfl, q⟩ := h
  obtain ⟨t, rfl⟩ := rx
  obtain ⟨t', rfl⟩ := ry
  exact rule i j t t' s _ _ ⟨.bl (g i j), H, I, rfl, q⟩

def CDiv (i j : Int) : Prop := 0 < j ∧ j < 1073741824
def CMul (i j : Int) : Prop := (-(2 ^ 64) < i ∧ i < 2 ^ 64) ∨ (-(2 ^ 64) < j ∧ j < 2 ^ 64)
theorem CMul.ok {i j : Int} (h : CMul i j) : IntMulOk i j := by
  rcases h with ⟨h1, h2⟩ | ⟨h1, h2⟩
  · exact .of_left (intBits_le_64 h1 h2)
  · exact .of_right (intBits_le_64 h1 h2)

theorem op_add : OpR X (binaryOp .Add) (rI0 fun i j => .int (i + j)) := opI0 fun _ _ _ _ _ _ _ q => add_int q
theorem op_sub : OpR X (binaryOp .Sub) (rI0 fun i j => .int (i - j)) := opI0 fun _ _ _ _ _ _ _ q => sub_int q
theorem op_mul : OpR X (binaryOp .Mult) (rI CMul fun i j => .int (i * j)) := opI fun _ _ _ _ _ _ _ hc q => mul_int q hc.ok
/-- // by a positive divisor -/
theorem op_fdiv : OpR X (binaryOp .FloorDiv) (rI CDiv fun i j => .int (i / j)) := opI fun i j _ _ _ _ _ hc q => by
  have h1 : (0 : Int) < j := hc.1
  have h2 : j < 1073741824 := hc.2
  exact floordiv_int (by omega) (by rw [Int.fdiv_eq_ediv_of_nonneg i (by omega)]; exact q) (.inl (PyProof.noPylong_small (by omega)))
/-- % by a positive divisor of any size -/
theorem op_mod : OpR X (binaryOp .Mod) (rI (fun _ j => 0 < j) fun i j => .int (i % j)) := opI fun i j _ _ _ _ _ hc q => by
  have h1 : (0 : Int) < j := hc
  exact mod_int' (by omega) (by rw [Int.fmod_eq_emod_of_nonneg i (by omega)]; exact q)


theorem unI {f : Value → Sem Value} {g : Int → Int}
    (rule : ∀ (i : Int) (t : Tok) (s : Shared) (Q : Value → Shared → Prop) (E : Value → Shared → Prop), Q (.int (g i) s.toks) { s with toks := s.toks + 1 } → wpAny (model X.prog X.w) X.A (f (.int i t)) Q E s) :
    UnR X f (rU fun i => .int (g i)) := by
  intro pins s σ H x v Q I rx h
  obtain ⟨i, rfl, q⟩ := h
  obtain ⟨t, rfl⟩ := rx
  exact rule i t s _ _ ⟨.int (g i), H, I.tok _, ⟨_, rfl⟩, q⟩
theorem un_neg : UnR X (unaryOp .USub) (rU fun i => .int (-i)) := unI fun _ _ _ _ _ q => neg_int q

/-! ### bools among ints: n += (a < b) -/
end

/-! ### comparisons -/
/-- the scalars that == tells apart as data does -/
def scal : V → V → Bool
  | .non, .non => true | .non, .int _ => true | .int _, .non => true | .non, .bl _ => true | .bl _, .non => true | .non, .str _ => true | .str _, .non => true
  | .int _, .int _ => true | .bl _, .bl _ => true | .str _, .str _ => true | .byt _, .byt _ => true
  | .int _, .str _ => true | .str _, .int _ => true | .bl _, .str _ => true | .str _, .bl _ => true
  | _, _ => false
def rEq : R2 := fun x y H Q => scal x y = true ∧ Q (.bl (decide (x = y))) H
def rNe : R2 := fun x y H Q => scal x y = true ∧ Q (.bl (!decide (x = y))) H

theorem dec_int {i j : Int} : decide (V.int i = V.int j) = (i == j) := by
  rw [Bool.eq_iff_iff]
  simp
theorem dec_bl {i j : Bool} : decide (V.bl i = V.bl j) = (i == j) := by
  rw [Bool.eq_iff_iff]
  simp
theorem dec_str {i j : Str} : decide (V.str i = V.str j) = (i == j) := by
  rw [Bool.eq_iff_iff]
  simp
theorem dec_byt {i j : Array UInt8} : decide (V.byt i = V.byt j) = (i.toList == j.toList) := by
  rw [Bool.eq_iff_iff]
  cases i
  cases j
  simp

section
variable {X : Cx} {a b c : Expr} {ta tb tc : TE} {pos : Pos}
theorem fin_bl {pins : List (Addr × Obj)} {σ : St} {H : Hp} {s : Shared} {Q : VK} {k k' : Bool} (I : Inv X pins σ H s) (q : Q (.bl k) H) (e : k = k') : EP X pins σ Q (.bool k') s := by
  subst e
  exact ⟨.bl k, H, I, rfl, q⟩
theorem op_eq : OpR X (compareOp .Eq) rEq := by
  intro pins s σ H x y v u Q I rx ry h
  obtain ⟨hs, q⟩ := h
  cases x with
  | non =>
    cases rx
    cases y with
    | non => cases ry; exact PySem.EqNone.eq_none_none (fin_bl I q (by simp))
    | bl j => cases ry; exact PySem.EqNone.eq_none_bool (fin_bl I q (by simp))
    | int j => obtain ⟨t', rfl⟩ := ry; exact PySem.EqNone.eq_none_int (fin_bl I q (by simp))
    | str j => obtain ⟨t', rfl⟩ := ry; exact PySem.EqNone.eq_none_str (fin_bl I q (by simp))
    | _ => exact absurd (show false = true from hs) Bool.false_ne_true
  | bl i =>
    cases rx
    cases y with
    | non => cases ry; exact PySem.EqNone.eq_bool_none (fin_bl I q (by simp))
    | bl j => cases ry; exact eq_bool (fin_bl I q dec_bl)
    | str j => obtain ⟨t', rfl⟩ := ry; exact PySem.EqMixed.eq_bool_str (fin_bl I q (by simp))
    | _ => exact absurd (show false = true from hs) Bool.false_ne_true
  | int i =>
    obtain ⟨t, rfl⟩ := rx
    cases y with
    | non => cases ry; exact PySem.EqNone.eq_int_none (fin_bl I q (by simp))
    | int j => obtain ⟨t', rfl⟩ := ry; exact eq_int (fin_bl I q dec_int)
    | str j => obtain ⟨t', rfl⟩ := ry; exact PySem.EqMixed.eq_int_str (fin_bl I q (by simp))
    | _ => exact absurd (show false = true from hs) Bool.false_ne_true
  | str i =>
    obtain ⟨t, rfl⟩ := rx
    cases y with
    | non => cases ry; exact PySem.EqNone.eq_str_none (fin_bl I q (by simp))
    | bl j => cases ry; exact PySem.EqMixed.eq_str_bool (fin_bl I q (by simp))
    | int j => obtain ⟨t', rfl⟩ := ry; exact PySem.EqMixed.eq_str_int (fin_bl I q (by simp))
    | str j => obtain ⟨t', rfl⟩ := ry; exact eq_str (fin_bl I q dec_str)
    | _ => exact absurd (show false = true from hs) Bool.false_ne_true
  | byt i =>
    obtain ⟨t, rfl⟩ := rx
    cases y with
    | byt j => obtain ⟨t', rfl⟩ := ry; exact PySem.W.eq_bytes (fin_bl I q dec_byt)
    | _ => exact absurd (show false = true from hs) Bool.false_ne_true
  | _ => cases y <;> exact absurd (show false = true from hs) Bool.false_ne_true
theorem op_ne : OpR X (compareOp .NotEq) rNe := by
  intro pins s σ H x y v u Q I rx ry h
  obtain ⟨hs, q⟩ := h
  cases x with
  | non =>
    cases rx
    cases y with
    | non => cases ry; exact PySem.EqNone.ne_none_none (fin_bl I q (by simp))
    | bl j => cases ry; exact PySem.EqNone.ne_none_bool (fin_bl I q (by simp))
    | int j => obtain ⟨t', rfl⟩ := ry; exact PySem.EqNone.ne_none_int (fin_bl I q (by simp))
    | str j => obtain ⟨t', rfl⟩ := ry; exact PySem.EqNone.ne_none_str (fin_bl I q (by simp))
    | _ => exact absurd (show false = true from hs) Bool.false_ne_true
  | bl i =>
    cases rx
    cases y with
    | non => cases ry; exact PySem.EqNone.ne_bool_none (fin_bl I q (by simp))
    | bl j => cases ry; exact ne_bool (fin_bl I q (congrArg not dec_bl))
    | str j => obtain ⟨t', rfl⟩ := ry; exact PySem.EqMixed.ne_bool_str (fin_bl I q (by simp))
    | _ => exact absurd (show false = true from hs) Bool.false_ne_true
  | int i =>
    obtain ⟨t, rfl⟩ := rx
    cases y with
    | non => cases ry; exact PySem.EqNone.ne_int_none (fin_bl I q (by simp))
    | int j => obtain ⟨t', rfl⟩ := ry; exact ne_int (fin_bl I q (congrArg not dec_int))
    | str j => obtain ⟨t', rfl⟩ := ry; exact PySem.EqMixed.ne_int_str (fin_bl I q (by simp))
    | _ => exact absurd (show false = true from hs) Bool.false_ne_true
  | str i =>
    obtain ⟨t, rfl⟩ := rx
    cases y with
    | non => cases ry; exact PySem.EqNone.ne_str_none (fin_bl I q (by simp))
    | bl j => cases ry; exact PySem.EqMixed.ne_str_bool (fin_bl I q (by simp))
    | int j => obtain ⟨t', rfl⟩ := ry; exact PySem.EqMixed.ne_str_int (fin_bl I q (by simp))
    | str j => obtain ⟨t', rfl⟩ := ry; exact ne_str (fin_bl I q (congrArg not dec_str))
    | _ => exact absurd (show false = true from hs) Bool.false_ne_true
  | byt i =>
    obtain ⟨t, rfl⟩ := rx
    cases y with
    | byt j => obtain ⟨t', rfl⟩ := ry; exact PySem.W.ne_bytes (fin_bl I q (congrArg not dec_byt))
    | _ => exact absurd (show false = true from hs) Bool.false_ne_true
  | _ => cases y <;> exact absurd (show false = true from hs) Bool.false_ne_true

theorem op_lt : OpR X (compareOp .Lt) (rI0 fun i j => .bl (decide (i < j))) := opB0 fun _ _ _ _ _ _ _ q => lt_int q
theorem op_le : OpR X (compareOp .LtE) (rI0 fun i j => .bl (decide (i ≤ j))) := opB0 fun _ _ _ _ _ _ _ q => le_int q
theorem op_gt : OpR X (compareOp .Gt) (rI0 fun i j => .bl (decide (j < i))) := opB0 fun _ _ _ _ _ _ _ q => gt_int q
/-- the one string within the other -/
theorem op_in_str : OpR X (compareOp .In) (fun x y H Q => ∃ i j, x = .str i ∧ y = .str j ∧ Q (.bl (!(Builtin.Str.occurrences j i 0 j.length 1).isEmpty)) H) := by
  intro pins s σ H x y v u Q I rx ry h
  obtain ⟨i, j, rfl, rfl, q⟩ := h
  obtain ⟨t, rfl⟩ := rx
  obtain ⟨t', rfl⟩ := ry
  exact in_str (fin_bl I q rfl)

/-- is None, is not None: the right side a value none -/
theorem op_isN : OpR X (compareOp .Is) (fun x y H Q => y = .non ∧ Q (.bl (decide (x = .non))) H) := by
  intro pins s σ H x y v u Q I rx ry h
  obtain ⟨rfl, q⟩ := h
  cases ry
  refine is_none_gen (fin_bl I q ?_)
  cases x <;> first
    | (cases rx; rfl)
    | (obtain ⟨t, rfl⟩ := rx; rfl)
theorem op_notN : OpR X (compareOp .IsNot) (fun x y H Q => y = .non ∧ Q (.bl (!decide (x = .non))) H) := by
  intro pins s σ H x y v u Q I rx ry h
  obtain ⟨rfl, q⟩ := h
  cases ry
  refine isnot_none_gen (fin_bl I q ?_)
  cases x <;> first
    | (cases rx; rfl)
    | (obtain ⟨t, rfl⟩ := rx; rfl)



theorem nomark (b : Expr) {op : CmpOp} (h : op ≠ .In := by decide) (h2 : op ≠ .NotIn := by decide) : behindInMarks op b = false := by
  have e1 : (op == CmpOp.In) = false := by cases op <;> first | rfl | exact absurd rfl h
  have e2 : (op == CmpOp.NotIn) = false := by cases op <;> first | rfl | exact absurd rfl h2
  cases b <;> simp [behindInMarks, e1, e2]
/-- a comparison as a value; hm: nomark b, or (for in, not in) by with_unfolding_all rfl -/
theorem pe_cmpR {op : CmpOp} {r : R2} (ho : OpR X (compareOp op) r) (ha : PE X a ta) (hb : PE X b tb) (hm : behindInMarks op b = false) : PE X (.Compare a [op] [b] pos) (tOp r ta tb) := by
  intro pins s σ H Q I h
  exact wpAny_Compare1 (binT ha hb I h fun v u s2 x y H2 I2 rx ry q => ho pins s2 σ H2 x y v u Q I2 rx ry q) hm
/-- a reading of a value as a test -/
def tTest (t : TE) : TT := fun σ H Q => t σ H fun x H' => ∃ k, x = .bl k ∧ Q k H'
theorem pt_cmpR {op : CmpOp} {r : R2} (ho : OpR X (compareOp op) r) (ha : PE X a ta) (hb : PE X b tb) (hm : behindInMarks op b = false) : PT X (.Compare a [op] [b] pos) (tTest (tOp r ta tb)) := by
  intro pins s σ H Q I h
  refine wpAny_isTrue_Compare1 (thn (ha pins s σ H _ I h) fun v s1 ⟨x, H1, I1, r1, q1⟩ => thn (hb pins s1 σ H1 _ I1 q1) fun u s2 ⟨y, H2, I2, r2, q2⟩ =>
    thn (ho pins s2 σ H2 x y v u _ I2 r1 r2 q2) fun c s3 ⟨z, H3, I3, r3, k, e, q3⟩ => ?_) hm
  subst e
  cases r3
  exact wpAny_truthy_bool ⟨H3, I3, q3⟩

/-! ### truth -/
theorem line63 : (sizeLine : Nat) < 2 ^ 63 := by rw [sizeLine_eq]; decide

/-! ### strs and bytes -/
theorem op_add_str : OpR X (binaryOp .Add) (fun x y H Q => ∃ i j, x = .str i ∧ y = .str j ∧ i.length + j.length ≤ sizeLine ∧ Q (.str (i ++ j)) H) := by
  intro pins s σ H x y v u Q I rx ry h
  obtain ⟨i, j, rfl, rfl, hz, q⟩ := h
  obtain ⟨t, rfl⟩ := rx
  obtain ⟨t', rfl⟩ := ry
  exact wpAny_with_toks (n := 1) I.tk (add_str (fun t' tk htk => ⟨.str (i ++ j), H, I.tok _ htk, ⟨_, rfl⟩, q⟩) hz)


/-! ### scalar builtins, by CallR -/
theorem vals1 {x : V} {us : List Value} (r : Vals [x] us) : ∃ u, us = [u] ∧ RelV x u := by
  cases r with
  | cons r1 r2 => cases r2; exact ⟨_, rfl, r1⟩
theorem call_int1 : CallR X (.type "int") (fun xs H Q => (∃ i, xs = [.int i] ∧ Q (.int i) H) ∨ ∃ k, xs = [.bl k] ∧ Q (.int (if k then 1 else 0)) H) := by
  intro pins s σ H xs us Q I r h
  rcases h with ⟨i, rfl, q⟩ | ⟨k, rfl, q⟩
  · obtain ⟨u, rfl, t, rfl⟩ := vals1 r
    exact call_int_int ⟨.int i, H, I, ⟨_, rfl⟩, q⟩
  · obtain ⟨u, rfl, r1⟩ := vals1 r
    cases r1
    exact call_int_bool ⟨.int (if k then 1 else 0), H, I.tok _, ⟨_, rfl⟩, q⟩
end
end L2

namespace L2
open PySem PySem.Spec PyProof.Rows

/-! ### an instance, its attributes a map -/
structure ObjM (h : Heap) (x dx C : Addr) (mA : Str → Option Value) : Prop where
  obj : h.get? x = some (PySem.W.instObj C dx)
  ns : h.Ns1 dx mA
  ne : dx ≠ x

theorem lookIn_ns {h : Heap} {dx : Addr} {mA : Str → Option Value} (n : h.Ns1 dx mA) : ∃ od, h.get? dx = some od ∧ ∀ name, PySem.W.lookIn name od = some (mA name) := by
  obtain ⟨o, es, ep, ho, hd, hk, _, hm⟩ := n
  refine ⟨o, ho, fun name => ?_⟩
  have e := hm name
  unfold nsFind findBy at e
  rw [← Array.find?_toList] at e
  unfold PySem.W.lookIn
  rw [hd]
  dsimp only
  split
  · rename_i y q
    rw [q] at e
    exact congrArg some e
  · rename_i q
    rw [q] at e
    have a : es.toList.any (·.refKey) = false := by
      rw [List.any_eq_false]
      intro y hy
      obtain ⟨z, t, hkey⟩ := hk y (Array.mem_toList_iff.mp hy)
      simp [DictEntry.refKey, hkey]
    have a' : ¬ es.toList.any (·.refKey) = true := by rw [a]; exact Bool.false_ne_true
    rw [if_neg a']
    exact congrArg some e

theorem ObjM.look {h : Heap} {x dx C : Addr} {mA : Str → Option Value} (I : ObjM h x dx C mA) : ∃ od, PySem.W.InstAt h x (PySem.W.instObj C dx) C (some od) ∧ ∀ name, PySem.W.lookIn name od = some (mA name) :=
  let ⟨od, ho, hl⟩ := lookIn_ns I.ns
  ⟨od, ⟨I.obj, rfl, rfl, ho⟩, hl⟩

section
variable {prog : Program} {w : World} {A : Around} {E : Value → Shared → Prop} {s : Shared} {K : PySem.W.Frag} {x dx C f : Addr} {mA : Str → Option Value} {name : Str} {v : Value}

theorem get_map {expr : Bool} {Q : Value → Shared → Prop} (X : K.In s.heap) (I : ObjM s.heap x dx C mA) (hg : PySem.W.plainGet K C name = true) (hh : PySem.W.hasDictIn K C = true)
    (ha : PySem.W.findIn K (.ref C) name = some none) (hv : mA name = some v) (hv' : PySem.W.handedIn v = true) (h : Q v { s with toks := s.toks + 1 }) :
    wpAny (model prog w) A (getAttr (.ref x) name expr) Q E s := by
  obtain ⟨od, J, hl⟩ := I.look
  exact PySem.W.get_value X J (PySem.W.plainGet_of hg).1 (PySem.W.findObj_own hh ha rfl (by rw [hl, hv])) hv' h


theorem get_meth {pl : Sem Bool} {Q : Value × List Value → Shared → Prop} (X : K.In s.heap) (I : ObjM s.heap x dx C mA) (hg : PySem.W.plainGet K C name = true)
    (hf : PySem.W.findIn K (.ref C) name = some (some (.ref f))) (ht : PySem.W.isFn K (.ref f) = true) (hv : mA name = none) (h : Q (.ref f, [.ref x]) s) :
    wpAny (model prog w) A (getMethod (.ref x) name pl) Q E s := by
  obtain ⟨od, J, hl⟩ := I.look
  exact PySem.W.method_fn X J (PySem.W.plainGet_of hg).1 (PySem.W.plainGet_of hg).2 hf (beq_iff_eq.mp ht) (by show (PySem.W.lookIn name od).map (·.isSome) = some false; rw [hl, hv]; rfl) h

theorem set_map {ns : List Str} {Q : Unit → Shared → Prop} (X : K.In s.heap) (I : ObjM s.heap x dx C mA)
    (hs : PySem.W.findIn K (.ref C) "__setattr__" = some (some (.builtin "object.__setattr__"))) (hp : PySem.W.plainOver K C = true) (ht : PySem.W.takerIn K C name = some none) (hh : PySem.W.hasDictIn K C = true)
    (hw : PySem.Within mA ns) (hsz : ns.length ≤ sizeLine)
    (h : ∀ h', ObjM h' x dx C (fun y => if y = name then some v else mA y) → Heap.SameBut dx s.heap h' → Q () { s with heap := h', toks := s.toks + 2 }) :
    wpAny (model prog w) A (setAttr (.ref x) name v) Q E s := by
  obtain ⟨od, J, hl⟩ := I.look
  refine PySem.W.set_plain X J hs (PySem.W.osa_open (s := { s with toks := s.toks + 1 }) (r := none) X J hp ht fun b => ?_)
  obtain ⟨cd, hc, hd'⟩ := PySem.W.any_some hh
  have hx : s.heap.get? x = some ⟨.ref C, some dx, .plain, #[]⟩ := I.obj
  refine wpAny_bind (wpAny_pure (wpAny_bind (wpAny_bind (wpAny_loadPart hx (wpAny_bind (PySem.W.Looks.here (s := { s with toks := s.toks + 1 }) (PySem.W.looks_clsIn X hc) ?_))))))
  rw [hd']
  refine wpAny_pure (a := some dx) (wpAny_bind (wpAny_pure (wpAny_bind ?_)))
  refine wpAny_nsSet1 (s := { s with toks := s.toks + 1 }) I.ns fun h' hn2 hs2 => ?_
  obtain ⟨oD, esD, epD, hoD, hdD, hcD⟩ := hn2.count (PySem.Within.cons name v hw)
  refine wpAny_bind (wpAny_lookBehind hoD (by rw [hdD]; exact pastItsLine_dict (Nat.le_trans hcD (by rw [List.length_cons]; omega))) ?_)
  exact wpAny_pure (h _ ⟨(hs2.2 _ (Ne.symm I.ne)).trans I.obj, hn2, I.ne⟩ hs2)

/-- C(..): the dict at the heap's end, the instance behind it; then its __init__ -/
theorem make_map {R : Result → Shared → Prop} {vs : List Value} {kw : List (Str × Value)} (X : K.In s.heap) (hm : PySem.W.makesIn K C = true)
    (hi : PySem.W.findIn K (.ref C) "__init__" = some (some (.ref f))) (hf : PySem.W.typeIn K (.ref f) = some (.type "function"))
    (h : codeAny (model prog w) (A.under (.builtin "type.__call__" ⟨.ref C :: vs, kw⟩)) (.call (.ref f) ⟨.ref (s.heap.objs.size + 1) :: vs, kw⟩) (PySem.W.InitBack (s.heap.objs.size + 1) R)
      { s with heap := (s.heap.push PySem.W.emptyDict).push (PySem.W.instObj C s.heap.objs.size) }) :
    codeAny (model prog w) A (.call (.ref C) ⟨vs, kw⟩) R s := by
  obtain ⟨hh, g, d, t, os⟩ := s
  exact PySem.W.make_core (PySem.W.makes_of X hm) (PySem.W.looks_findIn X hi) (fun self => PySem.W.bind_fn X self hf) (.inl rfl) h
end

/-! ### the attributes as a list of pairs -/
def putF (f : Str) (v : V) : List (Str × V) → List (Str × V)
  | [] => [(f, v)]
  | (g, x) :: r => if g = f then (g, v) :: r else (g, x) :: putF f v r
theorem lookup_putF (f g : Str) (v : V) : ∀ fs : List (Str × V), (putF f v fs).lookup g = if g = f then some v else fs.lookup g
  | [] => by
    show List.lookup g [(f, v)] = _
    by_cases h : g = f
    · have hb : (g == f) = true := beq_iff_eq.mpr h
      simp only [List.lookup, hb, if_pos h]
    · have hb : (g == f) = false := beq_eq_false_iff_ne.mpr h
      simp only [List.lookup, hb, if_neg h]
  | (k, x) :: r => by
    have ih := lookup_putF f g v r
    rw [show putF f v ((k, x) :: r) = (if k = f then (k, v) :: r else (k, x) :: putF f v r) from rfl]
    by_cases hk : k = f
    · rw [if_pos hk]
      by_cases h : g = k
      · have hb : (g == k) = true := beq_iff_eq.mpr h
        simp only [List.lookup, hb, if_pos (h.trans hk)]
      · have hb : (g == k) = false := beq_eq_false_iff_ne.mpr h
        simp only [List.lookup, hb, if_neg (fun e : g = f => h (e.trans hk.symm))]
    · rw [if_neg hk]
      by_cases h : g = k
      · have hb : (g == k) = true := beq_iff_eq.mpr h
        simp only [List.lookup, hb, if_neg (fun e : g = f => hk (h.symm.trans e))]
      · have hb : (g == k) = false := beq_eq_false_iff_ne.mpr h
        simp only [List.lookup, hb]
        exact ih
theorem keys_putF (f : Str) (v : V) : ∀ fs : List (Str × V), f ∈ (putF f v fs).map (·.1) ∧ ∀ g, g ∈ fs.map (·.1) → g ∈ (putF f v fs).map (·.1)
  | [] => ⟨by simp [putF], fun g h => by simp at h⟩
  | (k, x) :: r => by
    obtain ⟨i1, i2⟩ := keys_putF f v r
    rw [show putF f v ((k, x) :: r) = (if k = f then (k, v) :: r else (k, x) :: putF f v r) from rfl]
    by_cases hk : k = f
    · rw [if_pos hk]
      subst hk
      exact ⟨by simp, fun g h => by simpa using h⟩
    · rw [if_neg hk]
      refine ⟨?_, fun g h => ?_⟩
      · rw [List.map_cons]
        exact List.mem_cons_of_mem _ i1
      · rw [List.map_cons] at h ⊢
        rcases List.mem_cons.mp h with e | e
        · exact List.mem_cons.mpr (.inl e)
        · exact List.mem_cons_of_mem _ (i2 g e)
theorem length_putF (f : Str) (v : V) : ∀ fs : List (Str × V), (putF f v fs).length ≤ fs.length + 1
  | [] => by simp [putF]
  | (k, x) :: r => by
    have ih := length_putF f v r
    rw [show putF f v ((k, x) :: r) = (if k = f then (k, v) :: r else (k, x) :: putF f v r) from rfl]
    by_cases hk : k = f
    · rw [if_pos hk, List.length_cons, List.length_cons]; omega
    · rw [if_neg hk, List.length_cons, List.length_cons]; omega

theorem RelO.some_of {v : V} {o : Option Value} (r : RelO (some v) o) : ∃ u, o = some u ∧ RelV v u := by
  cases o with
  | none => exact (show False from r).elim
  | some u => exact ⟨u, rfl, r⟩
theorem RelO.none_of {o : Option Value} (r : RelO none o) : o = none := by
  cases o with
  | none => rfl
  | some u => exact (show False from r).elim
theorem handed_of {v : V} {u : Value} (r : RelV v u) : PySem.W.handedIn u = true := by
  cases v with
  | non => cases (show u = Value.none from r); rfl
  | bl b => cases (show u = Value.bool b from r); rfl
  | int i => obtain ⟨t, e⟩ := (show ∃ t, u = Value.int i t from r); cases e; rfl
  | str x => obtain ⟨t, e⟩ := (show ∃ t, u = Value.str x t from r); cases e; rfl
  | byt b => obtain ⟨t, e⟩ := (show ∃ t, u = Value.bytes b t from r); cases e; rfl
  | flt b => obtain ⟨t, e⟩ := (show ∃ t, u = Value.float b t from r); cases e; rfl
  | ref a => cases (show u = Value.ref a from r); rfl
  | ty n => cases (show u = Value.type n from r); rfl

section
variable {P : Program} {w : World} {H H' : Hp} {h h' : Heap} {a C dx : Addr} {fs fs' : List (Str × V)}
theorem ins_get (hok : HOk P w H h) (e : H a = some (.ins C dx fs)) : ∃ mA, ObjM h a dx C mA ∧ (∀ f, RelO (fs.lookup f) (mA f)) ∧ PySem.Within mA (fs.map (·.1)) ∧ fs.length ≤ 1000 ∧ H dx = some (.own a) := by
  obtain ⟨d, z, ne, ob, mA, n, r, q⟩ := (show ObjOk P w H h a (.ins C dx fs) from hok a _ e)
  exact ⟨mA, ⟨ob, n, ne⟩, r, q, z, d⟩
end

/-! ### what of the text a class must have -/
structure Cls (K : PySem.W.Frag) (C : Addr) : Prop where
  pg : PySem.W.plainGet K C Str.empty = true
  hd : PySem.W.hasDictIn K C = true
  po : PySem.W.plainOver K C = true
  sa : PySem.W.findIn K (.ref C) "__setattr__" = some (some (.builtin "object.__setattr__"))
theorem Cls.get {K : PySem.W.Frag} {C : Addr} (c : Cls K C) (f : Str) : PySem.W.plainGet K C f = true := c.pg
/-- no class of it has the name -/
def NoAttr (K : PySem.W.Frag) (C : Addr) (f : Str) : Prop := PySem.W.findIn K (.ref C) f = some none
theorem NoAttr.taker {K : PySem.W.Frag} {C : Addr} {f : Str} (n : NoAttr K C f) : PySem.W.takerIn K C f = some none := by
  unfold PySem.W.takerIn
  rw [show PySem.W.findIn K (.ref C) f = some none from n]
  rfl
/-- a method: a plain def of the class or of one above it -/
structure Meth (K : PySem.W.Frag) (C : Addr) (m : Str) (f : Addr) : Prop where
  at_ : PySem.W.findIn K (.ref C) m = some (some (.ref f))
  fn : PySem.W.isFn K (.ref f) = true
  kp : PySem.W.keepIn K (.ref f) = true

section
variable {X : Cx} {pins : List (Addr × Obj)} {σ : St} {H : Hp} {s : Shared} {a C dx : Addr} {fs : List (Str × V)} {f : Str} {v : V} {A : Around} {E : Value → Shared → Prop}

theorem getattr_ok {b : Bool} {Q : Value → Shared → Prop} (I : Inv X pins σ H s) (e : H a = some (.ins C dx fs)) (c : Cls X.K C) (n : NoAttr X.K C f) (l : fs.lookup f = some v)
    (h : ∀ u s', Inv X pins σ H s' → RelV v u → Q u s') : wpAny (model X.prog X.w) A (getAttr (.ref a) f b) Q E s := by
  obtain ⟨mA, O, r, _, _, _⟩ := ins_get I.hok e
  obtain ⟨u, hu, ru⟩ := RelO.some_of (v := v) (o := mA f) (by rw [← l]; exact r f)
  exact get_map I.kIn O (c.get f) c.hd n hu (handed_of ru) (h u _ (I.tok _) ru)


theorem getmeth_ok {m : Str} {g : Addr} {pl : Sem Bool} {Q : Value × List Value → Shared → Prop} (I : Inv X pins σ H s) (e : H a = some (.ins C dx fs)) (c : Cls X.K C) (k : Meth X.K C m g) (l : fs.lookup m = none)
    (h : Q (.ref g, [.ref a]) s) : wpAny (model X.prog X.w) A (getMethod (.ref a) m pl) Q E s := by
  obtain ⟨mA, O, r, _, _, _⟩ := ins_get I.hok e
  have hn : mA m = none := RelO.none_of (by rw [← l]; exact r m)
  exact get_meth I.kIn O (c.get m) k.at_ k.fn hn h

theorem setattr_ok {y : V} {u : Value} {Q : Unit → Shared → Prop} (I : Inv X pins σ H s) (e : H a = some (.ins C dx fs)) (c : Cls X.K C) (n : NoAttr X.K C f) (hl : fs.length < 1000) (ry : RelV y u)
    (h : ∀ s', Inv X pins σ (upd H a (.ins C dx (putF f y fs))) s' → Q () s') : wpAny (model X.prog X.w) A (setAttr (.ref a) f u) Q E s := by
  obtain ⟨mA, O, r, wi, _, ho⟩ := ins_get I.hok e
  have hz : (fs.map (·.1)).length ≤ sizeLine := by rw [List.length_map, sizeLine_eq]; omega
  refine set_map I.kIn O c.sa c.po n.taker c.hd wi hz fun h' O' sb => h _ ?_
  have hd : ∃ o, h'.get? dx = some o := let ⟨o, _, _, e', _⟩ := O'.ns; ⟨o, e'⟩
  refine I.write (x := a) (e := dx) (by rw [e]; exact True.intro) (.inr ho) (fun b q hb z => (sb.2 b hb).trans z) hd ?_
  refine ⟨by rw [upd_ne O.ne]; exact ho, ?_, O.ne, O'.obj, _, O'.ns, fun g => ?_, fun g hg => ?_⟩
  · have := length_putF f y fs; omega
  · show RelO ((putF f y fs).lookup g) (if g = f then some u else mA g)
    rw [lookup_putF]
    by_cases q : g = f
    · rw [if_pos q, if_pos q]; exact ry
    · rw [if_neg q, if_neg q]; exact r g
  · by_cases q : g = f
    · rw [q]; exact (keys_putF f y fs).1
    · refine (keys_putF f y fs).2 g (wi g fun z => hg ?_)
      show (if g = f then some u else mA g) = none
      rw [if_neg q]; exact z

/-- a new instance, tracked, without attributes -/
theorem Inv.made (I : Inv X pins σ H s) : Inv X pins σ (upd (upd H s.heap.objs.size (.own (s.heap.objs.size + 1))) (s.heap.objs.size + 1) (.ins C s.heap.objs.size []))
    { s with heap := (s.heap.push PySem.W.emptyDict).push (PySem.W.instObj C s.heap.objs.size) } := by
  have e1 : (s.heap.push PySem.W.emptyDict).get? s.heap.objs.size = some PySem.W.emptyDict := Heap.get?_push_size s.heap rfl
  have e2 : ((s.heap.push PySem.W.emptyDict).push (PySem.W.instObj C s.heap.objs.size)).get? (s.heap.objs.size + 1) = some (PySem.W.instObj C s.heap.objs.size) := by
    have := Heap.get?_push_size (s.heap.push PySem.W.emptyDict) (o := PySem.W.instObj C s.heap.objs.size) rfl
    rwa [Heap.size_push] at this
  have e3 : (s.heap.push PySem.W.emptyDict).Ns s.heap.objs.size (fun _ => none) := ⟨PySem.W.emptyDict, #[], _, e1, rfl, (fun e he => absurd he (by simp)), fun _ => rfl⟩
  have I1 := I.laid (a := s.heap.objs.size) (o := .own (s.heap.objs.size + 1)) (h' := s.heap.push PySem.W.emptyDict) (t' := s.toks) (fun b u q => Heap.get?_push_of_some _ q) (Nat.le_refl _) ⟨_, e1⟩
  refine I1.laid (a := s.heap.objs.size + 1) (o := .ins C s.heap.objs.size []) (t' := s.toks) (fun b u q => Heap.get?_push_of_some _ q) (Nat.le_of_eq (Heap.size_push _ _)) ?_
  have ne : s.heap.objs.size ≠ s.heap.objs.size + 1 := Nat.ne_of_lt (Nat.lt_succ_self _)
  refine ⟨by rw [upd_ne ne, upd_same], Nat.zero_le _, ne, e2, fun _ => none, (Heap.Ns1.of_empty e3).at fun o q => Heap.get?_push_of_some _ q, fun _ => True.intro, fun y hy => absurd rfl hy⟩

/-- e.f where nothing but the object is asked: through attributeBase (super) and the last hold -/
theorem attr_of {prog : Program} {w : World} {env : Env} {e : Expr} {f : Str} {pos : Pos} {s : Shared} {Q : Value → Shared → Prop} (hb : attributeBase e f env (eval e env) = eval e env)
    (h : wpAny (model prog w) A (eval e env) (fun o s₁ => wpAny (model prog w) A (getAttr o f true) Q E s₁) E s) : wpAny (model prog w) A (eval (.Attribute e f pos) env) Q E s :=
  Attribute_any_ h (by rw [arm_eval_Attribute, hb])
end

/-! ### readings and rules -/
/-- e.f, an attribute of the instance -/
def tFld (K : PySem.W.Frag) (ta : TE) (f : Str) : TE := fun σ H Q => ta σ H fun x H1 => ∃ a C dx fs v, x = .ref a ∧ H1 a = some (.ins C dx fs) ∧ Cls K C ∧ NoAttr K C f ∧ fs.lookup f = some v ∧ Q v H1
/-- e.f = value -/
def sFld (K : PySem.W.Frag) (ta tv : TE) (f : Str) : TS := fun D σ H => tv σ H fun y H1 => ta σ H1 fun x H2 => ∃ a C dx fs, x = .ref a ∧ H2 a = some (.ins C dx fs) ∧ Cls K C ∧ NoAttr K C f ∧ fs.length < 1000 ∧
  D.nx σ (upd H2 a (.ins C dx (putF f y fs)))

section
variable {X : Cx} {o e value : Expr} {f : Str} {pos pos' tpos : Pos} {ta tv : TE}
theorem pe_fld (he : PE X e ta) (hb : attributeBase e f X.env (eval e X.env) = eval e X.env) : PE X (.Attribute e f pos) (tFld X.K ta f) := by
  intro pins s σ H Q I h
  refine attr_of hb (thn (he pins s σ H _ I h) fun u s1 ⟨x, H1, I1, rx, a, C, dx, fs, v, ex, ea, c, n, l, q⟩ => ?_)
  subst ex
  obtain rfl : u = Value.ref a := rx
  exact getattr_ok I1 ea c n l fun u' s2 I2 ru => ⟨v, H1, I2, ru, q⟩
theorem ps_fld (ha : PE X o ta) (hv : PE X value tv) (hs : swapsWith value (some (.Attribute o f pos')) pos.line X.env = pure false) : PS X (.Assign [.Attribute o f pos'] value pos) (sFld X.K ta tv f) := by
  intro pins s σ H D I h
  refine plainObj_wpAny_Assign_Attribute (thn (hv pins s σ H _ I h) fun u s1 ⟨y, H1, I1, ry, q⟩ => thn (ha pins s1 σ H1 _ I1 q) fun ov s2 ⟨x, H2, I2, rx, a, C, dx, fs, ex, ea, c, n, l, q2⟩ => ?_) hs
  subst ex
  obtain rfl : ov = Value.ref a := rx
  exact setattr_ok I2 ea c n l ry fun s3 I3 => ⟨σ, _, I3, q2⟩

end

/-! ### isinstance -/
section
variable {X : Cx} {pins : List (Addr × Obj)} {σ : St} {H : Hp} {s : Shared} {A : Around} {E : Value → Shared → Prop} {Q : Value → Shared → Prop} {c : Value} {b : Bool}
/-- the type of a value, as the fragment's deciders take it; for an instance its class -/
inductive TyOf (K : PySem.W.Frag) (H : Hp) : V → Value → Prop where
  | non : TyOf K H .non (.type "NoneType")
  | bl (x : Bool) : TyOf K H (.bl x) (.type "bool")
  | int (i : Int) : TyOf K H (.int i) (.type "int")
  | str (x : Str) : TyOf K H (.str x) (.type "str")
  | flt (x : UInt64) : TyOf K H (.flt x) (.type "float")
  | lst {a : Addr} {xs : List V} (e : H a = some (.lst xs)) : TyOf K H (.ref a) (.type "list")
  | frz {a : Addr} {o : Obj} {xs : List V} (e : H a = some (.frz o (.lst xs))) : TyOf K H (.ref a) (.type "list")
  | tup {a : Addr} {xs : List V} (e : H a = some (.tup xs)) : TyOf K H (.ref a) (.type "tuple")
  | dK {a : Addr} {kvs : List (Key × V)} (e : H a = some (.dK kvs)) : TyOf K H (.ref a) (.type "dict")
  | dT {a : Addr} {kvs : List (List Key × V)} (e : H a = some (.dT kvs)) : TyOf K H (.ref a) (.type "dict")
  | ins {a C dx : Addr} {fs : List (Str × V)} (e : H a = some (.ins C dx fs)) (cl : Cls K C) (ha : PySem.W.findIn K (.ref C) "__class__" = some (some (.builtin "object.__class__")))
      (hn : PySem.W.specialIn K (.builtin "object.__class__") "__get__" = some (some (.builtin "getset_descriptor.__get__"))) (htk : PySem.W.takesIn K (.builtin "object.__class__") = some true)
      (hm : PySem.W.mroIn K C (.type "object") = some true) : TyOf K H (.ref a) (.ref C)
/-- isinstance(x, c) for one class c, a built-in or an own one: kitOne's answer -/
theorem isinst_ok {x : V} {u t : Value} (I : Inv X pins σ H s) (rx : RelV x u) (ty : TyOf X.K H x t) (e : PySem.W.kitOne X.K t c = some b) (h : ∀ tk, Q (.bool b) { s with toks := tk }) :
    wpAny (model X.prog X.w) A (call (.builtin "isinstance") [u, c]) Q E s := by
  cases ty with
  | non => cases (show u = Value.none from rx); exact PySem.W.kia_one PySem.W.kitx_none I.kIn True.intro e (fun z => nomatch z) h
  | bl y => cases (show u = Value.bool y from rx); exact PySem.W.kia_one PySem.W.kitx_bool I.kIn True.intro e (fun z => nomatch z) h
  | int i => obtain ⟨t, q⟩ := (show ∃ t, u = Value.int i t from rx); cases q; exact PySem.W.kia_one PySem.W.kitx_int I.kIn True.intro e (fun z => nomatch z) h
  | str y => obtain ⟨t, q⟩ := (show ∃ t, u = Value.str y t from rx); cases q; exact PySem.W.kia_one PySem.W.kitx_str I.kIn True.intro e (fun z => nomatch z) h
  | flt y => obtain ⟨t, q⟩ := (show ∃ t, u = Value.float y t from rx); cases q; exact PySem.W.kia_one PySem.W.kitx_float I.kIn True.intro e (fun z => nomatch z) h
  | @lst a xs ea =>
    cases (show u = Value.ref a from rx)
    obtain ⟨_, _, n, _, h1⟩ := (show ObjOk X.prog X.w H s.heap a (.lst xs) from I.hok a _ ea)
    exact PySem.W.kia_one PySem.W.kitx_list I.kIn ⟨_, h1, rfl⟩ e (fun z => nomatch z) h
  | @frz a ob xs ea =>
    cases (show u = Value.ref a from rx)
    obtain ⟨_, _, _, n, _, h1⟩ := (show ObjOk X.prog X.w H s.heap a (.frz ob (.lst xs)) from I.hok a _ ea)
    exact PySem.W.kia_one PySem.W.kitx_list I.kIn ⟨_, h1, rfl⟩ e (fun z => nomatch z) h
  | @tup a xs ea =>
    cases (show u = Value.ref a from rx)
    obtain ⟨_, _, _, p⟩ := (show ObjOk X.prog X.w H s.heap a (.tup xs) from I.hok a _ ea)
    obtain ⟨o, h1, h2, _⟩ := p
    exact PySem.W.kia_one PySem.W.kitx_tuple I.kIn ⟨o, h1, h2⟩ e (fun z => nomatch z) h
  | @dK a kvs ea =>
    cases (show u = Value.ref a from rx)
    obtain ⟨_, _, vs, _, p⟩ := (show ObjOk X.prog X.w H s.heap a (.dK kvs) from I.hok a _ ea)
    obtain ⟨o, es, ep, h1, h2, _⟩ := p
    exact PySem.W.kia_one PySem.W.kitx_dict I.kIn ⟨o, h1, h2.1⟩ e (fun z => nomatch z) h
  | @dT a kvs ea =>
    cases (show u = Value.ref a from rx)
    obtain ⟨_, _, xs, _, o, es, ep, h1, h2, _⟩ := (show ObjOk X.prog X.w H s.heap a (.dT kvs) from I.hok a _ ea)
    exact PySem.W.kia_one PySem.W.kitx_dict I.kIn ⟨o, h1, h2.1⟩ e (fun z => nomatch z) h
  | @ins a C dx fs ea cl ha hn htk hm =>
    cases (show u = Value.ref a from rx)
    obtain ⟨mA, O, _⟩ := ins_get I.hok ea
    obtain ⟨od, J, _⟩ := O.look
    exact PySem.W.kia_one (PySem.W.kitx_own (cl.get _) cl.hd ha hn htk hm) I.kIn J e (fun z => nomatch z) h
end
end L2

namespace L2
open PySem PySem.Spec PyProof.Rows

/-! ### room -/
structure Room (k : Nat) (A : Around) : Prop where
  hd : A.handled = none
  dp : A.depth + 3 * k + 5 < recursionLimit
  un : A.units + 16 * k + 200 < cLine
theorem Room.mono {j k : Nat} {A : Around} (r : Room k A) (h : j ≤ k) : Room j A := ⟨r.hd, by have := r.dp; omega, by have := r.un; omega⟩
theorem Room.deeper {k : Nat} {A : Around} (r : Room (k + 1) A) (env : Env) : Room k (A.deeper env) :=
  ⟨r.hd, by have := r.dp; show A.depth + 1 + 3 * k + 5 < _; omega, by have := r.un; show A.units + 3 + 16 * k + 200 < _; omega⟩
theorem make_depth {A : Around} {C : Addr} {us : List Value} {kw : List (Str × Value)} : (A.under (.builtin "type.__call__" ⟨.ref C :: us, kw⟩)).depth = A.depth + 1 := by
  first | rfl | simp [Around.under, Code.weight, Code.isCreation, Code.isGuard, Code.isCaller, Code.frames, Code.isFrame, guardIds]
theorem make_units {A : Around} {C : Addr} {us : List Value} {kw : List (Str × Value)} : (A.under (.builtin "type.__call__" ⟨.ref C :: us, kw⟩)).units = A.units + 1 := by
  first | rfl | simp [Around.under, Code.cUnits, Code.frames, Code.isFrame]
theorem Room.make {k : Nat} {A : Around} (r : Room (k + 1) A) (C : Addr) (us : List Value) (kw : List (Str × Value)) : Room k (A.under (.builtin "type.__call__" ⟨.ref C :: us, kw⟩)) :=
  ⟨r.hd, by have := r.dp; rw [make_depth]; omega, by have := r.un; rw [make_units]; omega⟩
theorem Room.depth {k : Nat} {A : Around} (r : Room k A) : A.depth < recursionLimit := by have := r.dp; omega

/-! ### argument lists and displays -/
def tNil : TA := fun _ H Q => Q [] H
def tCons (ta : TE) (tr : TA) : TA := fun σ H Q => ta σ H fun x H1 => tr σ H1 fun xs H2 => Q (x :: xs) H2
section
variable {X : Cx} {e : Expr} {es : List Expr} {te : TE} {t : TA} {pos : Pos}
theorem pa_nil : PA X [] tNil := fun _ _ _ _ H Q I h => Calls.spliced_nil ⟨[], H, I, .nil, h⟩
theorem pa_cons (ha : PE X e te) (hr : PA X es t) (hs : starEach (e :: es) X.env = (false, eval e X.env) :: starEach es X.env := by rfl) : PA X (e :: es) (tCons te t) := by
  intro pos pins s σ H Q I h
  rw [hs]
  show wpAny _ _ (spliced ((false, eval e X.env) :: backTo pos (starEach es X.env))) _ _ s
  refine Calls.spliced_cons (thn (ha pins s σ H _ I h) fun u s1 ⟨x, H1, I1, r1, q1⟩ => ?_)
  exact thn (hr pos pins s1 σ H1 _ I1 q1) fun us s2 ⟨xs, H2, I2, r2, q2⟩ => ⟨x :: xs, H2, I2, .cons r1 r2, q2⟩

/-- a tuple, a list of written items -/
def tTup (t : TA) : TE := fun σ H Q => t σ H fun xs H1 => xs.length ≤ sizeLine ∧ ∀ p, H1 p = none → Q (.ref p) (upd H1 p (.tup xs))
def tLst (t : TA) : TE := fun σ H Q => t σ H fun xs H1 => xs.length ≤ sizeLine ∧ ∀ p, H1 p = none → Q (.ref p) (upd H1 p (.lst xs))
theorem pe_tup {x1} (h : PA X es t) : PE X (.Tuple es x1 pos) (tTup t) := by
  intro pins s σ H Q I hq
  refine wpAny_Tuple_spliced (thn (h pos pins s σ H _ I hq) fun us s1 ⟨xs, H1, I1, r, z, q⟩ => ⟨by rw [← r.length]; exact z, ?_⟩)
  have hf : H1 s1.heap.objs.size = none := I1.hok.fresh (Nat.le_refl _)
  refine ⟨.ref s1.heap.objs.size, upd H1 s1.heap.objs.size (.tup xs), I1.laid (t' := s1.toks) (fun b u e => Heap.get?_push_of_some _ e) (Nat.le_refl _) ?_, rfl, q _ hf⟩
  exact ⟨z, us, r, ⟨_, Heap.get?_push_size _ rfl, rfl, _, rfl⟩⟩
theorem pe_lst (h : PA X es t) : PE X (.List es pos) (tLst t) := by
  intro pins s σ H Q I hq
  refine wpAny_List_spliced (thn (h pos pins s σ H _ I hq) fun us s1 ⟨xs, H1, I1, r, z, q⟩ => ⟨by rw [← r.length]; exact z, ?_⟩)
  have hf : H1 s1.heap.objs.size = none := I1.hok.fresh (Nat.le_refl _)
  refine ⟨.ref s1.heap.objs.size, upd H1 s1.heap.objs.size (.lst xs), I1.laid (t' := s1.toks) (fun b u e => Heap.get?_push_of_some _ e) (Nat.le_refl _) ?_, rfl, q _ hf⟩
  exact ⟨z, us, 0, r, Heap.get?_push_size _ rfl⟩
end

/-! ### what a def promises -/
/-- a def's promise: the bound arguments in the parameters' order, the heap, the wanted end, the wanted exception -/
abbrev Sp := List V → Hp → VK → XK → Prop
/-- how an exception lies behind a call (file 08 gives it): the callers' frames, abstract heap and state ahead of the call, the wish, the exception, the state -/
abbrev CXT := List Env → Hp → Shared → XK → Value → Shared → Prop

/-- the state at a call -/
structure Env0 (P : Program) (w : World) (K : PySem.W.Frag) (mg : Str → Option Value) (base : Heap) (A : Around) (outer : List Env) (s : Shared) (H : Hp) : Prop where
  frames : A.frames = some outer
  mod : Mod K mg base
  bs : ∀ b o, base.get? b = some o → s.heap.get? b = some o ∧ H b = none
  bsz : base.objs.size ≤ s.heap.objs.size
  funs : s.heap.FunFrames base outer
  frf : ∀ b ∈ frs outer, H b = none
  hok : HOk P w H s.heap
  bare : AllBare s.gens
  tk : 0 < s.toks
/-- a call's end -/
def CE (outer : List Env) (P : Program) (w : World) (H : Hp) (s : Shared) (Q : VK) (u : Value) (s' : Shared) : Prop :=
  ∃ v H', s'.os = s.os ∧ AllBare s'.gens ∧ Un (frs outer) [] H H' s.heap s'.heap ∧ HOk P w H' s'.heap ∧ 0 < s'.toks ∧ RelV v u ∧ Q v H'
def CR (CX : CXT) (outer : List Env) (P : Program) (w : World) (H : Hp) (s : Shared) (Q : VK) (E : XK) (r : Result) (s' : Shared) : Prop :=
  match r with
  | .ok (.ret u) => CE outer P w H s Q u s'
  | .ok _ => False
  | .error e => CX outer H s E e s'
structure FnOk (P : Program) (w : World) (K : PySem.W.Frag) (mg : Str → Option Value) (base : Heap) (CX : CXT) (k : Nat) (f : Addr) (fd : FuncData) (ps : List Str) (sp : Sp) : Prop where
  len : ∀ vs H Q E, sp vs H Q E → vs.length = ps.length
  run : ∀ (A : Around) (outer : List Env) (s : Shared) (H : Hp) (args : Args) (us : List Value) (vs : List V) (Q : VK) (E : XK), Room k A → Env0 P w K mg base A outer s H → BindsTo s fd args (ps.zip us) → Vals vs us → sp vs H Q E →
    codeAny (model P w) A (.call (.ref f) args) (CR CX outer P w H s Q E) s
theorem FnOk.mono {P : Program} {w : World} {K : PySem.W.Frag} {mg : Str → Option Value} {base : Heap} {CX : CXT} {j k : Nat} {f : Addr} {fd : FuncData} {ps : List Str} {sp : Sp} (F : FnOk P w K mg base CX j f fd ps sp) (h : j ≤ k) :
    FnOk P w K mg base CX k f fd ps sp := ⟨F.len, fun A outer s H args us vs Q E hr => F.run A outer s H args us vs Q E (hr.mono h)⟩

theorem Env0.make {P : Program} {w : World} {K : PySem.W.Frag} {mg : Str → Option Value} {base : Heap} {A : Around} {outer : List Env} {s : Shared} {H : Hp} (e : Env0 P w K mg base A outer s H) (C : Addr) (us : List Value) (kw : List (Str × Value)) :
    Env0 P w K mg base (A.under (.builtin "type.__call__" ⟨.ref C :: us, kw⟩)) outer s H := ⟨by first | exact e.frames | (simpa [Around.under, Code.envs, Code.isFrame, pushEnvs] using e.frames), e.mod, e.bs, e.bsz, e.funs, e.frf, e.hok, e.bare, e.tk⟩

section
variable {X : Cx} {pins : List (Addr × Obj)} {σ : St} {H : Hp} {s s' : Shared}
/-- from a body: what a callee wants -/
theorem Inv.env0 (I : Inv X pins σ H s) : Env0 X.prog X.w X.K X.mg X.base X.A X.stack s H :=
  ⟨I.ok.frames, I.ok.mod, I.bs, Nat.le_trans I.ok.bsz I.sz, I.stack, I.stkFree, I.hok, I.bare, I.tk⟩
/-- behind a call -/
theorem Inv.after {Q : VK} {u : Value} (I : Inv X pins σ H s) (h : CE X.stack X.prog X.w H s Q u s') : EP X pins σ Q u s' := by
  obtain ⟨v, H', os, bare, un, hok, tk', r, q⟩ := h
  obtain ⟨hh, g, d, t, os'⟩ := s'
  obtain rfl : os' = s.os := os
  exact ⟨v, H', I.call (h' := hh) (g' := g) (d' := d) (t' := t) (ch := []) un hok bare (fun b z => absurd z (by simp)) tk', r, q⟩
end

/-! ### calls -/
/-- f(..): the written arguments, then the defaults dvs; E: what is wanted of an exception -/
def tCall (sp : Sp) (dvs : List V) (E : XK) (t : TA) : TE := fun σ H Q => t σ H fun vs H1 => sp (vs ++ dvs) H1 Q E
/-- C(..): a new instance and its dict, then __init__ -/
def tMake (C : Addr) (sp : Sp) (dvs : List V) (E : XK) (t : TA) : TE := fun σ H Q => t σ H fun vs H1 => ∀ x dx, H1 x = none → H1 dx = none → dx ≠ x →
  sp (.ref x :: (vs ++ dvs)) (upd (upd H1 dx (.own x)) x (.ins C dx [])) (fun v H2 => v = .non ∧ Q (.ref x) H2) E

/-- how the parameters are bound: us the positional arguments, kw the keywords' values by name, ds the defaults that fill up -/
def Binds (K : PySem.W.Frag) (fd : FuncData) (ps : List Str) (ds : List Value) : Prop :=
  ∀ (s : Shared) (us : List Value), K.In s.heap → (us ++ ds).length = ps.length → BindsTo s fd ⟨us, []⟩ (ps.zip (us ++ ds))
/-- every parameter is given -/
theorem Binds.all {K : PySem.W.Frag} {fd : FuncData} {ps : List Str} (h : ∀ us : List Value, us.length = ps.length → bindArgs fd ⟨us, []⟩ = pure (ps.zip us)) : Binds K fd ps [] := fun s us _ hl => by
  rw [List.append_nil] at hl ⊢
  exact .of_eq (h us hl)

/-- an exception of a callee reaches what this body wants of exceptions -/
def Passes (CX : CXT) (X : Cx) (E : XK) : Prop := ∀ (pins : List (Addr × Obj)) (σ : St) (H : Hp) (s : Shared) (e : Value) (s' : Shared), Inv X pins σ H s → CX X.stack H s E e s' → X.xe e s'

section
variable {X : Cx} {CX : CXT} {k : Nat} {f C : Addr} {fd : FuncData} {ps : List Str} {sp : Sp} {dvs : List V} {ds : List Value} {E : XK} {x m : Str} {p pos apos : Pos} {e o : Expr} {es : List Expr} {ta : TE} {t : TA}

/-- the callee runs -/
theorem run_fn {pins : List (Addr × Obj)} {σ : St} {H : Hp} {s : Shared} {Q : VK} {us : List Value} {vs : List V} (F : FnOk X.prog X.w X.K X.mg X.base CX k f fd ps sp) (hr : Room k X.A) (hb : Binds X.K fd ps ds) (hd : Vals dvs ds) (hx : Passes CX X E)
    (I : Inv X pins σ H s) (r : Vals vs us) (h : sp (vs ++ dvs) H Q E) : wpAny (model X.prog X.w) X.A (call (.ref f) us) (EP X pins σ Q) X.xe s := by
  have r2 : Vals (vs ++ dvs) (us ++ ds) := r.append hd
  have hl : (us ++ ds).length = ps.length := by rw [← r2.length]; exact F.len _ _ _ _ h
  refine wpAny_call (codeAny_mono (F.run X.A X.stack s H ⟨us, []⟩ (us ++ ds) (vs ++ dvs) Q E hr I.env0 (hb s us I.kIn hl) r2 h) fun r s' hq => ?_)
  cases r with
  | error e => exact hx pins σ H s e s' I hq
  | ok fl =>
    cases fl with
    | ret u => exact I.after hq
    | next => exact False.elim hq
    | brk => exact False.elim hq
    | cont => exact False.elim hq

theorem pe_call (F : FnOk X.prog X.w X.K X.mg X.base CX k f fd ps sp) (hr : Room k X.A) (hg : Gl X x) (hm : X.mg x = some (.ref f)) (hk : PySem.W.keepIn X.K (.ref f) = true) (hb : Binds X.K fd ps ds) (hd : Vals dvs ds) (hx : Passes CX X E)
    (ha : PA X (e :: es) t) (hdb : (x == ("__debug__" : Str)) = false := by decide) (he : starEach (e :: es) X.env = (false, eval e X.env) :: starEach es X.env := by rfl) (hpl : (backTo pos (starEach es X.env)).any (·.1) = false := by rfl) :
    PE X (.Call (.Name x p) (e :: es) [] pos) (tCall sp dvs E t) := by
  intro pins s σ H Q I h
  refine wpAny_Call_Name_kw (ld_glob I hg hm ?_ hdb)
  refine PySem.W.callWith_K (h₀ := X.base) I.ok.mod.kin hk (thn (ha pos pins s σ H _ I h) fun us s1 ⟨vs, H1, I1, r, q⟩ => ⟨I1.kIn, ?_⟩) he hpl
  exact run_fn F hr hb hd hx I1 r q


/-- what a class must have to be made -/
structure Mk (K : PySem.W.Frag) (C f : Addr) : Prop where
  makes : PySem.W.makesIn K C = true
  init : PySem.W.findIn K (.ref C) "__init__" = some (some (.ref f))
  fn : PySem.W.isFn K (.ref f) = true
  kp : PySem.W.keepIn K (.ref C) = true

theorem run_make {pins : List (Addr × Obj)} {σ : St} {H : Hp} {s : Shared} {Q : VK} {us : List Value} {vs : List V} (M : Mk X.K C f) (F : FnOk X.prog X.w X.K X.mg X.base CX k f fd ps sp) (hr : Room (k + 1) X.A) (hb : Binds X.K fd ps ds) (hd : Vals dvs ds)
    (hx : Passes CX X E) (I : Inv X pins σ H s) (r : Vals vs us)
    (h : ∀ x dx, H x = none → H dx = none → dx ≠ x → sp (.ref x :: (vs ++ dvs)) (upd (upd H dx (.own x)) x (.ins C dx [])) (fun v H2 => v = .non ∧ Q (.ref x) H2) E) :
    wpAny (model X.prog X.w) X.A (call (.ref C) us) (EP X pins σ Q) X.xe s := by
  have hq := h (s.heap.objs.size + 1) s.heap.objs.size (I.hok.fresh (Nat.le_succ _)) (I.hok.fresh (Nat.le_refl _)) (Nat.ne_of_lt (Nat.lt_succ_self _))
  have I2 := Inv.made (C := C) I
  have r2 : Vals (V.ref (s.heap.objs.size + 1) :: (vs ++ dvs)) (Value.ref (s.heap.objs.size + 1) :: (us ++ ds)) := .cons rfl (r.append hd)
  have hl : (Value.ref (s.heap.objs.size + 1) :: us ++ ds).length = ps.length := by
    have e := r2.length
    rw [F.len _ _ _ _ hq] at e
    exact e.symm
  refine wpAny_call (make_map (f := f) I.kIn M.makes M.init (beq_iff_eq.mp M.fn) (codeAny_mono (F.run _ X.stack _ _ ⟨Value.ref (s.heap.objs.size + 1) :: us, []⟩ (Value.ref (s.heap.objs.size + 1) :: (us ++ ds)) _ _ E (hr.make C us [])
    (I2.env0.make C us []) (hb _ (Value.ref (s.heap.objs.size + 1) :: us) I2.kIn hl) r2 hq) fun r s' hq' => ?_))
  cases r with
  | error e => exact hx pins σ _ _ e s' I2 hq'
  | ok fl =>
    cases fl with
    | ret u =>
      obtain ⟨v, H', I3, rv, ev, q3⟩ := I2.after hq'
      subst ev
      exact ⟨rv, ⟨V.ref (s.heap.objs.size + 1), H', I3, rfl, q3⟩⟩
    | next => exact False.elim hq'
    | brk => exact False.elim hq'
    | cont => exact False.elim hq'
theorem pe_make (M : Mk X.K C f) (F : FnOk X.prog X.w X.K X.mg X.base CX k f fd ps sp) (hr : Room (k + 1) X.A) (hg : Gl X x) (hm : X.mg x = some (.ref C)) (hb : Binds X.K fd ps ds) (hd : Vals dvs ds) (hx : Passes CX X E)
    (ha : PA X (e :: es) t) (hdb : (x == ("__debug__" : Str)) = false := by decide) (he : starEach (e :: es) X.env = (false, eval e X.env) :: starEach es X.env := by rfl) (hpl : (backTo pos (starEach es X.env)).any (·.1) = false := by rfl) :
    PE X (.Call (.Name x p) (e :: es) [] pos) (tMake C sp dvs E t) := by
  intro pins s σ H Q I h
  refine wpAny_Call_Name_kw (ld_glob I hg hm ?_ hdb)
  refine PySem.W.callWith_K (h₀ := X.base) I.ok.mod.kin M.kp (thn (ha pos pins s σ H _ I h) fun us s1 ⟨vs, H1, I1, r, q⟩ => ⟨I1.kIn, ?_⟩) he hpl
  exact run_make M F hr hb hd hx I1 r q
end

/-! ### keywords -/
section
variable {X : Cx} {CX : CXT} {k : Nat} {f C : Addr} {fd : FuncData} {ps ks : List Str} {sp : Sp} {E : XK} {x m : Str} {p pos apos kpos : Pos} {e o : Expr} {es : List Expr} {kws : List Keyword} {te ta : TE} {t tk : TA} {nm : Option Str}

variable {g : List Value → List Value → List Value} {gV : List V → List V → List V}
end

/-! ### a def's body keeps its promise -/
/-- names: the parameters first -/
structure FnScope (N P : List Str) (sc : Scope) : Prop where
  kind : sc.kind = .function
  co : sc.isCoroutine = false
  gen : sc.isGenerator = false
  nd : N.Nodup
  pre : N.take P.length = P
  par : ∀ x ∈ P, sc.names.lookup x = some .local ∨ sc.names.lookup x = some .cell
  nofree : ∀ y ∈ sc.names, y.2 ≠ .free

theorem bindL_out {kindOf : Str → Option NameKind} {x : Str} : ∀ {binds : List (Str × Value)} {m : Str → Option Value}, (∀ v, (x, v) ∉ binds) → bindL kindOf binds m x = m x
  | [], _, _ => rfl
  | (n, v) :: r, m, h => by
    unfold bindL
    rw [bindL_out fun w hw => h w (List.mem_cons_of_mem _ hw)]
    split
    · have : x ≠ n := by rintro rfl; exact h v List.mem_cons_self
      simp [this]
    · rfl
theorem bindC_out {kindOf : Str → Option NameKind} {x : Str} : ∀ {binds : List (Str × Value)} {m : Str → Option Value}, (∀ v, (x, v) ∉ binds) → bindC kindOf binds m x = m x
  | [], _, _ => rfl
  | (n, v) :: r, m, h => by
    unfold bindC
    rw [bindC_out fun w hw => h w (List.mem_cons_of_mem _ hw)]
    split
    · rfl
    · have : x ≠ n := by rintro rfl; exact h v List.mem_cons_self
      simp [this]
theorem bindL_get {kindOf : Str → Option NameKind} {x : Str} {v : Value} : ∀ {P : List Str} {vs : List Value} {i : Nat} {m : Str → Option Value}, P.Nodup → P[i]? = some x → vs[i]? = some v → kindOf x = some .local →
    bindL kindOf (P.zip vs) m x = some v
  | [], _, _, _, _, h, _, _ => by simp at h
  | _ :: _, [], _, _, _, _, h, _ => by simp at h
  | p :: P, w :: vs, 0, m, nd, h1, h2, hk => by
    simp at h1 h2; subst h1; subst h2
    show bindL kindOf ((p, w) :: P.zip vs) m p = _
    unfold bindL
    rw [bindL_out fun v hv => (List.nodup_cons.mp nd).1 (List.of_mem_zip hv).1, if_pos hk]
    simp
  | p :: P, w :: vs, i + 1, m, nd, h1, h2, hk => by
    show bindL kindOf ((p, w) :: P.zip vs) m x = _
    unfold bindL
    exact bindL_get (i := i) (List.nodup_cons.mp nd).2 (by simpa using h1) (by simpa using h2) hk
theorem bindC_get {kindOf : Str → Option NameKind} {x : Str} {v : Value} : ∀ {P : List Str} {vs : List Value} {i : Nat} {m : Str → Option Value}, P.Nodup → P[i]? = some x → vs[i]? = some v → kindOf x ≠ some .local →
    bindC kindOf (P.zip vs) m x = some v
  | [], _, _, _, _, h, _, _ => by simp at h
  | _ :: _, [], _, _, _, _, h, _ => by simp at h
  | p :: P, w :: vs, 0, m, nd, h1, h2, hk => by
    simp at h1 h2; subst h1; subst h2
    show bindC kindOf ((p, w) :: P.zip vs) m p = _
    unfold bindC
    rw [bindC_out fun v hv => (List.nodup_cons.mp nd).1 (List.of_mem_zip hv).1, if_neg hk]
    simp
  | p :: P, w :: vs, i + 1, m, nd, h1, h2, hk => by
    show bindC kindOf ((p, w) :: P.zip vs) m x = _
    unfold bindC
    exact bindC_get (i := i) (List.nodup_cons.mp nd).2 (by simpa using h1) (by simpa using h2) hk

/-- the names' values at the entry -/
def start (N : List Str) (vs : List V) : St := vs.map some ++ List.replicate (N.length - vs.length) none

/-- the context of a def's body, at its entry; an exception leaves the frame, then lies as CX says -/
def cxOf (CX : CXT) (P : Program) (w : World) (K : PySem.W.Frag) (mg : Str → Option Value) (base : Heap) (N : List Str) (qual : Str) (scope : Scope) (f : Addr) (cd : Value) (A : Around) (outer : List Env) (s : Shared) (H : Hp) (E : XK) : Cx where
  prog := P
  w := w
  K := K
  mg := mg
  base := base
  A := A.deeper (envOfC qual scope s.heap.objs.size f cd)
  N := N
  s₀ := s
  H₀ := H
  env := envOfC qual scope s.heap.objs.size f cd
  outer := outer
  stack := envOfC qual scope s.heap.objs.size f cd :: outer
  ex := []
  calm := true
  fn := fun _ => true
  pn := []
  xe := fun e s' => wpAny (model P w) (A.deeper (envOfC qual scope s.heap.objs.size f cd)) (leaving (envOfC qual scope s.heap.objs.size f cd) e) (fun _ s'' => CX outer H s E e s'') (fun e' s'' => CX outer H s E e' s'') s'

theorem cell_has {sc : Scope} {n : Nat} {x : Str} (h : sc.names.lookup x = some .cell) : ∃ c, (cellsFrom n sc.names []).lookup x = some c := by
  have q := PySem.W.cellsFrom_some sc.names n [] (.inl h)
  exact Option.isSome_iff_exists.mp q

theorem inv_start {CX : CXT} {P : Program} {w : World} {K : PySem.W.Frag} {mg : Str → Option Value} {base : Heap} {N ps : List Str} {qual : Str} {scope : Scope} {f : Addr} {cd : Value} {A : Around} {outer : List Env} {s s1 : Shared} {H : Hp} {E : XK} {us : List Value} {vs : List V}
    (S : FnScope N ps scope) (hd : A.handled = none) (e0 : Env0 P w K mg base A outer s H) (hl : vs.length = ps.length) (r : Vals vs us) (htk : 0 < s1.toks)
    (x : InCallC s s.heap.objs.size (bindL (envOfC qual scope s.heap.objs.size f cd).kindOf (ps.zip us) fun _ => none) (cellsFrom (s.heap.objs.size + 1) scope.names []) (bindC (envOfC qual scope s.heap.objs.size f cd).kindOf (ps.zip us) fun _ => none) s1) :
    Inv (cxOf CX P w K mg base N qual scope f cd A outer s H E) [] (start N vs) H s1 := by
  have hpl : ps.length ≤ N.length := by have := congrArg List.length S.pre; rw [List.length_take] at this; omega
  obtain ⟨h1, tk, rfl, hk⟩ := x.done
  have noA : ∀ b : Addr, b ∉ (cxOf CX P w K mg base N qual scope f cd A outer s H E).ex := fun b z => absurd (show b ∈ ([] : List Addr) from z) (by simp)
  refine ⟨⟨e0.mod, S.kind, rfl, rfl, Nat.le_refl _, fun y z c h1 h2 => ?_, fun y hy => ?_, fun y c _ h => ?_, fun _ => hd, Around.frames_deeper e0.frames, .inr ⟨rfl, rfl⟩, fun b z => absurd z (noA b), e0.bs, e0.bsz, fun b _ _ => noA b, fun b z => absurd z (noA b), e0.funs, e0.frf⟩,
    rfl, e0.bare, Un.kept hk, ⟨_, x.toInCall.ns, fun i y v h1 h2 h3 => ?_⟩, fun y c h => ⟨_, x.cell y c h⟩, e0.hok.fresh (Nat.le_refl _), fun y c h => ?_, fun p hp => absurd (show p ∈ ([] : List (Addr × Obj)) from hp) (by simp), e0.hok.kept hk, ?_, htk⟩
  · exact name_of_addr x.apart (PySem.mem_of_lookup h1) (PySem.mem_of_lookup h2)
  · have hy : scope.names.lookup y = some .cell ∨ scope.names.lookup y = some .free := hy
    rcases hy with hy | hy
    · exact cell_has hy
    · exact absurd rfl (S.nofree _ (PySem.mem_of_lookup hy))
  · exact Nat.le_of_lt (x.above y c (PySem.mem_of_lookup h))
  · have hi : i < vs.length := by
      unfold start at h2
      by_cases hi : i < vs.length
      · exact hi
      · rw [List.getElem?_append_right (by simpa using hi)] at h2
        rw [List.getElem?_replicate] at h2
        split at h2 <;> cases h2
    have ha : vs[i]? = some v := by
      unfold start at h2
      rw [List.getElem?_append_left (by simpa using hi), List.getElem?_map] at h2
      cases e : vs[i]? with
      | none => rw [e] at h2; cases h2
      | some a => rw [e] at h2; cases h2; rfl
    obtain ⟨u, hu, rv⟩ := r.get ha
    have hp : ps[i]? = some y := by
      rw [← S.pre, List.getElem?_take_of_lt (by omega)]; exact h1
    have ndP : ps.Nodup := by rw [← S.pre]; exact S.nd.sublist (List.take_sublist _ _)
    refine ⟨u, rv, ?_⟩
    rcases S.par y (List.mem_of_getElem? hp) with k | k
    · exact .inl ⟨k, bindL_get ndP hp hu k⟩
    · obtain ⟨c, e⟩ := cell_has (n := s.heap.objs.size + 1) k
      refine .inr ⟨.inl k, c, e, ?_⟩
      have q := x.cell y c e
      rw [bindC_get ndP hp hu (by show scope.names.lookup y ≠ _; rw [k]; decide)] at q
      exact q
  · exact e0.hok.fresh (Nat.le_of_lt (x.above y c (PySem.mem_of_lookup h)))
  · unfold start
    show _ = N.length
    rw [List.length_append, List.length_map, List.length_replicate]
    omega

/-- THE RULE: a def (or a method) of the text, by its body. The body's reading t is chosen for each entry; it is run at the parameters' values -/
theorem fn_of {CX : CXT} {P : Program} {w : World} {K : PySem.W.Frag} {mg : Str → Option Value} {base : Heap} {k : Nat} {f : Addr} {name qual : Str} {params : Arguments} {body : List Stmt} {scope : Scope} {dV kV doc pm cdv ct oc : Value} {an od : Option Addr}
    {osl : Array (Option Value)} {N ps : List Str} {sp : Sp} (lk : K.lookup f = some ⟨oc, od, .func (PySem.W.fnOf name qual params body scope dV kV doc pm an cdv ct), osl⟩) (hcd : PySem.W.codeIn K cdv qual = true) (S : FnScope N ps scope)
    (len : ∀ vs H Q E, sp vs H Q E → vs.length = ps.length)
    (hbody : ∀ (A : Around) (outer : List Env) (s : Shared) (H : Hp) (vs : List V) (Q : VK) (E : XK), Room k (A.deeper (envOfC qual scope s.heap.objs.size f cdv)) → sp vs H Q E →
      ∃ t, PSs (cxOf CX P w K mg base N qual scope f cdv A outer s H E) body t ∧ t { nx := fun _ H' => Q .non H', rt := Q } (start N vs) H) :
    FnOk P w K mg base CX (k + 1) f (PySem.W.fnOf name qual params body scope dV kV doc pm an cdv ct) ps sp := by
  refine ⟨len, fun A outer s H args us vs Q E hr e0 hb r hsp => ?_⟩
  have hl := len _ _ _ _ hsp
  have KX : K.In s.heap := e0.mod.kin.keeps fun b o e => (e0.bs b o e).1
  have lim : s.heap.NoLimit := e0.mod.nolimit.keeps fun b o e => (e0.bs b o e).1
  have hkind : ∀ y ∈ ps.zip us, scope.names.lookup y.1 = some .local ∨ (scope.names.lookup y.1 = some .cell ∧ ((cellsFrom (s.heap.objs.size + 1) scope.names []).lookup y.1).isSome = true) := fun ⟨n, v⟩ hy => by
    rcases S.par n (List.of_mem_zip hy).1 with q | q
    · exact .inl q
    · exact .inr ⟨q, PySem.W.cellsFrom_some _ _ _ (.inl q)⟩
  refine codeAny_call_function hr.depth (KX _ _ lk) rfl S.co S.gen rfl (PySem.W.codeRec_of KX hcd) (hb _ _ _ _ ?_)
  refine wpAny_with_toks (n := 1) e0.tk (wpAny_newFunctionEnv_cells S.kind hkind fun env he s1 x htk => ?_)
  subst he
  refine ⟨lim.keeps x.toInCall.keep, codeAny_func ?_⟩
  obtain ⟨t, ht, hq⟩ := hbody A outer s H vs Q E (hr.deeper _) hsp
  have I : Inv (cxOf CX P w K mg base N qual scope f cdv A outer s H E) [] (start N vs) H s1 := inv_start S hr.hd e0 hl r htk x
  refine wpAny_mono (ht [] s1 (start N vs) H _ I hq) (fun fl s' hs => ?_) fun e s' hs => hs
  have fin : ∀ {σ' : St} {H' : Hp} {v : V} {u : Value}, Inv (cxOf CX P w K mg base N qual scope f cdv A outer s H E) [] σ' H' s' → RelV v u → Q v H' → CE outer P w H s Q u s' :=
    fun {σ' H' v u} J rv q => ⟨v, H', J.os, J.bare, J.base, J.hok, J.tk, rv, q⟩
  cases fl with
  | ret u =>
    obtain ⟨v, σ', H', J, rv, q⟩ := hs
    exact fin J rv q
  | next =>
    obtain ⟨σ', H', J, q⟩ := hs
    exact fin (v := V.non) (u := Value.none) J rfl q
  | brk =>
    obtain ⟨_, _, _, q⟩ := hs
    exact False.elim q
  | cont =>
    obtain ⟨_, _, _, q⟩ := hs
    exact False.elim q
end L2

namespace L2
open PySem PySem.Spec PyProof.Rows
section
variable {X : Cx} {x : Str} {p pos : Pos} {e : Expr} {es : List Expr} {t : TA} {id T : String} {r : List V → Hp → VK → Prop}

def tCB (r : List V → Hp → VK → Prop) (t : TA) : TE := fun σ H Q => t σ H fun vs H1 => r vs H1 Q
/-- f(e, ..), f a built-in function -/
theorem pe_callB (hc : CallR X (.builtin id) r) (hg : Gl X x) (hm : X.mg x = none) (hv : bootBuiltins x = some (.builtin id)) (ha : PA X (e :: es) t) (hn : x ≠ "__name__" := by decide) (hdb : (x == ("__debug__" : Str)) = false := by decide)
    (he : starEach (e :: es) X.env = (false, eval e X.env) :: starEach es X.env := by rfl) (hpl : (backTo pos (starEach es X.env)).any (·.1) = false := by rfl) : PE X (.Call (.Name x p) (e :: es) [] pos) (tCB r t) := by
  intro pins s σ H Q I h
  refine wpAny_Call_Name_kw (ld_blt I hg hm hv ?_ hn hdb)
  exact PyProof.Rows.callWith_builtin1 (thn (ha pos pins s σ H _ I h) fun us s1 ⟨vs, H1, I1, r1, q1⟩ => hc pins s1 σ H1 vs us Q I1 r1 q1) he hpl
/-- T(e, ..), T a built-in type -/
theorem pe_callTy (hc : CallR X (.type T) r) (hg : Gl X x) (hm : X.mg x = none) (hv : bootBuiltins x = some (.type T)) (ha : PA X (e :: es) t) (hn : x ≠ "__name__" := by decide) (hdb : (x == ("__debug__" : Str)) = false := by decide)
    (he : starEach (e :: es) X.env = (false, eval e X.env) :: starEach es X.env := by rfl) (hpl : (backTo pos (starEach es X.env)).any (·.1) = false := by rfl) : PE X (.Call (.Name x p) (e :: es) [] pos) (tCB r t) := by
  intro pins s σ H Q I h
  refine wpAny_Call_Name_kw (ld_blt I hg hm hv ?_ hn hdb)
  exact PyProof.Rows.callWith_type1 (thn (ha pos pins s σ H _ I h) fun us s1 ⟨vs, H1, I1, r1, q1⟩ => hc pins s1 σ H1 vs us Q I1 r1 q1) he hpl
end
end L2

namespace HT
open PySem PyProof.Rows



section
open PySem.SeqAt
open PySem.AutoSeq1 (wpAny_loadPart')
open PySem.MeetsSeq PySem.MeetsSeq2 PySem.MeetsSeq3

end

section
variable {prog : Program} {w : World} {A : Around} {E : Value → Shared → Prop} {s : Shared}



/-! ### t[a:b], not the whole -/
/-- a slice's bound as a place among n (d where it is left out) -/
def sIx (n d : Nat) : Option Int → Nat
  | none => d
  | some v => if v < 0 then (v + (n : Int)).toNat else min v.toNat n
theorem sIx_none (n d : Nat) : sIx n d none = d := rfl
theorem sIx_nat (n d k : Nat) : sIx n d (some (k : Int)) = min k n := by
  show (if (k : Int) < 0 then ((k : Int) + (n : Int)).toNat else min (k : Int).toNat n) = min k n
  rw [if_neg (by omega), Int.toNat_natCast]

end
end HT

namespace L2
open PySem PySem.Spec PyProof.Rows

/-! ### the parts of a slice -/
abbrev TO := St → Hp → (Option Int → Hp → Prop) → Prop
/-- a slice's part (left out, or an int) -/
def PO (X : Cx) (e : Option Expr) (t : TO) : Prop :=
  ∀ (pins : List (Addr × Obj)) (s : Shared) (σ : St) (H : Hp) (Q : Option Int → Hp → Prop), Inv X pins σ H s → t σ H Q →
    wpAny (model X.prog X.w) X.A (evalPart e X.env) (fun u s' => ∃ o H', Inv X pins σ H' s' ∧ IsPart u o ∧ Q o H') X.xe s
def tNoPart : TO := fun _ H Q => Q none H
def tPart (t : TE) : TO := fun σ H Q => t σ H fun x H1 => ∃ i, x = .int i ∧ Q (some i) H1


section
variable {X : Cx} {e : Expr} {te : TE} {lo hi : Option Expr} {tl th : TO} {pos p2 : Pos}

theorem po_none : PO X none tNoPart := by
  intro pins s σ H Q I h
  rw [evalPart_none]
  exact wpAny_pure ⟨none, H, I, .none, h⟩
theorem po_some (h : PE X e te) : PO X (some e) (tPart te) := by
  intro pins s σ H Q I hw
  rw [evalPart_some]
  refine thn (h pins s σ H _ I hw) fun u s1 ⟨x, H1, I1, r1, q1⟩ => ?_
  obtain ⟨i, rfl, q⟩ := q1
  obtain ⟨t, rfl⟩ := r1
  exact ⟨some i, H1, I1, .int i t, q⟩

/-- what a slice of a value is, by values: the slice object stands at sl -/
def SlR (X : Cx) (r : V → Option Int → Option Int → Hp → VK → Prop) : Prop :=
  ∀ (pins : List (Addr × Obj)) (s : Shared) (σ : St) (H : Hp) (x : V) (v vl vu : Value) (lo hi : Option Int) (sl : Addr) (Q : VK), Inv X pins σ H s → RelV x v → s.heap.IsSliceOf sl vl vu .none → IsPart vl lo → IsPart vu hi → r x lo hi H Q →
    ∃ T id, typeLookup (.type T) "__getitem__" = pure (some (.builtin id)) ∧ s.TypeIs v T ∧ wpAny (model X.prog X.w) X.A (getItem v (.ref sl)) (EP X pins σ Q) X.xe s
def tSl (r : V → Option Int → Option Int → Hp → VK → Prop) (te : TE) (tl th : TO) : TE := fun σ H Q => te σ H fun x H1 => tl σ H1 fun l H2 => th σ H2 fun u H3 => r x l u H3 Q
/-- a[lo:hi], any a -/
theorem pe_slice {r : V → Option Int → Option Int → Hp → VK → Prop} (hr : SlR X r) (he : PE X e te) (hl : PO X lo tl) (hu : PO X hi th) : PE X (.Subscript e (.Slice lo hi none p2) pos) (tSl r te tl th) := by
  intro pins s σ H Q I h
  refine Subscript_ (thn (he pins s σ H _ I h) fun v s1 ⟨x, H1, I1, r1, q1⟩ => ?_)
  refine wpAny_Slice (thn (hl pins s1 σ H1 _ I1 q1) fun vl s2 ⟨l, H2, I2, pl, q2⟩ => thn (hu pins s2 σ H2 _ I2 q2) fun vu s3 ⟨u, H3, I3, pu, q3⟩ => ?_)
  rw [evalPart_none]
  refine wpAny_pure ?_
  have I4 : Inv X pins σ H3 { s3 with heap := s3.heap.push { cls := .type "slice", data := .fields #[vl, vu, .none] } } := I3.kept (t' := s3.toks) fun b ob q => Heap.get?_push_of_some _ q
  obtain ⟨T, id, hT, ht, hg⟩ := hr pins { s3 with heap := s3.heap.push { cls := .type "slice", data := .fields #[vl, vu, .none] } } σ H3 x v vl vu l u s3.heap.objs.size Q I4 r1 (Heap.IsSliceOf.new ..) pl pu q3
  show wpAny (model X.prog X.w) X.A (subscriptTail e (.Slice lo hi none p2) v (.ref s3.heap.objs.size)) (EP X pins σ Q) X.xe { s3 with heap := s3.heap.push { cls := .type "slice", data := .fields #[vl, vu, .none] } }
  exact tail_any (ops := [.ref s3.heap.objs.size, v]) ht hT hg (by with_unfolding_all rfl)

/-- the items of xs[lo:hi] -/
def cutV (xs : List V) (lo hi : Option Int) : List V := (xs.drop (HT.sIx xs.length 0 lo)).take (HT.sIx xs.length xs.length hi - HT.sIx xs.length 0 lo)
theorem cutV_length (xs : List V) (lo hi : Option Int) : (cutV xs lo hi).length ≤ xs.length := by
  unfold cutV
  rw [List.length_take, List.length_drop]
  omega

/-! ### t < u, t + u -/
end
end L2

namespace L2
open PySem PySem.Spec PyProof.Rows

/-! ### places -/
/-- the place that an index of any sign means -/
def ixN (n : Nat) (i : Int) : Option Nat := if 0 ≤ i then (if i < n then some i.toNat else none) else if -(n : Int) ≤ i then some (i + n).toNat else none
def atI {α : Type} (xs : List α) (i : Int) : Option α := (ixN xs.length i).bind fun j => xs[j]?
theorem ixN_seq {n : Nat} {i : Int} {j : Nat} (h : ixN n i = some j) : seqIndex? i n = some j ∧ j < n ∧ -(n : Int) ≤ i ∧ i < n := by
  unfold ixN at h
  by_cases h0 : 0 ≤ i
  · rw [if_pos h0] at h
    by_cases h1 : i < n
    · rw [if_pos h1] at h
      have e : i.toNat = j := Option.some.inj h
      exact ⟨by rw [seqIndex_of h0 h1, e], by omega, by omega, h1⟩
    · rw [if_neg h1] at h; cases h
  · rw [if_neg h0] at h
    by_cases h1 : -(n : Int) ≤ i
    · rw [if_pos h1] at h
      have e : (i + n).toNat = j := Option.some.inj h
      exact ⟨by rw [seqIndex_neg (by omega) h1, e], by omega, h1, by omega⟩
    · rw [if_neg h1] at h; cases h
theorem atI_get {α : Type} {xs : List α} {i : Int} {v : α} (h : atI xs i = some v) : ∃ j, seqIndex? i xs.length = some j ∧ xs[j]? = some v ∧ j < xs.length ∧ -(xs.length : Int) ≤ i ∧ i < xs.length := by
  unfold atI at h
  cases e : ixN xs.length i with
  | none => rw [e] at h; cases h
  | some j =>
    rw [e] at h
    obtain ⟨h1, h2, h3, h4⟩ := ixN_seq e
    exact ⟨j, h1, h, h2, h3, h4⟩
theorem atI_nat {α : Type} {xs : List α} {j : Nat} {v : α} (h : xs[j]? = some v) : atI xs (j : Int) = some v := by
  have hj : j < xs.length := (List.getElem?_eq_some_iff.mp h).1
  have e : ixN xs.length (j : Int) = some j := by
    unfold ixN
    rw [if_pos (by omega), if_pos (by omega)]; simp
  unfold atI; rw [e]; exact h

/-! ### what may be subscripted -/
/-- what stands as an index of a plain subscript -/
def PlainIx (b : Expr) : Prop := ∀ o i, subscripted b false o i = operate [o, i] (getItem o i)
/-- a subscript by values -/
def IxR (X : Cx) (r : R2) : Prop :=
  ∀ (value slice : Expr) (pins : List (Addr × Obj)) (s : Shared) (σ : St) (H : Hp) (x y : V) (v u : Value) (Q : VK), Inv X pins σ H s → RelV x v → RelV y u → r x y H Q →
    subscripted slice false v u = operate [v, u] (getItem v u) → wpAny (model X.prog X.w) X.A (subscriptTail value slice v u) (EP X pins σ Q) X.xe s
/-- a call of a builtin's method by values: the receiver, the arguments -/
def MtR (X : Cx) (id : String) (r : V → List V → Hp → VK → Prop) : Prop :=
  ∀ (pins : List (Addr × Obj)) (s : Shared) (σ : St) (H : Hp) (x : V) (xs : List V) (v : Value) (us : List Value) (Q : VK), Inv X pins σ H s → RelV x v → Vals xs us → r x xs H Q →
    wpAny (model X.prog X.w) X.A (call (.builtin id) (v :: us)) (EP X pins σ Q) X.xe s
section
variable {X : Cx} {a b : Expr} {ta tb : TE} {pos : Pos}
/-- a[b] -/
theorem pe_ix {r : R2} (hr : IxR X r) (ha : PE X a ta) (hb : PE X b tb) (hs : PlainIx b) : PE X (.Subscript a b pos) (tOp r ta tb) := by
  intro pins s σ H Q I h
  exact Subscript_ (binT ha hb I h fun v u s2 x y H2 I2 rx ry q => hr a b pins s2 σ H2 x y v u Q I2 rx ry q (hs _ _))

def rIxL (K : PySem.W.Frag) : R2 := fun x y H Q => ∃ p xs i v, x = .ref p ∧ y = .int i ∧ SqL K H p xs ∧ atI xs i = some v ∧ Q v H
def rIxT (K : PySem.W.Frag) : R2 := fun x y H Q => ∃ p xs i v, x = .ref p ∧ y = .int i ∧ SqT K H p xs ∧ atI xs i = some v ∧ Q v H
def rIxS : R2 := fun x y H Q => ∃ z i c, x = .str z ∧ y = .int i ∧ z.length ≤ sizeLine ∧ atI z.cps.toList i = some c ∧ Q (.str ⟨#[c]⟩) H
theorem ix_list : IxR X (rIxL X.K) := by
  intro value slice pins s σ H x y v u Q I rx ry h hs
  obtain ⟨p, xs, i, z, rfl, rfl, hq, he, q⟩ := h
  cases rx
  obtain ⟨t, rfl⟩ := ry
  obtain ⟨its, r, pl, hz⟩ := I.list hq
  obtain ⟨j, h1, h2, h3, h4, h5⟩ := atI_get he
  obtain ⟨w, ew, rw'⟩ := r.get h2
  have hl := r.length
  have hn := line63
  have fin : EP X pins σ Q w s := ⟨z, H, I, rw', q⟩
  by_cases h0 : 0 ≤ i
  · have hj : i.toNat = j := by
      rw [seqIndex_of h0 h5] at h1
      exact Option.some.inj h1
    exact item_listR pl.isList h0 (by omega) (by rw [hj]; simpa using ew) fin hs
  · have hj : (i + (its.toArray.size : Int)).toNat = j := by
      rw [seqIndex_neg (by omega) h4] at h1
      rw [List.size_toArray, ← hl]
      exact Option.some.inj h1
    exact subscriptTail_builtinR (x := w) pl.isList.typeIs slot_list_getitem.lookup
      (wpAny_getItem_list_neg (Q := fun r s' => r = w ∧ EP X pins σ Q r s') pl.isList (by omega) (by rw [List.size_toArray] <;> omega) (by omega) (by rw [hj]; simpa using ew) ⟨rfl, fin⟩) hs
theorem ix_tup : IxR X (rIxT X.K) := by
  intro value slice pins s σ H x y v u Q I rx ry h hs
  obtain ⟨p, xs, i, z, rfl, rfl, hq, he, q⟩ := h
  cases rx
  obtain ⟨t, rfl⟩ := ry
  obtain ⟨its, r, pl, hz⟩ := I.tuple hq
  obtain ⟨j, h1, h2, h3, h4, h5⟩ := atI_get he
  obtain ⟨w, ew, rw'⟩ := r.get h2
  have hl := r.length
  have hn := line63
  have fin : EP X pins σ Q w s := ⟨z, H, I, rw', q⟩
  exact subscriptTail_builtinR (x := w) pl.typeIs slot_tuple_getitem.lookup
    (getItem_tuple (j := j) (Q := fun r s' => r = w ∧ EP X pins σ Q r s') pl (by omega) (by omega) (by rw [List.size_toArray, ← hl]; exact h1) (by simpa using ew) ⟨rfl, fin⟩) hs
theorem ix_str : IxR X rIxS := by
  intro value slice pins s σ H x y v u Q I rx ry h hs
  obtain ⟨z, i, c, rfl, rfl, hz, he, q⟩ := h
  obtain ⟨t, rfl⟩ := rx
  obtain ⟨t', rfl⟩ := ry
  obtain ⟨j, h1, h2, h3, h4, h5⟩ := atI_get he
  have hl : z.cps.toList.length = z.length := by simp [Str.length]
  rw [hl] at h1 h4 h5
  have hn := line63
  exact tail_any (typeIs_str s z t) slot_str_getitem.lookup (getItem_str (c := c) (by
    have e1 : decide (i < -(2 ^ 63 : Int)) = false := decide_eq_false (by omega)
    have e2 : decide (i ≥ 2 ^ 63) = false := decide_eq_false (by omega)
    rw [e1, e2, Bool.or_false]) (by rw [h1]; simpa using h2) ⟨.str ⟨#[c]⟩, H, I.tok _, ⟨_, rfl⟩, q⟩) hs

/-! ### xs[i] = v, any sign -/

/-! ### slices -/
theorem slice_bounds (lo hi : Option Int) (n : Nat) : (sliceBounds lo hi none n).1 = ((HT.sIx n 0 lo : Nat) : Int) ∧ (sliceBounds lo hi none n).2.1 = ((HT.sIx n n hi : Nat) : Int) ∧ (sliceBounds lo hi none n).2.2 = 1 := by
  refine ⟨?_, ?_, rfl⟩
  · cases lo with
    | none => simp [sliceBounds, HT.sIx]
    | some i =>
      simp only [sliceBounds, HT.sIx, Option.getD_none, show (1 : Int) > 0 by decide, if_true]
      by_cases h : i < 0
      · simp only [h, if_true] <;> omega
      · simp only [h, if_false] <;> omega
  · cases hi with
    | none => simp [sliceBounds, HT.sIx]
    | some i =>
      simp only [sliceBounds, HT.sIx, Option.getD_none, show (1 : Int) > 0 by decide, if_true]
      by_cases h : i < 0
      · simp only [h, if_true] <;> omega
      · simp only [h, if_false] <;> omega
theorem slicePick_cut (its : List Value) (lo hi : Option Int) : slicePick its.toArray lo hi none = ((its.drop (HT.sIx its.length 0 lo)).take (HT.sIx its.length its.length hi - HT.sIx its.length 0 lo)).toArray := by
  obtain ⟨h1, h2, h3⟩ := slice_bounds lo hi its.toArray.size
  unfold slicePick
  rw [h1, h2, h3]
  simp only [sliceRange_one, pick_run, List.size_toArray] <;> rfl
/-- xs[lo:hi] of a list: a new list -/
def rSlL (K : PySem.W.Frag) : V → Option Int → Option Int → Hp → VK → Prop := fun x lo hi H Q => ∃ a xs, x = .ref a ∧ SqL K H a xs ∧ ∀ p, H p = none → Q (.ref p) (upd H p (.lst (cutV xs lo hi)))
theorem sl_list : SlR X (rSlL X.K) := by
  intro pins s σ H x v vl vu lo hi sl Q I rx hs pl pu h
  obtain ⟨a, xs, rfl, hx, q⟩ := h
  cases rx
  obtain ⟨its, r, ht, hz⟩ := I.list hx
  have hlen := r.length
  refine ⟨"list", _, slot_list_getitem.lookup, ht.isList.typeIs, ?_⟩
  refine wpAny_getItem_list_slice ht.isList hs pl pu .none (by simp) ?_ (by rw [List.size_toArray] <;> omega)
  rw [slicePick_cut, ← hlen]
  refine ⟨.ref s.heap.objs.size, _, I.laid (t' := s.toks) (o := .lst (cutV xs lo hi)) (fun b ob q => Heap.get?_push_of_some _ q) (Nat.le_refl _) ?_, rfl, q _ (I.hok.fresh (Nat.le_refl _))⟩
  exact ⟨Nat.le_trans (cutV_length xs lo hi) hz, _, 0, (r.drop (HT.sIx xs.length 0 lo)).take (HT.sIx xs.length xs.length hi - HT.sIx xs.length 0 lo), Heap.get?_push_size _ rfl⟩

/-! ### in, not in: flat items -/

/-! ### len, list(x), tuple(x) of any list or tuple that is read -/
theorem call_len_seq : CallR X (.builtin "len") (fun xs H Q => ∃ p ys, xs = [.ref p] ∧ (SqL X.K H p ys ∨ SqT X.K H p ys) ∧ Q (.int ys.length) H) := by
  intro pins s σ H xs us Q I r h
  obtain ⟨p, ys, rfl, hq, q⟩ := h
  obtain ⟨u, rfl, rx⟩ := vals1 r
  cases rx
  have hn := line63
  rcases hq with hq | hq
  · obtain ⟨its, r', pl, hz⟩ := I.list hq
    have hlen := r'.length
    exact Calls.call_len_list pl.isList (by simp only [List.size_toArray] <;> omega) ⟨.int ys.length, H, I.tok _, ⟨s.toks + 1, by rw [List.size_toArray, hlen]⟩, q⟩
  · obtain ⟨its, r', pl, hz⟩ := I.tuple hq
    have hlen := r'.length
    exact len_tuple pl (by simp only [List.size_toArray] <;> omega) ⟨.int ys.length, H, I.tok _, ⟨s.toks + 1, by rw [List.size_toArray, hlen]⟩, q⟩
theorem call_len_str : CallR X (.builtin "len") (fun xs H Q => ∃ z, xs = [.str z] ∧ z.length ≤ sizeLine ∧ Q (.int z.length) H) := by
  intro pins s σ H xs us Q I r h
  obtain ⟨z, rfl, hz, q⟩ := h
  obtain ⟨u, rfl, t, rfl⟩ := vals1 r
  have hn := line63
  exact len_str (by omega) ⟨.int z.length, H, I.tok _, ⟨_, rfl⟩, q⟩
theorem call_list_of : CallR X (.type "list") (fun xs H Q => ∃ p ys, xs = [.ref p] ∧ (SqL X.K H p ys ∨ SqT X.K H p ys) ∧ ∀ l, H l = none → Q (.ref l) (upd H l (.lst ys))) := by
  intro pins s σ H xs us Q I r h
  obtain ⟨p, ys, rfl, hq, q⟩ := h
  obtain ⟨u, rfl, rx⟩ := vals1 r
  cases rx
  have fin : ∀ (its : List Value), Vals ys its → ys.length ≤ sizeLine → ∀ (h' : Heap) (c' : Nat), (∀ b o', s.heap.get? b = some o' → h'.get? b = some o') →
      h'.get? s.heap.objs.size = some { cls := .type "list", dict := none, data := .seq its.toArray c', slots := #[] } → EP X pins σ Q (.ref s.heap.objs.size) { s with heap := h' } := fun its r' hz h' c' kp e =>
    ⟨.ref s.heap.objs.size, _, I.laid (t' := s.toks) kp (Nat.le_refl _) (show ObjOk X.prog X.w _ h' _ (.lst ys) from ⟨hz, its, c', r', e⟩), rfl, q _ (I.hok.fresh (Nat.le_refl _))⟩
  rcases hq with hq | hq
  · obtain ⟨its, r', pl, hz⟩ := I.list hq
    have hlen := r'.length
    obtain ⟨o, ho, hc, n, hd⟩ := pl.isList
    exact call_list_seq p (.inl rfl) ho hc hd (fun h' c' kp e => fin its r' hz h' c' kp e) (by simp only [List.size_toArray] <;> omega)
  · obtain ⟨its, r', pl, hz⟩ := I.tuple hq
    have hlen := r'.length
    obtain ⟨o, ho, hc, n, hd⟩ := pl
    exact call_list_seq p (.inr rfl) ho hc hd (fun h' c' kp e => fin its r' hz h' c' kp e) (by simp only [List.size_toArray] <;> omega)

/-! ### the call of a builtin's method: o.m(..) -/
/-- the value is of that builtin type -/
def tyV (K : PySem.W.Frag) (T : String) (x : V) (H : Hp) : Prop := match x with
  | .str _ => T = "str"
  | .int _ => T = "int"
  | .ref p => (T = "list" ∧ ∃ xs, SqL K H p xs) ∨ (T = "tuple" ∧ ∃ o, K.lookup p = some o ∧ o.cls = .type "tuple" ∧ o.dict = none) ∨
      (T = "dict" ∧ ((∃ kvs, H p = some (.dK kvs)) ∨ ∃ kvs, H p = some (.dT kvs))) ∨ (T = "set" ∧ ∃ S n, H p = some (.set S n))
  | _ => False
theorem tyV_is {pins : List (Addr × Obj)} {σ : St} {H : Hp} {s : Shared} {T : String} {x : V} {v : Value} (I : Inv X pins σ H s) (r : RelV x v) (ty : tyV X.K T x H) :
    s.TypeIs v T ∧ ∀ a, v = .ref a → ∃ ob, s.heap.get? a = some ob ∧ ob.dict = none := by
  cases x with
  | str z =>
    obtain ⟨t, rfl⟩ := r
    cases (show T = "str" from ty)
    exact ⟨typeIs_str s z t, fun _ e => nomatch e⟩
  | int i =>
    obtain ⟨t, rfl⟩ := r
    cases (show T = "int" from ty)
    exact ⟨typeIs_int s i t, fun _ e => nomatch e⟩
  | ref p =>
    cases r
    rcases ty with ⟨rfl, xs, hq⟩ | ⟨rfl, o, hk, hc, hd⟩ | ⟨rfl, hk⟩ | ⟨rfl, S, n, hk⟩
    · obtain ⟨its, _, pl, _⟩ := I.list hq
      refine ⟨pl.isList.typeIs, fun a e => ?_⟩
      cases e
      obtain ⟨o, n, e, c, hd, _⟩ := pl
      exact ⟨o, e, hd⟩
    · refine ⟨⟨o, I.kIn p o hk, hc⟩, fun a e => ?_⟩
      cases e
      exact ⟨o, I.kIn _ o hk, hd⟩
    · have z : ∃ o, s.heap.get? p = some o ∧ o.ExactDict := by
        rcases hk with ⟨kvs, hk⟩ | ⟨kvs, hk⟩
        · obtain ⟨_, _, _, _, o, _, _, e, ex, _⟩ := I.hok p _ hk
          exact ⟨o, e, ex⟩
        · obtain ⟨_, _, _, _, o, _, _, e, ex, _⟩ := I.hok p _ hk
          exact ⟨o, e, ex⟩
      obtain ⟨o, e, ex⟩ := z
      refine ⟨⟨o, e, ex.1⟩, fun a e2 => ?_⟩
      cases e2
      exact ⟨o, e, ex.2.1⟩
    · obtain ⟨o, _, _, _, e, ex, _⟩ := I.hok p _ hk
      refine ⟨⟨o, e, ex.1⟩, fun a e2 => ?_⟩
      cases e2
      exact ⟨o, e, ex.2.1⟩
  | _ => exact False.elim ty
def tBM0 (K : PySem.W.Frag) (T : String) (r : V → List V → Hp → VK → Prop) (to : TE) : TE := fun σ H Q => to σ H fun x H1 => tyV K T x H1 ∧ r x [] H1 Q
def tBM (K : PySem.W.Frag) (T : String) (r : V → List V → Hp → VK → Prop) (to : TE) (t : TA) : TE := fun σ H Q => to σ H fun x H1 => tyV K T x H1 ∧ t σ H1 fun xs H2 => r x xs H2 Q
variable {o e : Expr} {es : List Expr} {to : TE} {t : TA} {name : Str} {apos cpos : Pos} {T id : String} {r : V → List V → Hp → VK → Prop}
theorem pe_bm0 (pa : PlainAttrs T) (slot : Slot T name id) (hty : typeOf (.builtin id) = pure (.type "method_descriptor")) (hm : MtR X id r) (ho : PE X o to)
    (hbase : attributeBase o name X.env (eval o X.env) = eval o X.env := by rfl) (hline : (apos.endLine == cpos.line) = true := by rfl) : PE X (.Call (.Attribute o name apos) [] [] cpos) (tBM0 X.K T r to) := by
  intro pins s σ H Q I h
  refine wpAny_Call_method0_late hbase hline (thn (ho pins s σ H _ I h) fun v s1 ⟨x, H1, I1, r1, ty, q1⟩ => ?_)
  obtain ⟨h1, h2⟩ := tyV_is I1 r1 ty
  exact ⟨T, id, pa, slot, hty, h1, h2, Calls.callWith_builtin rfl (PySem.evalArgs_none (hm pins s1 σ H1 x [] v [] Q I1 r1 .nil q1))⟩
theorem pe_bm (pa : PlainAttrs T) (slot : Slot T name id) (hty : typeOf (.builtin id) = pure (.type "method_descriptor")) (hm : MtR X id r) (ho : PE X o to) (ha : PA X (e :: es) t)
    (hbase : attributeBase o name X.env (eval o X.env) = eval o X.env := by rfl)
    (hfew : ((backTo cpos (starEach (e :: es) X.env)).all (fun x => !x.1) && (backToKw cpos (keywordEach [] X.env)).all (fun x => x.1.isSome)
      && decide ((e :: es).length + ([] : List Keyword).length + (if ([] : List Keyword).isEmpty then 0 else 1) < 30)) = true := by rfl)
    (hline : (apos.endLine == cpos.line) = true := by rfl) (hs : starEach (e :: es) X.env = (false, eval e X.env) :: starEach es X.env := by rfl) (hplain : (backTo cpos (starEach es X.env)).any (·.1) = false := by rfl) :
    PE X (.Call (.Attribute o name apos) (e :: es) [] cpos) (tBM X.K T r to t) := by
  intro pins s σ H Q I h
  refine wpAny_Call_method_late hbase hfew hline rfl (thn (ho pins s σ H _ I h) fun v s1 ⟨x, H1, I1, r1, ty, q1⟩ => ?_)
  obtain ⟨h1, h2⟩ := tyV_is I1 r1 ty
  refine ⟨T, id, pa, slot, hty, h1, h2, ?_⟩
  have hA := ha cpos pins s1 σ H1 _ I1 q1
  rw [hs] at hA ⊢
  refine Calls.callWith_builtin (by show (false || (backTo cpos (starEach es X.env)).any (·.1)) = false; rw [hplain] <;> rfl) (Calls.evalArgs_plain ?_)
  exact thn hA fun us s2 ⟨vs, H2, I2, r2, q2⟩ => hm pins s2 σ H2 x vs v us Q I2 r1 r2 q2
/- xs.append(e), list.index on a module's tuple .. are MtR facts of 06m -/
end
end L2

namespace L2
open PySem PySem.Spec PyProof.Rows

def MtM (X : Cx) (id : String) (r : V → List V → Hp → VK → Prop) : Prop :=
  ∀ (pins : List (Addr × Obj)) (s : Shared) (σ : St) (H : Hp) (x : V) (xs : List V) (v : Value) (us : List Value) (Q : VK), Inv X pins σ H s → RelV x v → Vals xs us → r x xs H Q →
    wpAny (model X.prog X.w) X.A (call (.builtin id) (v :: us)) (EP X pins σ Q) X.xe s

/-! ### lists of values -/
theorem Vals.one : ∀ {x : V} {us : List Value}, Vals [x] us → ∃ u, us = [u] ∧ RelV x u
  | _, _, .cons r .nil => ⟨_, rfl, r⟩
theorem Vals.two : ∀ {x y : V} {us : List Value}, Vals [x, y] us → ∃ u v, us = [u, v] ∧ RelV x u ∧ RelV y v
  | _, _, _, .cons r (.cons q .nil) => ⟨_, _, rfl, r, q⟩
theorem Vals.zero : ∀ {us : List Value}, Vals [] us → us = []
  | _, .nil => rfl
theorem Vals.rep {xs : List V} {us : List Value} (h : Vals xs us) : ∀ k : Nat, Vals (List.replicate k xs).flatten (List.replicate k us).flatten
  | 0 => .nil
  | k + 1 => by
    rw [List.replicate_succ, List.replicate_succ, List.flatten_cons, List.flatten_cons]
    exact Vals.append h (Vals.rep h k)
theorem foldl_rep (its : List Value) : ∀ (k : Nat) (acc : List Value),
    List.foldl (fun x1 x2 => x1 ++ x2) acc.toArray (List.replicate k its.toArray) = (acc ++ (List.replicate k its).flatten).toArray
  | 0, acc => by simp
  | k + 1, acc => by
    have e : acc.toArray ++ its.toArray = (acc ++ its).toArray := by simp
    have e2 : (acc ++ its) ++ (List.replicate k its).flatten = acc ++ (List.replicate (k + 1) its).flatten := by
      rw [List.replicate_succ, List.flatten_cons, List.append_assoc]
    rw [← e2, ← foldl_rep its k (acc ++ its), ← e, List.replicate_succ, List.foldl_cons]

section
variable {X : Cx} {pins : List (Addr × Obj)} {σ : St} {H : Hp} {s : Shared} {l b : Addr} {xs ys zs : List V}

/-! ### the two steps: a tracked list is rewritten, a new list is laid -/
theorem Inv.lset {its its' : List Value} {n : Nat} {f : Array Value → Array Value} {t' : Nat} (I : Inv X pins σ H s) (hH : H l = some (.lst xs))
    (e : s.heap.get? l = some { cls := .type "list", data := .seq its.toArray n }) (hf : f its.toArray = its'.toArray) (hv : Vals ys its') (hz : ys.length ≤ sizeLine) (ht : 0 < t' := by first | assumption | exact Nat.succ_pos _ | (apply Inv.tk; assumption)) :
    Inv X pins σ (upd H l (.lst ys)) { s with heap := s.heap.update l (Obj.mapSeq f), toks := t' } := by
  have q := PySem.IsL.update e f
  rw [hf] at q
  refine I.write (x := l) (e := l) (by rw [hH]; exact trivial) (.inl rfl) (fun b' u hb hu => (Heap.get?_update_other s.heap (Obj.mapSeq f) (Ne.symm hb)).trans hu) ⟨_, q⟩ ?_
  exact ⟨hz, its', _, hv, q⟩
theorem Inv.lnew {its : List Value} {t' : Nat} (I : Inv X pins σ H s) (hv : Vals ys its) (hz : ys.length ≤ sizeLine) (ht : 0 < t' := by first | assumption | exact Nat.succ_pos _ | (apply Inv.tk; assumption)) :
    Inv X pins σ (upd H s.heap.objs.size (.lst ys)) { s with heap := s.heap.push { cls := .type "list", data := .seq its.toArray }, toks := t' } :=
  I.laid (fun _ _ q => Heap.get?_push_of_some _ q) (Nat.le_refl _) ⟨hz, its, 0, hv, Heap.get?_push_size _ rfl⟩
theorem Inv.fresh (I : Inv X pins σ H s) : H s.heap.objs.size = none := I.hok.fresh (Nat.le_refl _)
theorem Inv.lstM (I : Inv X pins σ H s) (hH : H l = some (.lst xs)) : xs.length ≤ sizeLine ∧ ∃ (its : List Value) (n : Nat), Vals xs its ∧ xs.length = its.length ∧ s.heap.get? l = some { cls := .type "list", data := .seq its.toArray n } := by
  obtain ⟨z, its, n, r, e⟩ := I.hok l _ hH
  exact ⟨z, its, n, r, r.length, e⟩

theorem notLongL {n : Nat} (h : n ≤ sizeLine) : Builtin.List.listTooLong n = false := by
  unfold Builtin.List.listTooLong
  exact decide_eq_false (by omega)
end

section
variable {X : Cx}

/-! ### methods -/
def rAppend : V → List V → Hp → VK → Prop := fun x vs H Q => ∃ l xs y, x = .ref l ∧ vs = [y] ∧ H l = some (.lst xs) ∧ xs.length < sizeLine ∧ Q .non (upd H l (.lst (xs ++ [y])))
theorem mt_append : MtM X "list.append" rAppend := by
  intro pins s σ H x vs v us Q I rx rv h
  obtain ⟨l, xs, y, rfl, rfl, hH, hz, q⟩ := h
  cases rx
  obtain ⟨u, rfl, ru⟩ := rv.one
  obtain ⟨z, its, n, r, hl, e⟩ := I.lstM hH
  refine call_meets F.slot_list_append ⟨_, e, rfl⟩ F.entry_list_append (F.args_list_append_2 _ _) (PySem.list_append l its.toArray n u (by rw [List.size_toArray]; omega)) ⟨e, ?_⟩
  refine ⟨.non, _, I.lset (its' := its ++ [u]) hH e (by simp) (r.append (.cons ru .nil)) ?_, rfl, q⟩
  rw [List.length_append, List.length_singleton]
  omega

def rExtend : V → List V → Hp → VK → Prop := fun x vs H Q => ∃ l b xs zs, x = .ref l ∧ vs = [.ref b] ∧ H l = some (.lst xs) ∧ H b = some (.lst zs) ∧ xs.length + zs.length ≤ sizeLine ∧ Q .non (upd H l (.lst (xs ++ zs)))
theorem mt_extend : MtM X "list.extend" rExtend := by
  intro pins s σ H x vs v us Q I rx rv h
  obtain ⟨l, b, xs, zs, rfl, rfl, hH, hB, hz, q⟩ := h
  cases rx
  obtain ⟨u, rfl, ru⟩ := rv.one
  cases ru
  obtain ⟨z, its, n, r, hl, e⟩ := I.lstM hH
  obtain ⟨z2, its2, n2, r2, hl2, e2⟩ := I.lstM hB
  have hsz : its.toArray.size + its2.toArray.size ≤ sizeLine := by rw [List.size_toArray, List.size_toArray]; omega
  have hlong : ¬ (!its.toArray.isEmpty && Builtin.List.listTooLong (its.toArray.size + its2.toArray.size)) = true := by
    rw [notLongL hsz, Bool.and_false]
    exact Bool.false_ne_true
  refine call_meets F.slot_list_extend ⟨_, e, rfl⟩ F.entry_list_extend (F.args_list_extend_2 _ _)
    (AutoSeq1.list_extend_list_list_0 l its.toArray n b its2.toArray n2 hlong (by rw [List.size_toArray]; omega) (by omega)) ⟨e, e2, ?_⟩
  refine ⟨.non, _, I.lset (its' := its ++ its2) hH e (by simp) (r.append r2) ?_, rfl, q⟩
  rw [List.length_append]
  omega





/-! ### list + list, list += list, list * int -/
def rCat : R2 := fun x y H Q => ∃ l b xs zs, x = .ref l ∧ y = .ref b ∧ H l = some (.lst xs) ∧ H b = some (.lst zs) ∧ xs.length + zs.length ≤ sizeLine ∧ ∀ p, H p = none → Q (.ref p) (upd H p (.lst (xs ++ zs)))
theorem op_cat : OpR X (binaryOp .Add) rCat := by
  intro pins s σ H x y v u Q I rx ry h
  obtain ⟨l, b, xs, zs, rfl, rfl, hH, hB, hz, q⟩ := h
  cases rx
  cases ry
  obtain ⟨z, its, n, r, hl, e⟩ := I.lstM hH
  obtain ⟨z2, its2, n2, r2, hl2, e2⟩ := I.lstM hB
  refine PySem.P.add_list e e2 ?_ (by rw [List.size_toArray, List.size_toArray]; omega)
  have ea : its.toArray ++ its2.toArray = (its ++ its2).toArray := by simp
  rw [ea]
  exact ⟨.ref _, _, I.lnew (t' := s.toks) (r.append r2) (by rw [List.length_append]; omega), rfl, q _ I.fresh⟩
/-- a list times an int (a negative one is nothing) -/
def rRep : R2 := fun x y H Q => ∃ l k xs, x = .ref l ∧ y = .int k ∧ H l = some (.lst xs) ∧ -(2 ^ 63) ≤ k ∧ k < 2 ^ 63 ∧ xs.length * k.toNat ≤ sizeLine ∧
  ∀ p, H p = none → Q (.ref p) (upd H p (.lst (List.replicate k.toNat xs).flatten))
theorem len_rep {α : Type} (xs : List α) (k : Nat) : (List.replicate k xs).flatten.length = k * xs.length := by
  induction k with
  | zero => simp
  | succ k ih => rw [List.replicate_succ, List.flatten_cons, List.length_append, ih, Nat.succ_mul, Nat.add_comm]
theorem op_rep : OpR X (binaryOp .Mult) rRep := by
  intro pins s σ H x y v u Q I rx ry h
  obtain ⟨l, k, xs, rfl, rfl, hH, h1, h2, hz, q⟩ := h
  cases rx
  obtain ⟨t, rfl⟩ := ry
  obtain ⟨z, its, n, r, hl, e⟩ := I.lstM hH
  have hlen : its.toArray.size * k.toNat ≤ sizeLine := by rw [List.size_toArray, ← hl]; exact hz
  have hcap : ¬ its.toArray.size * k.toNat > (2 ^ 63 - 1) / 8 := by
    have : (sizeLine : Nat) ≤ (2 ^ 63 - 1) / 8 := by decide
    omega
  have hfit : ¬ (!Builtin.List.listFitsIndex k) = true := by
    rw [fitsIndex_both h1 h2]
    exact Bool.false_ne_true
  have hlong : ¬ Builtin.List.listTooLong (its.toArray.size * k.toNat) = true := by
    rw [notLongL hlen]
    exact Bool.false_ne_true
  have hnew : List.foldl (fun x1 x2 => x1 ++ x2) #[] (List.replicate (if its.toArray.isEmpty = true then 0 else k.toNat) its.toArray) = (List.replicate k.toNat its).flatten.toArray := by
    have f0 : ∀ m : Nat, List.foldl (fun x1 x2 => x1 ++ x2) #[] (List.replicate m its.toArray) = (List.replicate m its).flatten.toArray := fun m => by
      have := foldl_rep its m []
      rw [List.nil_append] at this
      exact this
    rw [f0]
    cases its with
    | nil => simp
    | cons a r' => rw [if_neg (by simp)]
  refine wpAny_binaryOp_repeat_ref (T := "list") (U := "int") (by decide) ⟨_, e, rfl⟩ (fun s' => typeIs_int s' k t) noFill_list_mul F.fills_int_mul F.slot_int_rmul repeat_list F.slot_int_index.lookup
    (call_meets F.slot_int_rmul (typeIs_int s k t) F.entry_int_rmul (F.args_int_rmul_2 _ _) (int___rmul___int_list k t l its.toArray n)
      ⟨e, rfl, ⟨_, e, rfl⟩, call_meets F.slot_list_mul ⟨_, e, rfl⟩ F.entry_list_mul (F.args_list_mul_2 _ _) (AutoListH.list___mul___list_int_3 l its.toArray n k t hfit hcap hlong) ⟨e, ?_⟩⟩)
  rw [hnew]
  exact ⟨.ref _, _, I.lnew (t' := s.toks) (r.rep k.toNat) (by rw [len_rep, Nat.mul_comm]; exact hz), rfl, q _ I.fresh⟩

/-! ### del xs[i] -/
end

/-! ### xs[a:b] = ys -/
section
variable {prog : Program} {w : World} {A : Around} {E : Value → Shared → Prop} {s : Shared}
set_option maxRecDepth 100000 in
end

section
variable {X : Cx}
end
end L2

namespace Att
open PySem PySem.W PySem.Calls PyProof.Rows

/-! ### the script -/



/-! ### the attachment: holds_open's last premise (the goal 'hc' behind k_head) from a wpAny of the law's body -/



/-! ### rules over ANY heap (no ledger) from facts about the written part K: the library's own take a ledger (News) for what they write -/
section
variable {prog : Program} {w : World} {A : Around} {E : Value → Shared → Prop} {s : Shared} {K : Frag}





/-! the whole heap as the ledger: makes every rule that writes through a ledger a rule over any heap -/

end
end Att

namespace L2
open PySem PySem.Spec PyProof.Rows

theorem vals_ints : ∀ {vs : List Value} {ns : List Int}, IntsAre vs ns → Vals (ns.map V.int) vs
  | _, _, .nil => .nil
  | _, _, .cons n t h => .cons ⟨t, rfl⟩ (vals_ints h)


end L2

namespace L2
open PySem PySem.Spec PyProof.Rows

abbrev KOf {K : PySem.W.Frag} {h : Heap} (_ : K.In h) : PySem.W.Frag := K

end L2



/-! SHORT WORDS over the layer: a def of the text, its body, what a loop and a test want. -/
namespace L2
open PySem PySem.Spec PyProof.Rows

/-! ### the text by places -/
def defArgs (s : Stmt) : Arguments := match s with
  | .FunctionDef _ a _ _ _ _ _ _ _ _ => a
  | _ => { posonlyargs := [], args := [], vararg := none, kwonlyargs := [], kw_defaults := [], kwarg := none, defaults := [] }
def defBody (s : Stmt) : List Stmt := match s with
  | .FunctionDef _ _ b _ _ _ _ _ _ _ => b
  | _ => []
def defScope (s : Stmt) : Scope := match s with
  | .FunctionDef _ _ _ _ _ _ sc _ _ _ => sc
  | _ => { kind := .function, names := [], isGenerator := false, isCoroutine := false }

/-! ### no exception leaves a def -/
abbrev CX0 : CXT := fun _ _ _ _ _ _ => False
abbrev E0 : XK := fun _ _ _ => False
theorem pass0 {X : Cx} : Passes CX0 X E0 := fun _ _ _ _ _ _ _ h => h.elim

/-! ### a def (or method) of the text as it stands behind the top -/
structure Fun (K : PySem.W.Frag) (x qual : Str) (st : Stmt) (f : Addr) (fd : FuncData) : Prop where
  ex : ∃ (oc : Value) (od : Option Addr) (kV doc pm : Value) (an : Option Addr) (cdv ct : Value) (osl : Array (Option Value)),
    fd = PySem.W.fnOf x qual (defArgs st) (defBody st) (defScope st) .none kV doc pm an cdv ct ∧ K.lookup f = some ⟨oc, od, .func fd, osl⟩ ∧ PySem.W.codeIn K cdv qual = true
  kp : PySem.W.keepIn K (.ref f) = true
section
variable {P : Program} {w : World} {K : PySem.W.Frag} {mg : Str → Option Value} {base : Heap}
/-- THE RULE for a def: its body as a term of rules, and the reading of that term -/
theorem Fun.ok {x qual : Str} {st : Stmt} {f : Addr} {fd : FuncData} {N ps : List Str} {k : Nat} {sp : Sp} (F : Fun K x qual st f fd) (S : FnScope N ps (defScope st)) (len : ∀ vs H Q E, sp vs H Q E → vs.length = ps.length)
    (hbody : ∀ (cdv : Value) (A : Around) (outer : List Env) (s : Shared) (H : Hp) (vs : List V) (Q : VK) (E : XK), Room k (A.deeper (envOfC qual (defScope st) s.heap.objs.size f cdv)) → sp vs H Q E →
      ∃ t, PSs (cxOf CX0 P w K mg base N qual (defScope st) f cdv A outer s H E).nox (defBody st) t ∧ t { nx := fun _ H' => Q .non H', rt := Q } (start N vs) H) : FnOk P w K mg base CX0 (k + 1) f fd ps sp := by
  obtain ⟨oc, od, kV, doc, pm, an, cdv, ct, osl, rfl, lk, hcd⟩ := F.ex
  refine fn_of lk hcd S len fun A outer s H vs Q E hr hsp => ?_
  obtain ⟨t, h, q⟩ := hbody cdv A outer s H vs Q E hr hsp
  exact ⟨t, h.nox, q⟩
/-- how its arguments bind (no defaults): h is «fun _ _ _ _ _ _ us hl => match us, hl with | [_, _], _ => rfl», one _ a parameter -/
theorem Fun.binds {x qual : Str} {st : Stmt} {f : Addr} {fd : FuncData} {ps : List Str} (F : Fun K x qual st f fd)
    (h : ∀ (kV doc pm : Value) (an : Option Addr) (cdv ct : Value) (us : List Value), us.length = ps.length → bindArgs (PySem.W.fnOf x qual (defArgs st) (defBody st) (defScope st) .none kV doc pm an cdv ct) ⟨us, []⟩ = pure (ps.zip us)) : Binds K fd ps [] := by
  obtain ⟨oc, od, kV, doc, pm, an, cdv, ct, osl, rfl, lk, hcd⟩ := F.ex
  exact .all (h kV doc pm an cdv ct)
theorem fun_mk {x qual : Str} {st : Stmt} {f : Addr} {oc : Value} {od an : Option Addr} {osl : Array (Option Value)} {kV doc pm cdv ct : Value} (l : K.lookup f = some ⟨oc, od, .func (PySem.W.fnOf x qual (defArgs st) (defBody st) (defScope st) .none kV doc pm an cdv ct), osl⟩)
    (c : PySem.W.codeIn K cdv qual = true) (k : PySem.W.keepIn K (.ref f) = true) : Fun K x qual st f (PySem.W.fnOf x qual (defArgs st) (defBody st) (defScope st) .none kV doc pm an cdv ct) := ⟨⟨oc, od, kV, doc, pm, an, cdv, ct, osl, rfl, l, c⟩, k⟩
end

/-! ### expressions in short: the name that stands in the i-th slot -/
section
variable {X : Cx}
theorem pv (i : Nat) {x : Str} {pos : Pos} (hN : X.N[i]? = some x := by rfl) (hv : Vis X.env.scope x := by first | exact Or.inl rfl | exact Or.inr (Or.inl rfl) | exact Or.inr (Or.inr rfl)) (hd : (x == ("__debug__" : Str)) = false := by decide)
    (hcd : (x == ("__classdict__" : Str)) = false := by decide) : PE X (.Name x pos) (tVar i) := pe_var hN hv hd hcd
end

/-! ### tests -/
theorem iteF {A B : Prop} (h : B) : if false = true then A else B := by
  rw [if_neg Bool.false_ne_true]
  exact h
theorem iteT {A B : Prop} (h : A) : if true = true then A else B := by
  rw [if_pos rfl]
  exact h
theorem ite2 {c A B : Prop} [Decidable c] (h1 : c → A) (h2 : ¬ c → B) : if c then A else B := by
  by_cases h : c
  · rw [if_pos h]
    exact h1 h
  · rw [if_neg h]
    exact h2 h

/-! ### heaps -/
/-- all that was tracked is as it was -/
def Same (H H' : Hp) : Prop := ∀ b o, H b = some o → H' b = some o
theorem Same.refl (H : Hp) : Same H H := fun _ _ h => h
theorem Same.trans {H H1 H2 : Hp} (a : Same H H1) (b : Same H1 H2) : Same H H2 := fun c o h => b c o (a c o h)
theorem Same.free {H H' : Hp} (e : Same H H') {l : Addr} (h : H' l = Option.none) : H l = Option.none := by
  cases q : H l with
  | none => rfl
  | some o =>
    rw [e l o q] at h
    cases h
theorem Same.seq {K : PySem.W.Frag} {H H' : Hp} {a : Addr} {xs : List V} (e : Same H H') (h : SqL K H a xs) : SqL K H' a xs := by
  rcases h with (h | ⟨o, h⟩) | h
  · exact .inl (.inl (e _ _ h))
  · exact .inl (.inr ⟨o, e _ _ h⟩)
  · exact .inr h

end L2

set_option Elab.async false
set_option linter.all false
set_option maxRecDepth 100000
/-! A list comprehension of one clause, no exception leaving it. -/
namespace L2
open PySem PySem.Spec PyProof.Rows

def CellsIn (env : Env) : List (Str × Addr) → Prop
  | [] => True
  | p :: r => env.cells.lookup p.1 = some p.2 ∧ CellsIn env r
theorem CellsIn.look {env : Env} : ∀ {cl : List (Str × Addr)}, CellsIn env cl → ∀ x c, cl.lookup x = some c → env.cells.lookup x = some c
  | [], _, x, c, e => by simp at e
  | p :: r, h, x, c, e => by
    obtain ⟨n, a⟩ := p
    rw [List.lookup_cons] at e
    cases q : x == n with
    | true =>
      rw [q] at e
      have q' : x = n := eq_of_beq q
      subst q'
      cases e
      exact h.1
    | false =>
      rw [q] at e
      exact h.2.look x c e

/-- the comprehension's own context -/
abbrev compX (X : Cx) (scope : Scope) (cl : List (Str × Addr)) (C : Addr) (N' : List Str) (fp : List Addr) (s : Shared) (H : Hp) : Cx :=
  { X with N := N', s₀ := s, H₀ := H, env := compEnvC scope cl C X.env, outer := X.stack, ex := fp, fn := fun _ => false, pn := [], xe := fun _ _ => False }
/-- its slots: own names, none yet; then those of the outer frame that it reads -/
def nfS (k : Nat) (fr : List Nat) (σ : St) : St := List.replicate k none ++ fr.map fun j => (σ[j]?).join
/-- what is asked of the block's names: own: its targets; fr: the outer slots of the names that it reads -/
structure CompN (X : Cx) (scope : Scope) (cl : List (Str × Addr)) (own : List Str) (fr : List Nat) (N' : List Str) : Prop where
  kind : scope.kind = .function
  cells : CellsIn X.env cl
  has : ∀ x, ((relabel scope X.env).names.lookup x = some .cell ∨ (relabel scope X.env).names.lookup x = some .free) → ∃ c, cl.lookup x = some c
  nd : N'.Nodup
  len : N'.length = own.length + fr.length
  free : ∀ (i : Nat) (j : Nat), fr[i]? = some j → ∃ x, X.N[j]? = some x ∧ N'[own.length + i]? = some x ∧ (X.env.kindOf x = some .cell ∨ X.env.kindOf x = some .free) ∧
    ((relabel scope X.env).names.lookup x = some .cell ∨ (relabel scope X.env).names.lookup x = some .free)

section
variable {X : Cx} {pins : List (Addr × Obj)} {σ : St} {H : Hp} {s s4 : Shared} {scope : Scope} {cl : List (Str × Addr)} {own : List Str} {fr : List Nat} {N' : List Str} {fp : List Addr} {C : Addr} {H4 : Hp}
theorem comp_ok (I : Inv X pins σ H s) (Z : CompN X scope cl own fr N') (hC : s.heap.objs.size ≤ C) (hf : ∀ b ∈ fp, FpOk X pins H b) (ho : ∀ b ∈ fp, ∃ o, s.heap.get? b = some o ∧ ∀ v, o.data ≠ .cell v) : (compX X scope cl C N' fp s H).Ok where
  mod := I.ok.mod
  kind := Z.kind
  glob := I.ok.glob
  blt := I.ok.blt
  above := hC
  inj := fun x y c h1 h2 => I.ok.inj x y c (Z.cells.look x c h1) (Z.cells.look y c h2)
  has := fun x h => Z.has x h
  cab := fun x c h _ => Bool.noConfusion h
  hd := I.ok.hd
  frames := I.ok.frames
  stk := .inl rfl
  exf := fun b hb => by
    obtain ⟨o, e, _⟩ := ho b hb
    refine ⟨Nat.ne_of_lt (Nat.lt_of_lt_of_le (Heap.lt_size e) hC), fun x c h => ?_⟩
    exact (hf b hb).2.2.2.2.1 x c (Z.cells.look x c h)
  bs := I.bs
  bsz := Nat.le_trans I.ok.bsz I.sz
  noex := fun b o e hb => by
    rcases (hf b hb).2.2.2.1 with z | z
    · exact I.ok.noex b o e z
    · exact absurd (Nat.lt_of_lt_of_le (Heap.lt_size e) (Nat.le_trans I.ok.bsz z)) (Nat.lt_irrefl _)
  exfs := fun b hb z => by
    rcases List.mem_cons.mp (I.stkSub b z) with e | e
    · exact (hf b hb).2.1 e
    · exact (hf b hb).2.2.1 e
  funs := I.stack
  frf := I.stkFree

theorem comp_inv (I : Inv X pins σ H s) (Z : CompN X scope cl own fr N') (hC : s.heap.objs.size ≤ C) (hf : ∀ b ∈ fp, FpOk X pins H b) (ho : ∀ b ∈ fp, ∃ o, s.heap.get? b = some o ∧ ∀ v, o.data ≠ .cell v)
    (os : s4.os = s.os) (bare : AllBare s4.gens) (un : Un (frs X.stack) fp H H4 s.heap s4.heap) (ns : ∃ m, s4.heap.Ns C m) (kc : ∀ x c v, X.env.cells.lookup x = some c → s.heap.IsCell c v → s4.heap.IsCell c v)
    (fr4 : H4 C = none) (hok : HOk X.prog X.w H4 s4.heap) (tk : 0 < s4.toks) : Inv (compX X scope cl C N' fp s H) [] (nfS own.length fr σ) H4 s4 where
  ok := comp_ok I Z hC hf ho
  os := os
  bare := bare
  base := un
  loc := by
    obtain ⟨m, hm⟩ := ns
    refine ⟨m, hm, fun i x v h1 h2 h3 => ?_⟩
    unfold nfS at h2
    by_cases hi : i < own.length
    · rw [List.getElem?_append_left (by simpa using hi), List.getElem?_replicate, if_pos hi] at h2
      cases h2
    · rw [List.getElem?_append_right (by simpa using hi), List.length_replicate, List.getElem?_map] at h2
      cases q : fr[i - own.length]? with
      | none => rw [q] at h2; cases h2
      | some j =>
        rw [q] at h2
        have h2' : (σ[j]?).join = some v := Option.some.inj h2
        obtain ⟨y, e1, e2, e3, e4⟩ := Z.free _ j q
        have ei : own.length + (i - own.length) = i := by omega
        rw [ei] at e2
        have h1' : N'[i]? = some x := h1
        rw [e2] at h1'
        cases h1'
        have hs : σ[j]? = some (some v) := by
          cases r : σ[j]? with
          | none => rw [r] at h2'; cases h2'
          | some w => rw [r] at h2'; cases w with
            | none => cases h2'
            | some w => cases h2'; rfl
        obtain ⟨m0, _, hl⟩ := I.loc
        have vis : Vis X.env.scope x := e3.elim (fun z => .inr (.inl z)) fun z => .inr (.inr z)
        obtain ⟨u, ru, lk⟩ := hl j x v e1 hs vis
        refine ⟨u, ru, ?_⟩
        rcases lk with ⟨k, _⟩ | ⟨_, c, ec, hc⟩
        · rcases e3 with z | z <;> (rw [k] at z; cases z)
        · obtain ⟨c', ec'⟩ := Z.has x e4
          have := Z.cells.look x c' ec'
          rw [ec] at this
          cases this
          exact .inr ⟨e4, c, ec', kc x c _ ec hc⟩
  cell := fun x c e => by
    have e' := Z.cells.look x c e
    obtain ⟨v, hv⟩ := I.cell x c e'
    exact ⟨v, kc x c v e' hv⟩
  free := fr4
  freeC := fun x c e => by
    have e' := Z.cells.look x c e
    obtain ⟨v, o, hv, _⟩ := I.cell x c e'
    refine un.free c o hv (I.freeC x c e') fun hb => ?_
    exact (hf c hb).2.2.2.2.1 x c e' rfl
  pin := fun p hp => absurd (show p ∈ ([] : List (Addr × Obj)) from hp) (by simp)
  hok := hok
  len := by
    show (nfS own.length fr σ).length = N'.length
    unfold nfS
    rw [List.length_append, List.length_replicate, List.length_map, Z.len]
  tk := tk

/-- behind the block: the outer invariant again -/
theorem comp_out {σ' : St} (I : Inv X pins σ H s) (hf : ∀ b ∈ fp, FpOk X pins H b) {pins' : List (Addr × Obj)} (J : Inv (compX X scope cl C N' fp s H) pins' σ' H4 s4) : Inv X pins σ H4 s4 :=
  I.call' J.os J.base J.hok J.bare (fun b hb => ⟨(hf b hb).2.2.2.1, (hf b hb).2.1, (hf b hb).2.2.2.2.1, (hf b hb).2.2.2.2.2⟩) J.tk
theorem comp_gone {C : Addr} {h' : Heap} (I0 : Inv X pins σ H s) (hC : s.heap.objs.size ≤ C) {σ' : St} (I : Inv X pins σ' H4 s4) (fr4 : H4 C = none) (hs : Heap.SameBut C s4.heap h') : Inv X pins σ' H4 { s4 with heap := h' } := by
  refine I.turned (t' := s4.toks) (it := C) (fun b o hb e => (hs.2 b hb).trans e) fr4 ?_ (.inr (Nat.le_trans I0.sz hC)) ?_ ?_
  · exact Nat.ne_of_gt (Nat.lt_of_lt_of_le I0.lt hC)
  · intro x c e z
    obtain ⟨v, q⟩ := I0.cell x c e
    exact absurd (Nat.lt_of_lt_of_le q.lt (by rw [z]; exact hC)) (Nat.lt_irrefl _)
  · intro p hp z
    exact absurd (Nat.lt_of_lt_of_le (Heap.lt_size (I0.pin p hp).1) (by rw [z]; exact hC)) (Nat.lt_irrefl _)
end

/-! ### the loop of the block -/
/-- the tests of the clause -/
def PTs (X : Cx) (ifs : List Expr) (t : TT) : Prop :=
  ∀ (pins : List (Addr × Obj)) (s : Shared) (σ : St) (H : Hp) (Q : Bool → Hp → Prop), Inv X pins σ H s → t σ H Q →
    wpAny (model X.prog X.w) X.A (forIn ifs true fun c r => if r = true then do let ok ← isTrue c X.env (eval c X.env); pure (ForInStep.yield ok) else pure (ForInStep.yield r)) (TP X pins σ Q) X.xe s
def tYes : TT := fun _ H Q => Q true H
theorem pts_nil {X : Cx} : PTs X [] tYes := fun _ _ _ H _ I h => wpAny_tests_nil ⟨H, I, h⟩
theorem pts_one {X : Cx} {c : Expr} {t : TT} (h : PT X c t) : PTs X [c] t := fun pins s σ H Q I q => wpAny_tests_one (h pins s σ H Q I q)

section
variable {prog : Program} {w : World} {A : Around} {R : Result → Shared → Prop} {s : Shared}
theorem compLoop_any {elt target iter : Expr} {ifs : List Expr} {scope : Scope} {pos : Pos} {it acc : Value} {env : Env} (I : Nat → Shared → Prop)
    (turn : ∀ n s, I n s → wpAny (model prog w) A (pyNext it) (fun r s₁ => match r with
      | none => R (.ok .next) s₁
      | some v => wpAny (model prog w) A (letOwnedTupleGo target it v) (fun _ s₂ => wpAny (model prog w) A (assign target env v) (fun _ s₂ =>
          wpAny (model prog w) A (forIn ifs true fun c r => if r = true then do let ok ← isTrue c env (eval c env); pure (ForInStep.yield ok) else pure (ForInStep.yield r)) (fun ok s₃ =>
            if ok = true then wpAny (model prog w) A (eval elt env) (fun x s₄ =>
              wpAny (model prog w) A (call (.builtin "list.append") [acc, x]) (fun _ s₅ => ∃ m, m < n ∧ I m s₅) (fun _ _ => False) s₄) (fun _ _ => False) s₃
            else ∃ m, m < n ∧ I m s₃) (fun _ _ => False) s₂) (fun _ _ => False) s₂) (fun _ _ => False) s₁) (fun _ _ => False) s)
    (n : Nat) (h : I n s) :
    codeAny (model prog w) A (.compLoop (.ListComp elt [⟨target, iter, ifs, 0⟩] scope pos) 0 it acc env) R s := by
  have no : ∀ {E : Value → Shared → Prop} (e : Value) (s' : Shared), (fun _ _ => False : Value → Shared → Prop) e s' → E e s' := fun _ _ z => False.elim z
  refine codeAny_loop rfl I (fun n s hI => ?_) n h
  show wpAny _ A ((compTurn (.ListComp elt [⟨target, iter, ifs, 0⟩] scope pos) 0 it acc env).onRaise (fun x => do noteFrame x env; theTreesLotGoes x)) _ _ s
  refine wpAny_noted ?_
  rw [compTurn_list]
  refine wpAny_bind (wpAny_standAt (wpAny_bind (wpAny_mono (turn n s hI) (fun r s₁ h₁ => ?_) no)))
  cases r with
  | none => exact wpAny_pure h₁
  | some v =>
    refine wpAny_bind (wpAny_mono h₁ (fun _ s₂ h₂ => ?_) no)
    refine wpAny_bind (wpAny_mono h₂ (fun _ s₂ h₂ => wpAny_bind (wpAny_mono h₂ (fun ok s₃ h₃ => ?_) no)) no)
    cases ok with
    | false => exact wpAny_pure ⟨rfl, h₃⟩
    | true =>
      exact wpAny_bind (wpAny_bind (wpAny_mono h₃ (fun x s₄ h₄ => wpAny_bind (wpAny_mono h₄ (fun _ s₅ h₅ => wpAny_pure (wpAny_pure ⟨rfl, h₅⟩)) no)) no))
end

/-- the frame's slots behind a turn still hold what the block reads -/
def nfLe (k : Nat) (fr : List Nat) (σ σ2 : St) : Prop := σ2.length = (nfS k fr σ).length ∧ ∀ (i : Nat) (v : V), (nfS k fr σ)[i]? = some (some v) → σ2[i]? = some (some v)
theorem nfLe.refl (k : Nat) (fr : List Nat) (σ : St) : nfLe k fr σ (nfS k fr σ) := ⟨rfl, fun _ _ h => h⟩
theorem nfLe.set {k : Nat} {fr : List Nat} {σ σ2 : St} {i : Nat} (h : nfLe k fr σ σ2) (hi : i < k) (x : Option V) : nfLe k fr σ (σ2.set i x) := by
  refine ⟨by rw [List.length_set]; exact h.1, fun j v e => ?_⟩
  by_cases hj : i = j
  · subst hj
    unfold nfS at e
    rw [List.getElem?_append_left (by simpa using hi), List.getElem?_replicate, if_pos hi] at e
    cases e
  · rw [List.getElem?_set_ne hj]
    exact h.2 j v e
/-- the reading of [elt for target in iter if ..] -/
def rLC (k : Nat) (fr : List Nat) (g : TG) (tt : TT) (te : TE) (σ : St) (J : It) (H1 : Hp) (Q : Addr → Hp → Prop) : Prop :=
  ∀ D, H1 D = none → ∃ W : Nat → Nat → List V → Hp → Prop, (∃ m, W 0 m [] (upd H1 D (.lst []))) ∧ ∀ i m acc H, W i m acc H → H D = some (.lst acc) ∧
    ((J.stop i H ∧ Q D H) ∨ (J.go i H ∧ ∀ x H', J.yld i H x H' → g x (nfS k fr σ) H' fun σ2 H2 => nfLe k fr σ σ2 ∧ tt σ2 H2 fun b H3 =>
      if b = true then te σ2 H3 fun y H4 => H4 D = some (.lst acc) ∧ acc.length < sizeLine ∧ ∃ m', m' < m ∧ W (i + 1) m' (acc ++ [y]) (upd H4 D (.lst (acc ++ [y])))
      else ∃ m', m' < m ∧ W (i + 1) m' acc H3))
def tLC (wi : TI) (k : Nat) (fr : List Nat) (g : TG) (tt : TT) (te : TE) : TE := fun σ H Q => wi σ H fun J H1 => rLC k fr g tt te σ J H1 fun D H' => Q (.ref D) H'

section
variable {X : Cx} {scope : Scope} {cl : List (Str × Addr)} {own : List Str} {fr : List Nat} {N' : List Str} {tg iter elt : Expr} {ifs : List Expr} {wi : TI} {g : TG} {tt : TT} {te : TE} {pos : Pos}

/-- an iterator that may be walked in the contexts Cm -/
structure TurnP (Cm : Cx → Prop) (P : Program) (w : World) (K : PySem.W.Frag) (tg : Expr) (J : It) (fp : List Addr) (it : Addr) (tn : Nat → Heap → Prop) : Prop where
  obj : ∀ i h, tn i h → ∀ b ∈ fp, ∃ o, h.get? b = some o ∧ ∀ v, o.data ≠ .cell v
  keep : ∀ i h h', tn i h → (∀ b ∈ fp, ∀ o, h.get? b = some o → h'.get? b = some o) → tn i h'
  item : ∀ (X : Cx), X.prog = P → X.w = w → X.K = K → Cm X → ∀ (i : Nat) (pins : List (Addr × Obj)) (s : Shared) (σ : St) (H : Hp) (E : Value → Shared → Prop), Inv X pins σ H s → (∀ b ∈ fp, FpOk X pins H b) → tn i s.heap → J.go i H →
    wpAny (model P w) X.A (pyNext (.ref it)) (fun r s1 => ∃ u, r = some u ∧
      wpAny (model P w) X.A (letOwnedTupleGo tg (.ref it) u) (fun _ s2 => ∃ x H', Inv X pins σ H' s2 ∧ RelV x u ∧ J.yld i H x H' ∧ tn (i + 1) s2.heap ∧ ∀ b ∈ fp, H' b = none) E s1) E s
  done : ∀ (X : Cx), X.prog = P → X.w = w → X.K = K → Cm X → ∀ (i : Nat) (pins : List (Addr × Obj)) (s : Shared) (σ : St) (H : Hp) (E : Value → Shared → Prop), Inv X pins σ H s → (∀ b ∈ fp, FpOk X pins H b) → tn i s.heap → J.stop i H →
    wpAny (model P w) X.A (pyNext (.ref it)) (fun r s1 => r = none ∧ Inv X pins σ H s1) E s
  self : ∀ (A : Around) (i : Nat) (s : Shared) (Q : Value → Shared → Prop) (E : Value → Shared → Prop), tn i s.heap → Q (.ref it) s → wpAny (model P w) A (pyIter (.ref it)) Q E s
theorem Turn.toP {P : Program} {w : World} {K : PySem.W.Frag} {tg : Expr} {J : It} {fp : List Addr} {it : Addr} {tn : Nat → Heap → Prop} (T : Turn P w K tg J fp it tn) : TurnP (fun X => X.calm = true) P w K tg J fp it tn := ⟨T.obj, T.keep, T.item, T.done, T.self⟩
/-- the block from its iterator on: RR is what is wanted behind it -/
theorem comp_block {pins : List (Addr × Obj)} {σ : St} {H : Hp} {s : Shared} {it : Addr} {fp : List Addr} {tn : Nat → Heap → Prop} {J : It} {Q : Addr → Hp → Prop} {RR : Value → Addr → Result → Shared → Prop} {E : Value → Shared → Prop}
    {Cm : Cx → Prop} (hc : ∀ C, Cm (compX X scope cl C N' fp s H)) (Z : CompN X scope cl own fr N') (hcell : ∀ y ∈ scope.names, y.2 ≠ .cell)
    (hg : ∀ C, PG (compX X scope cl C N' fp s H) tg g) (ht : ∀ C, PTs (compX X scope cl C N' fp s H) ifs tt) (he : ∀ C, PE (compX X scope cl C N' fp s H) elt te)
    (I : Inv X pins σ H s) (T : TurnP Cm X.prog X.w X.K tg J fp it tn) (st : tn 0 s.heap) (hf : ∀ b ∈ fp, FpOk X pins H b) (q : rLC own.length fr g tt te σ J H Q)
    (hRR : ∀ D C s' H' , s.heap.objs.size ≤ C → (∃ m, s'.heap.Ns C m) → H' C = none → Inv X pins σ H' s' → Q D H' → RR (.ref D) C (.ok .next) s') :
    wpAny (model X.prog X.w) X.A (newList []) (fun acc s₃ => wpAny (model X.prog X.w) X.A (newFunctionEnv scope X.env.globals cl [] X.env.qual none .none (some X.env)) (fun cenv s₄ =>
      codeAny (model X.prog X.w) X.A (.compStart (.ListComp elt [⟨tg, iter, ifs, 0⟩] scope pos) 0 (.ref it) acc { cenv with scope := relabel scope X.env }) (RR acc cenv.locals) s₄) E s₃) E s := by
  refine wpAny_newObj_type (wpAny_newFunctionEnv hcell (by intro y hy; simp at hy) (fun h₁ hns₁ hsb₁ => ?_) Z.kind)
  dsimp only at hns₁ hsb₁ ⊢
  generalize hH2 : s.heap.push { cls := .type "list", dict := none, data := .seq ([] : List Value).toArray } = H2 at hns₁ hsb₁ ⊢
  have hC : H2.objs.size = s.heap.objs.size + 1 := by rw [← hH2, Heap.size_push]
  have hCle : s.heap.objs.size ≤ H2.objs.size := by rw [hC]; exact Nat.le_succ _
  have hDC : s.heap.objs.size ≠ H2.objs.size := by rw [hC]; exact Nat.ne_of_lt (Nat.lt_succ_self _)
  have old : ∀ b o, s.heap.get? b = some o → h₁.get? b = some o := fun b o e =>
    hsb₁.extBut b o (Nat.ne_of_lt (Nat.lt_of_lt_of_le (Heap.lt_size e) hCle)) (Heap.get?_push_of_some _ (hH2 ▸ Heap.get?_push_of_some _ e))
  have hD : h₁.get? s.heap.objs.size = some { cls := .type "list", dict := none, data := .seq ([] : List Value).toArray } :=
    hsb₁.extBut _ _ hDC (Heap.get?_push_of_some _ (hH2 ▸ Heap.get?_push_size _ rfl))
  have ho := T.obj _ _ st
  have frD : H s.heap.objs.size = none := I.hok.fresh (Nat.le_refl _)
  have frC : H H2.objs.size = none := I.hok.fresh hCle
  obtain ⟨W, ⟨m0, w0⟩, turn⟩ := q s.heap.objs.size frD
  have hok1 : HOk X.prog X.w (upd H s.heap.objs.size (.lst [])) h₁ := I.hok.laid old (Nat.le_refl _) ⟨Nat.zero_le _, [], 0, .nil, hD⟩
  have un1 : Un (frs X.stack) fp H (upd H s.heap.objs.size (.lst [])) s.heap h₁ := Un.laid old (Nat.le_refl _) frD
  have C1 : upd H s.heap.objs.size (.lst []) H2.objs.size = none := by rw [upd_ne (Ne.symm hDC)]; exact frC
  have fpD : ∀ b ∈ fp, b ≠ s.heap.objs.size := fun b hb z => by
    obtain ⟨o, e, _⟩ := ho b hb
    exact absurd (Heap.lt_size e) (by rw [z]; exact Nat.lt_irrefl _)
  have J0 : ∀ t, 0 < t → Inv (compX X scope cl H2.objs.size N' fp s H) [] (nfS own.length fr σ) (upd H s.heap.objs.size (.lst [])) { s with heap := h₁, toks := t } := fun t ht =>
    comp_inv I Z hCle hf ho rfl I.bare un1 ⟨_, hns₁⟩ (fun x c v e ⟨o, e1, e2⟩ => ⟨o, old c o e1, e2⟩) C1 hok1 ht
  have st1 : tn 0 h₁ := T.keep _ _ _ st fun b _ o e => old b o e
  have loop : ∀ s₃ : Shared, s₃ = { s with heap := h₁, toks := s.toks + ([] : List (Str × Value)).length } →
      codeAny (model X.prog X.w) X.A (.compLoop (.ListComp elt [⟨tg, iter, ifs, 0⟩] scope pos) 0 (.ref it) (.ref s.heap.objs.size) (compEnvC scope cl H2.objs.size X.env)) (RR (.ref s.heap.objs.size) H2.objs.size) s₃ := by
    rintro s₃ rfl
    generalize hX : compX X scope cl H2.objs.size N' fp s H = X' at J0
    have hg' : PG X' tg g := by rw [← hX]; exact hg _
    have ht' : PTs X' ifs tt := by rw [← hX]; exact ht _
    have he' : PE X' elt te := by rw [← hX]; exact he _
    have eP : X'.prog = X.prog := by rw [← hX]
    have eW : X'.w = X.w := by rw [← hX]
    have eK : X'.K = X.K := by rw [← hX]
    have eA : X'.A = X.A := by rw [← hX]
    have eE : X'.env = compEnvC scope cl H2.objs.size X.env := by rw [← hX]
    have eX : X'.xe = fun _ _ => False := by rw [← hX]
    have eC : Cm X' := by rw [← hX]; exact hc _
    have fpX : ∀ {H' : Hp}, (∀ b ∈ fp, H' b = none) → ∀ b ∈ fp, FpOk X' [] H' b := fun hn b hb => by
      rw [← hX]
      have ok := comp_ok I Z hCle hf ho
      refine ⟨hn b hb, (ok.exf b hb).1, ok.exfs b hb, .inl hb, (ok.exf b hb).2, fun p hp => absurd (show p ∈ ([] : List (Addr × Obj)) from hp) (by simp)⟩
    refine compLoop_any (fun n s' => ∃ i acc H', Inv X' [] (nfS own.length fr σ) H' s' ∧ tn i s'.heap ∧ (∀ b ∈ fp, H' b = none) ∧ W i n acc H') ?_ m0 ⟨0, [], _, J0 _ (by have := I.tk; omega), st1, fun b hb => by rw [upd_ne (fpD b hb)]; exact (hf b hb).1, w0⟩
    rintro n s3 ⟨i, acc, H3, I3, st3, fr3, w3⟩
    obtain ⟨hDa, turn3⟩ := turn i n acc H3 w3
    rcases turn3 with ⟨stop, qn⟩ | ⟨go, step⟩
    · have := T.done X' eP eW eK eC i [] s3 _ H3 (fun _ _ => False) I3 (fpX fr3) st3 stop
      rw [eA] at this
      refine thn this fun r s4 ⟨hr, I4⟩ => ?_
      subst hr
      show RR _ _ _ _
      have I4' : Inv (compX X scope cl H2.objs.size N' fp s H) [] (nfS own.length fr σ) H3 s4 := by rw [hX]; exact I4
      obtain ⟨m, hm, _⟩ := I4'.loc
      exact hRR _ _ s4 H3 hCle ⟨m, hm⟩ I4'.free (comp_out I hf I4') qn
    · have := T.item X' eP eW eK eC i [] s3 _ H3 (fun _ _ => False) I3 (fpX fr3) st3 go
      rw [eA] at this
      refine thn this fun r s4 ⟨u, hr, h4⟩ => ?_
      subst hr
      show wpAny _ _ (letOwnedTupleGo tg (.ref it) u) _ _ s4
      refine thn h4 fun _ s5 ⟨x, H5, I5, r5, y5, st5, fr5⟩ => ?_
      have I5' := I5.pinned (fpX fr5) (T.obj _ _ st5)
      have back : ∀ {σ7 : St} {H7 : Hp} {s7 : Shared}, Inv X' ([] ++ pinsAt fp s5.heap) σ7 H7 s7 → tn (i + 1) s7.heap ∧ ∀ b ∈ fp, H7 b = none := fun {σ7 H7 s7} I7 => by
        refine ⟨T.keep _ _ _ st5 fun b hb o e => (I7.pin (b, o) (List.mem_append_right _ (List.mem_append_right _ (mem_pinsAt hb e)))).1, fun b hb => ?_⟩
        obtain ⟨o, e, d⟩ := T.obj _ _ st5 b hb
        exact (I7.pin (b, o) (List.mem_append_right _ (List.mem_append_right _ (mem_pinsAt hb e)))).2.1
      have g5 := hg' _ s5 _ H5 x u _ I5' r5 (step x H5 y5)
      rw [eP, eW, eA, eE, eX] at g5
      refine thn g5 fun _ s6 ⟨σ6, H6, I6, nf6, q6⟩ => ?_
      have t6 := ht' _ s6 σ6 H6 _ I6 q6
      rw [eP, eW, eA, eE, eX] at t6
      refine thn t6 fun ok s7 ⟨H7, I7, q7⟩ => ?_
      have again : ∀ {H8 : Hp} {s8 : Shared} {acc8 : List V}, Inv X' ([] ++ pinsAt fp s5.heap) σ6 H8 s8 → (∃ m', m' < n ∧ W (i + 1) m' acc8 H8) →
          ∃ m, m < n ∧ ∃ i acc H', Inv X' [] (nfS own.length fr σ) H' s8 ∧ tn i s8.heap ∧ (∀ b ∈ fp, H' b = none) ∧ W i m acc H' := fun {H8 s8 acc8} I8 ⟨m', hm, w8⟩ =>
        ⟨m', hm, i + 1, acc8, H8, I8.unpinned.weak nf6.1.symm nf6.2, (back I8).1, (back I8).2, w8⟩
      cases ok with
      | false =>
        have q7' : ∃ m', m' < n ∧ W (i + 1) m' acc H7 := by rw [if_neg Bool.false_ne_true] at q7; exact q7
        show if false = true then _ else _
        rw [if_neg Bool.false_ne_true]
        exact again I7 q7'
      | true =>
        rw [if_pos rfl] at q7
        show if true = true then _ else _
        rw [if_pos rfl]
        have e7 := he' _ s7 σ6 H7 _ I7 q7
        rw [eP, eW, eA, eE, eX] at e7
        refine thn e7 fun yv s8 ⟨y, H8, I8, r8, hD8, hz8, m', hm, w8⟩ => ?_
        have a8 := mt_append _ s8 σ6 H8 (.ref s.heap.objs.size) [y] (.ref s.heap.objs.size) [yv] (fun _ H9 => H9 = upd H8 s.heap.objs.size (.lst (acc ++ [y]))) I8 rfl (.cons r8 .nil) ⟨_, acc, y, rfl, rfl, hD8, hz8, rfl⟩
        rw [eP, eW, eA, eX] at a8
        refine thn a8 fun _ s9 ⟨_, H9, I9, _, e9⟩ => ?_
        subst e9
        exact again I9 ⟨m', hm, w8⟩
  exact codeAny_compStart_list (loop _ rfl) (T.self _ 0 _ _ _ st1 (loop _ rfl))

theorem pe_lc (hc : X.calm = true) (Z : CompN X scope cl own fr N') (hcell : ∀ y ∈ scope.names, y.2 ≠ .cell) (hnames : ∀ x ∈ scope.names, x.2 = .local → scope.names.lookup x.1 = some .local) (hclos : closureFor scope X.env = pure cl)
    (hi : PI X tg iter wi) (hg : ∀ C fp s H, PG (compX X scope cl C N' fp s H) tg g) (ht : ∀ C fp s H, PTs (compX X scope cl C N' fp s H) ifs tt) (he : ∀ C fp s H, PE (compX X scope cl C N' fp s H) elt te)
    (hs : ∀ x, foldedSetIterable iter X.env x = pure x := by intro _; rfl) : PE X (.ListComp elt [⟨tg, iter, ifs, 0⟩] scope pos) (tLC wi own.length fr g tt te) := by
  intro pins s σ H Q I h
  rw [eval_ListComp]
  refine wpAny_comprehension_free (use := none) rfl hs hclos Z.kind hnames (thn (hi pins s σ H _ I h) fun v s1 h1 => thn h1 fun itv s2 h2 => ?_)
  obtain ⟨it, fp, tn, J, H2, e, I2, T, st2, f2, q2⟩ := h2
  subst e
  refine comp_block (Cm := fun X => X.calm = true) (fun _ => hc) Z hcell (fun C => hg C _ _ _) (fun C => ht C _ _ _) (fun C => he C _ _ _) I2 T.toP st2 f2 q2 (RR := fun acc C => compPost (model X.prog X.w) X.A X.xe none (EP X pins σ Q) acc C) fun D C s' H' hC ⟨m, hm⟩ fC I' q' => ?_
  exact ⟨m, hm, fun h' hs' => ⟨.ref D, H', comp_gone I2 hC I' fC hs', rfl, q'⟩⟩
/-- x = [..], x a plain local name, on one row: the stores are exchanged -/
def tSetLC (i : Nat) (wi : TI) (k : Nat) (fr : List Nat) (g : TG) (tt : TT) (te : TE) : TS := fun D σ H => wi σ H fun J H1 => rLC k fr g tt te σ J H1 fun a H' => D.nx (σ.set i (some (.ref a))) H'
theorem ps_setlc {i : Nat} {x : Str} {pos' spos : Pos} (hN : X.N.Nodup) (hix : X.N[i]? = some x) (hx : X.env.scope.names.lookup x = some .local) (hc : X.calm = true) (Z : CompN X scope cl own fr N') (hcell : ∀ y ∈ scope.names, y.2 ≠ .cell)
    (hnames : ∀ x ∈ scope.names, x.2 = .local → scope.names.lookup x.1 = some .local) (hclos : closureFor scope X.env = pure cl)
    (hi : PI X tg iter wi) (hg : ∀ C fp s H, PG (compX X scope cl C N' fp s H) tg g) (ht : ∀ C fp s H, PTs (compX X scope cl C N' fp s H) ifs tt) (he : ∀ C fp s H, PE (compX X scope cl C N' fp s H) elt te)
    (hs : ∀ x, foldedSetIterable iter X.env x = pure x := by intro _; rfl) (hsw : swapsWith (.ListComp elt [⟨tg, iter, ifs, 0⟩] scope pos) (some (.Name x pos')) spos.line X.env = pure true := by rfl) :
    PS X (.Assign [.Name x pos'] (.ListComp elt [⟨tg, iter, ifs, 0⟩] scope pos) spos) (tSetLC i wi own.length fr g tt te) := by
  intro pins s σ H D I h
  rw [exec_Assign_Name_used _ _ _ _ hsw]
  refine wpAny_bind (wpAny_standAt (wpAny_bind ?_))
  show wpAny _ X.A (do let _ ← comprehension (.ListComp elt [⟨tg, iter, ifs, 0⟩] scope pos) scope X.env _ (newList []) false (eval iter X.env) (some (assign (.Name x pos') X.env))) _ _ s
  refine wpAny_bind (wpAny_mono (wpAny_comprehension_free (use := some (assign (.Name x pos') X.env)) (Q := fun _ s' => SP X pins D .next s') rfl hs hclos Z.kind hnames
    (thn (hi pins s σ H _ I h) fun v s1 h1 => thn h1 fun itv s2 h2 => ?_)) (fun _ s' hq => wpAny_pure (wpAny_pure hq)) fun _ _ e => e)
  obtain ⟨it, fp, tn, J, H2, e, I2, T, st2, f2, q2⟩ := h2
  subst e
  refine comp_block (Cm := fun X => X.calm = true) (fun _ => hc) Z hcell (fun C => hg C _ _ _) (fun C => ht C _ _ _) (fun C => he C _ _ _) I2 T.toP st2 f2 q2 (RR := fun acc C => compPost (model X.prog X.w) X.A X.xe (some (assign (.Name x pos') X.env)) (fun _ s' => SP X pins D .next s') acc C) fun a C s' H' hC ⟨m, hm⟩ fC I' q' => ?_
  show wpAny _ _ (assign (.Name x pos') X.env (.ref a)) _ _ s'
  have neC : ∀ b, b = X.env.locals ∨ X.env.cells.lookup x = some b → C ≠ b := fun b hb z => by
    subst z
    rcases hb with e | e
    · exact Nat.ne_of_gt (Nat.lt_of_lt_of_le I2.lt hC) e
    · obtain ⟨v, q⟩ := I2.cell x C e
      exact absurd (Nat.lt_of_lt_of_le q.lt hC) (Nat.lt_irrefl _)
  refine wpAny_assign_Name (store_ok2 I' hN hix (.inl hx) (v := .ref a) rfl (fun s'' I'' ⟨b, sb, eb⟩ => ?_) (.inr hx))
  refine ⟨m, hm.sameBut sb (neC b eb), fun h' hs' => ⟨_, H', comp_gone I2 hC I'' fC hs', q'⟩⟩
end
end L2

set_option Elab.async false
set_option linter.all false
set_option maxRecDepth 100000
/-! Rules for texts over the layer. -/
namespace L2
open PySem PySem.Spec PyProof.Rows
open Builtin Builtin.Str

section
variable {X : Cx}

theorem vals_str : ∀ {ys : List Str} {us : List Value}, Vals (ys.map V.str) us → ∃ l : List (Str × Tok), us = strValues l ∧ l.map (·.1) = ys
  | [], us, r => by
    rw [List.map_nil] at r
    cases r
    exact ⟨[], rfl, rfl⟩
  | y :: ys, us, r => by
    rw [List.map_cons] at r
    cases r with
    | cons r1 r2 =>
      obtain ⟨t, e⟩ := r1
      obtain ⟨l, e1, e2⟩ := vals_str r2
      subst e
      subst e1
      exact ⟨(y, t) :: l, rfl, by rw [List.map_cons, e2]⟩

/-! ### split -/

/-! ### join -/
def rJoin (K : PySem.W.Frag) : V → List V → Hp → VK → Prop := fun x vs H Q => ∃ z a ys, x = .str z ∧ vs = [.ref a] ∧ SqL K H a (ys.map V.str) ∧ (ys.map (·.length)).sum + ys.length * z.length ≤ sizeLine ∧ Q (.str (Txt.join z ys)) H
theorem join_fold (z : Str) : ∀ (ys : List Str) (n : Nat), ys.foldl (fun (n : Nat) (s : Str) => n + s.length + z.length) n = n + ((ys.map (·.length)).sum + ys.length * z.length)
  | [], n => by simp
  | y :: ys, n => by
    rw [List.foldl_cons, join_fold z ys, List.map_cons, List.sum_cons, List.length_cons, Nat.succ_mul]
    omega
theorem mt_join : MtR X "str.join" (rJoin X.K) := by
  intro pins s σ H x vs v us Q I rx rv h
  obtain ⟨z, a, ys, rfl, rfl, hq, hz, q⟩ := h
  obtain ⟨t, rfl⟩ := rx
  obtain ⟨u, rfl, ru⟩ := rv.one
  cases ru
  obtain ⟨its, r, pl, hn⟩ := I.list hq
  obtain ⟨l, rfl, e⟩ := vals_str r
  refine wpAny_with_toks (n := 1) I.tk (SC.join (texts := ys) pl.isList e ?_ fun t' k htk => ⟨.str (Txt.join z ys), H, I.tok _ htk, ⟨_, rfl⟩, q⟩)
  unfold JoinOk tooLong
  rw [← Array.foldl_toList, List.toList_toArray, join_fold, Nat.zero_add]
  simpa using hz

/-! ### strip, startswith, find, lower -/
theorem mt_lower : MtR X "str.lower" (fun x vs H Q => ∃ z, x = .str z ∧ vs = [] ∧ z.length ≤ 1000000 ∧ Q (.str (Txt.lower z)) H) := by
  intro pins s σ H x vs v us Q I rx rv h
  obtain ⟨z, rfl, rfl, hz, q⟩ := h
  obtain ⟨t, rfl⟩ := rx
  cases rv.zero
  exact SCL.lower (by omega) fun _ => ⟨.str _, H, I.tok _, ⟨_, rfl⟩, q⟩

/-! ### replace, both arguments written texts -/
theorem pe_replace {o : Expr} {to : TE} {y z : Str} {jy jz : Nat} {py pz apos cpos : Pos} (ho : PE X o to) (hyz : (y == z) = false) (hzl : z.length ≤ 14)
    (hbase : attributeBase o "replace" X.env (eval o X.env) = eval o X.env := by rfl) (hline : (apos.endLine == cpos.line) = true := by rfl) :
    PE X (.Call (.Attribute o "replace" apos) [.Constant (.str y) jy py, .Constant (.str z) jz pz] [] cpos) (fun σ H Q => to σ H fun x H1 => ∃ w, x = .str w ∧ w.length ≤ 1000000 ∧ Q (.str (Txt.replace w y z)) H1) := by
  intro pins s σ H Q I h
  refine wpAny_Call_method_late hbase (by rfl) hline rfl (thn (ho pins s σ H _ I h) fun v s1 ⟨x, H1, I1, r1, q1⟩ => ?_)
  obtain ⟨w, rfl, hw, q⟩ := q1
  obtain ⟨t, rfl⟩ := r1
  refine ⟨"str", "str.replace", PySem.F.plainAttrs_str, F.slot_str_replace, F.type_str_replace, typeIs_str _ _ _, (fun _ e => nomatch e), ?_⟩
  refine Calls.callWith_builtin (by rfl) (Calls.evalArgs_plain ?_)
  refine Calls.spliced_cons (Calls.Constant_str (k := jy) (pos := py) ?_)
  refine Calls.spliced_cons (Calls.Constant_str (k := jz) (pos := pz) ?_)
  refine Calls.spliced_nil ?_
  have h0 := I1.tk
  refine wpAny_with_toks (n := 1) (by show 1 ≤ s1.toks + 1 + 1; omega) (SC.replaceW (Nat.pos_iff_ne_zero.mp h0) (Nat.succ_ne_zero _) (Nat.ne_of_lt (Nat.lt_succ_self _)) hyz (by omega) hzl fun t' k htk => ?_)
  exact ⟨.str (Txt.replace w y z), H1, (I1.tok _ htk), ⟨_, rfl⟩, q⟩

/-! ### text * number -/
theorem op_mul_str : OpR X (binaryOp .Mult) (fun x y H Q => ∃ z n, x = .str z ∧ y = .int n ∧ z.length = 1 ∧ 0 ≤ n ∧ n ≤ 1000 ∧ Q (.str (Txt.mul z n)) H) := by
  intro pins s σ H x y v u Q I rx ry h
  obtain ⟨z, n, rfl, rfl, hz, h0, h1, q⟩ := h
  obtain ⟨t, rfl⟩ := rx
  obtain ⟨t', rfl⟩ := ry
  refine wpAny_with_toks (n := 1) I.tk (SB.mul ?_ fun t' k htk => ⟨.str (Txt.mul z n), H, I.tok _ htk, ⟨_, rfl⟩, q⟩)
  have hs : sizeLine = 16777216 := sizeLine_eq
  refine ⟨?_, fun _ _ => ?_, fun _ _ => ?_⟩
  · have e1 : decide (n < -(2 ^ 63 : Int)) = false := decide_eq_false (by omega)
    have e2 : decide (n ≥ 2 ^ 63) = false := decide_eq_false (by omega)
    rw [e1, e2]; rfl
  · rw [hz]
    have hn : n = 0 ∨ 0 < n := by omega
    intro q
    have h9 : (2 ^ 63 - 1 : Int) / n ≥ 1 := by
      rename_i a _
      have hp : 0 < n := by omega
      exact (Int.le_ediv_iff_mul_le hp).mpr (by omega)
    omega
  · unfold tooLong
    rw [hz]
    exact decide_eq_false (by omega)

/-! ### slices of a text -/
def rSlS : V → Option Int → Option Int → Hp → VK → Prop := fun x lo hi H Q => ∃ z, x = .str z ∧ z.length ≤ sizeLine ∧ Q (.str (Txt.slice z lo hi)) H
theorem sl_str : SlR X rSlS := by
  intro pins s σ H x v vl vu lo hi sl Q I rx hs pl pu h
  obtain ⟨z, rfl, hz, q⟩ := h
  obtain ⟨t, rfl⟩ := rx
  refine ⟨"str", _, F.slot_str_getitem.lookup, typeIs_str _ _ _, ?_⟩
  have fin : ∀ (l u : Option (Int × Tok)), l.map (·.1) = lo → u.map (·.1) = hi → (sliceMade z t l u none).post (EP X pins σ Q) s := by
    intro l u el eu
    subst el eu
    unfold sliceMade
    unfold Txt.slice at q
    have e : slicePicked z l u none = strSliceIndices (l.map (·.1)) (u.map (·.1)) 1 z.length := rfl
    rw [e]
    show (if ((1 : Int) == 1 && (strSliceIndices (l.map (·.1)) (u.map (·.1)) 1 z.length).length == z.length) = true then Made.val (.str z t) else Made.str ⟨((strSliceIndices (l.map (·.1)) (u.map (·.1)) 1 z.length).filterMap (z.cps[·]?)).toArray⟩).post (EP X pins σ Q) s
    by_cases c : (((1 : Int) == 1 && (strSliceIndices (l.map (·.1)) (u.map (·.1)) 1 z.length).length == z.length)) = true
    · rw [if_pos c]
      rw [if_pos c] at q
      exact ⟨.str z, H, I, ⟨_, rfl⟩, q⟩
    · rw [if_neg c]
      rw [if_neg c] at q
      have hl := Txt.slice_le z (l.map (·.1)) (u.map (·.1))
      unfold Txt.slice at hl
      rw [if_neg c] at hl
      exact ⟨Nat.le_trans hl hz, .str _, H, I.tok _, ⟨_, rfl⟩, q⟩
  have go : ∀ (l u : Option (Int × Tok)), vl = partValue l → vu = partValue u → l.map (·.1) = lo → u.map (·.1) = hi → wpAny (model X.prog X.w) X.A (getItem (.str z t) (.ref sl)) (EP X pins σ Q) X.xe s := by
    intro l u e1 e2 e3 e4
    subst e1 e2
    exact wpAny_getItem_str_slice (l := l) (u := u) (st := none) hs rfl (fin l u e3 e4)
  cases pl with
  | none => cases pu with
    | none => exact go none none rfl rfl rfl rfl
    | int j tj => exact go none (some (j, tj)) rfl rfl rfl rfl
  | int i ti => cases pu with
    | none => exact go (some (i, ti)) none rfl rfl rfl rfl
    | int j tj => exact go (some (i, ti)) (some (j, tj)) rfl rfl rfl rfl

/-! ### a text walked sign by sign -/
def Its (z : Str) : It := ⟨fun i _ => i < z.length, fun i H x H' => H' = H ∧ ∃ c, z.cps[i]? = some c ∧ x = .str ⟨#[c]⟩, fun i _ => z.length ≤ i⟩
def iStr (tl : TE) : TI := fun σ H R => tl σ H fun x H1 => ∃ z, x = .str z ∧ R (Its z) H1
theorem turn_str {P : Program} {w : World} {K : PySem.W.Frag} {x : Str} {px : Pos} (z : Str) (it : Addr) (ty : String) (t : Tok) (hty : ty = "str_ascii_iterator" ∨ ty = "str_iterator") :
    Turn P w K (.Name x px) (Its z) [it] it (fun i h => h.IsStrIter it ty z t i) where
  mem := by simp
  obj := fun i h st b hb => by
    have e : b = it := by simpa using hb
    subst e
    obtain ⟨o, ho, _, hd⟩ := st
    exact ⟨o, ho, fun v z => by rw [hd] at z; cases z⟩
  keep := fun i h h' st k => by
    obtain ⟨o, ho, r⟩ := st
    exact ⟨o, k it (by simp) o ho, r⟩
  item := by
    intro X hP hw hK hc i pins s σ H E I hf st hg
    subst hP hw hK
    obtain ⟨f0, f1, f2, f3, f4, f5⟩ := hf it (by simp)
    have hi : i < z.cps.size := hg
    have hx : z.cps[i]? = some z.cps[i] := by simp [hi]
    have fin : ∀ h', h'.IsStrIter it ty z t (i + 1) → Heap.SameBut it s.heap h' → ∃ u, (some (Value.str ⟨#[z.cps[i]]⟩ s.toks) : Option Value) = some u ∧
        wpAny (model X.prog X.w) X.A (letOwnedTupleGo (.Name x px) (.ref it) u) (fun _ s2 => ∃ x H', Inv X pins σ H' s2 ∧ RelV x u ∧ (Its z).yld i H x H' ∧ s2.heap.IsStrIter it ty z t (i + 1) ∧ ∀ b ∈ [it], H' b = none) E { s with heap := h', toks := s.toks + 1 } :=
      fun h' st' sb => ⟨_, rfl, wpAny_pure ⟨.str ⟨#[z.cps[i]]⟩, H, I.turned (fun b o hb e => (sb.2 b hb).trans e) f0 f1 f3 f4 f5, ⟨_, rfl⟩, ⟨rfl, _, hx, rfl⟩, st', fun b hb => (hf b hb).1⟩⟩
    rcases hty with rfl | rfl
    · exact wpAny_pyNext_ascii_item st hx fin
    · exact wpAny_pyNext_wide_item st hx fin
  done := by
    intro X hP hw hK hc i pins s σ H E I hf st hg
    subst hP hw hK
    obtain ⟨f0, f1, f2, f3, f4, f5⟩ := hf it (by simp)
    have hx : z.cps[i]? = none := by
      have : z.cps.size ≤ i := hg
      simp [this]
    rcases hty with rfl | rfl
    · exact wpAny_pyNext_ascii_end (I.ok.hd hc) st hx fun h' eb => ⟨rfl, I.turned (t' := s.toks) (fun b o hb e => eb b o hb e) f0 f1 f3 f4 f5⟩
    · exact wpAny_pyNext_wide_end (I.ok.hd hc) st hx fun h' eb => ⟨rfl, I.turned (t' := s.toks) (fun b o hb e => eb b o hb e) f0 f1 f3 f4 f5⟩
  self := by
    intro A i s Q E st h
    rcases hty with rfl | rfl
    · exact wpAny_pyIter_striter_ascii st h
    · exact wpAny_pyIter_striter_wide st h
theorem pi_str {l : Expr} {tl : TE} {x : Str} {px : Pos} (hl : PE X l tl) : PI X (.Name x px) l (iStr tl) := by
  intro pins s σ H R I h
  refine thn (hl pins s σ H _ I h) fun v s1 ⟨y, H1, I1, r1, q1⟩ => ?_
  obtain ⟨z, rfl, q⟩ := q1
  obtain ⟨t, rfl⟩ := r1
  have fin : ∀ ty, (ty = "str_ascii_iterator" ∨ ty = "str_iterator") → PIE X pins σ (.Name x px) R (.ref s1.heap.objs.size) { s1 with heap := s1.heap.push { cls := .type ty, data := .fields #[.str z t, .int 0 0] } } := fun ty hty => by
    refine ⟨s1.heap.objs.size, [s1.heap.objs.size], _, _, H1, rfl, I1.kept (t' := s1.toks) fun b o e => Heap.get?_push_of_some _ e, turn_str z _ ty t hty, ⟨_, Heap.get?_push_size _ rfl, rfl, rfl⟩, fun b hb => ?_, q⟩
    have e : b = s1.heap.objs.size := by simpa using hb
    subst e
    exact I1.fpOk (Nat.le_refl _) (I1.hok.fresh (Nat.le_refl _))
  cases ha : z.cps.all (· < 128)
  · exact wpAny_pyIter_wide ha (fin _ (.inr rfl))
  · exact wpAny_pyIter_ascii ha (fin _ (.inl rfl))

/-! ### all of a list of truths -/
theorem vals_bl_get : ∀ {bs : List Bool} {us : List Value} {i : Nat} {v : Value}, Vals (bs.map V.bl) us → us[i]? = some v → ∃ b, bs[i]? = some b ∧ v = .bool b
  | [], _, _, _, r, e => by
    rw [List.map_nil] at r
    cases r
    simp at e
  | b :: bs, us, i, v, r, e => by
    rw [List.map_cons] at r
    cases r with
    | cons r1 r2 =>
      cases i with
      | zero =>
        simp at e
        subst e
        exact ⟨b, rfl, r1⟩
      | succ i =>
        obtain ⟨c, h1, h2⟩ := vals_bl_get (i := i) r2 (by simpa using e)
        exact ⟨c, by simpa using h1, h2⟩
theorem all_range (bs : List Bool) : ((List.range bs.length).all fun i => bs.getD i true) = bs.all id := by
  rw [Bool.eq_iff_iff, List.all_eq_true, List.all_eq_true]
  constructor
  · intro h b hb
    obtain ⟨i, hi, rfl⟩ := List.getElem_of_mem hb
    have := h i (List.mem_range.mpr hi)
    rw [List.getD_eq_getElem?_getD, List.getElem?_eq_getElem hi] at this
    exact this
  · intro h i hi
    have hi' := List.mem_range.mp hi
    rw [List.getD_eq_getElem?_getD, List.getElem?_eq_getElem hi']
    exact h _ (List.getElem_mem hi')
theorem call_all (hc : X.calm = true) : CallR X (.builtin "all") (fun xs H Q => ∃ (a : Addr) (bs : List Bool), xs = [.ref a] ∧ SqL X.K H a (bs.map V.bl) ∧ Q (.bl (bs.all id)) H) := by
  intro pins s σ H xs us Q I r h
  obtain ⟨a, bs, rfl, hq, q⟩ := h
  obtain ⟨u, rfl, rx⟩ := vals1 r
  cases rx
  obtain ⟨its, r', pl, hz⟩ := I.list hq
  have hlen : its.toArray.size = bs.length := by
    have := r'.length
    rw [List.length_map] at this
    rw [List.size_toArray, this]
  have lt : a < s.heap.objs.size := by
    obtain ⟨o, n, e, _⟩ := pl
    exact Heap.lt_size e
  refine wpAny_with_toks (n := 1) I.tk (call_all_walk ?_)
  refine wpAny_pyIter_list pl.isList ?_
  refine ⟨s.heap.objs.size, _, _, _, _, _, fun i => bs.getD i true, rfl, Walks.list (A := X.A.in1) (I.ok.hd hc) s.heap.objs.size a (Nat.ne_of_lt lt) its.toArray, ⟨⟨_, Heap.get?_push_size _ rfl, rfl, rfl⟩, ?_⟩, ?_, fun h' tk kp htk => ?_⟩
  · obtain ⟨o, n, e, c, _, d⟩ := pl
    exact ⟨o, Heap.get?_push_of_some _ e, c, n, d⟩
  · intro i v s' Q' E' hP hQ
    have hP' : its[i]? = some v := by simpa using hP
    obtain ⟨b, hb, rfl⟩ := vals_bl_get r' hP'
    have hQ' : Q' (bs.getD i true) s' := hQ
    rw [List.getD_eq_getElem?_getD, hb] at hQ'
    exact wpAny_truthy_bool hQ'
  · rw [hlen, all_range]
    refine ⟨.bl _, H, I.kept (fun b o e => kp b o ?_ (Heap.get?_push_of_some _ e)) htk, rfl, q⟩
    simp only [List.mem_singleton]
    exact Nat.ne_of_lt (Heap.lt_size e)
end

/-! ### values as data -/
mutual
inductive Den (K : PySem.W.Frag) (H : Hp) : V → PyData → Prop where
  | non : Den K H .non .none
  | bl (b : Bool) : Den K H (.bl b) (.bool b)
  | int (i : Int) : Den K H (.int i) (.int i)
  | str (x : Str) (h : PyData.strOk x = true) : Den K H (.str x) (.str x)
  | lst {a : Addr} {xs : List V} {ds : List PyData} : SqL K H a xs → DenAll K H xs ds → Den K H (.ref a) (.list ds)
  | tup {a : Addr} {xs : List V} {ds : List PyData} : SqT K H a xs → DenAll K H xs ds → Den K H (.ref a) (.tuple ds)
inductive DenAll (K : PySem.W.Frag) (H : Hp) : List V → List PyData → Prop where
  | nil : DenAll K H [] []
  | cons {x : V} {xs : List V} {d : PyData} {ds : List PyData} : Den K H x d → DenAll K H xs ds → DenAll K H (x :: xs) (d :: ds)
end

section
variable {X : Cx} {pins : List (Addr × Obj)} {σ : St} {H : Hp} {s : Shared}
mutual
theorem Den.reads (I : Inv X pins σ H s) : ∀ {x : V} {d : PyData} {u : Value}, Den X.K H x d → RelV x u → ∃ as, Reads s.heap u d as
  | _, _, _, .non, r => by cases r; exact ⟨_, .none⟩
  | _, _, _, .bl b, r => by cases r; exact ⟨_, .bool b⟩
  | _, _, _, .int i, r => by obtain ⟨t, rfl⟩ := r; exact ⟨_, .int i t⟩
  | _, _, _, .str x _, r => by obtain ⟨t, rfl⟩ := r; exact ⟨_, .str x t⟩
  | _, _, _, .lst hq hd, r => by
    cases r
    obtain ⟨its, rv, ⟨o, n, e, c, _, d⟩, _⟩ := I.list hq
    obtain ⟨as, ra⟩ := DenAll.reads I hd rv
    exact ⟨_, .list e c d (by simpa using ra)⟩
  | _, _, _, .tup hq hd, r => by
    cases r
    obtain ⟨its, rv, ⟨o, e, c, n, d⟩, _⟩ := I.tuple hq
    obtain ⟨as, ra⟩ := DenAll.reads I hd rv
    exact ⟨_, .tuple e c d (by simpa using ra)⟩
theorem DenAll.reads (I : Inv X pins σ H s) : ∀ {xs : List V} {ds : List PyData} {us : List Value}, DenAll X.K H xs ds → Vals xs us → ∃ as, ReadsAll s.heap us ds as
  | _, _, _, .nil, r => by cases r; exact ⟨_, .nil⟩
  | _, _, _, .cons h hs, r => by
    cases r with
    | cons r1 r2 =>
      obtain ⟨as, a⟩ := Den.reads I h r1
      obtain ⟨bs, b⟩ := DenAll.reads I hs r2
      exact ⟨_, .cons a b⟩
end
end
mutual
theorem eqv_refl : ∀ d : PyData, d.canLay0 = true → PyData.eqv d d = true
  | .none, _ => rfl
  | .bool b, _ => by simp [PyData.eqv]
  | .int i, _ => by simp [PyData.eqv]
  | .str x, _ => by simp [PyData.eqv]
  | .list xs, h => by simp only [PyData.eqv]; exact eqvAll_refl xs (by simpa [PyData.canLay0] using h)
  | .tuple xs, h => by simp only [PyData.eqv]; exact eqvAll_refl xs (by simpa [PyData.canLay0] using h)
  | .dict _, h => by simp [PyData.canLay0] at h
theorem eqvAll_refl : ∀ ds : List PyData, PyData.canLayAll0 ds = true → PyData.eqvAll ds ds = true
  | [], _ => rfl
  | d :: ds, h => by
    simp only [PyData.canLayAll0, Bool.and_eq_true] at h
    simp only [PyData.eqvAll, Bool.and_eq_true]
    exact ⟨eqv_refl d h.1, eqvAll_refl ds h.2⟩
end
mutual
theorem Den.lay {K : PySem.W.Frag} {H : Hp} : ∀ {x : V} {d : PyData}, Den K H x d → d.canLay0 = true
  | _, _, .non => rfl
  | _, _, .bl _ => rfl
  | _, _, .int _ => rfl
  | _, _, .str _ h => h
  | _, _, .lst _ h => by simp only [PyData.canLay0]; exact h.lay
  | _, _, .tup _ h => by simp only [PyData.canLay0]; exact h.lay
theorem DenAll.lay {K : PySem.W.Frag} {H : Hp} : ∀ {xs : List V} {ds : List PyData}, DenAll K H xs ds → PyData.canLayAll0 ds = true
  | _, _, .nil => rfl
  | _, _, .cons h hs => by simp only [PyData.canLayAll0, Bool.and_eq_true]; exact ⟨h.lay, hs.lay⟩
end
section
variable {X : Cx}
end

/-! ### comprehensions over lists and numbers, nothing changed by them -/
theorem same_new {H : Hp} {p : Addr} (h : H p = none) (o : HO) : Same H (upd H p o) := fun b u q => by rw [upd_ne (ne_of_none q h)]; exact q
/-- what stood ahead of the list that grows -/
theorem same_grow {H H' : Hp} {D : Addr} {o : HO} (hD : H D = none) (e : Same H H') : Same H (upd H' D o) := fun b u q => by
  rw [upd_ne (ne_of_none q hD)]
  exact e b u q
theorem lc_seq {J : It} {xs : List V} {k : Nat} {fr : List Nat} {g : TG} {tt : TT} {te : TE} {σ : St} {H0 : Hp} {Q : Addr → Hp → Prop} (p : V → Bool) (f : V → V) (hl : xs.length ≤ sizeLine)
    (hgo : ∀ i H, Same H0 H → i < xs.length → J.go i H) (hyl : ∀ i H x H', i < xs.length → Same H0 H → J.yld i H x H' → H' = H ∧ xs[i]? = some x) (hst : ∀ i H, Same H0 H → xs.length ≤ i → J.stop i H)
    (ht : ∀ x ∈ xs, ∀ H', Same H0 H' → ∀ (C : V → Hp → Prop) (N : Hp → Prop), (∀ H4, Same H' H4 → p x = true → C (f x) H4) → (∀ H3, Same H' H3 → p x = false → N H3) →
      g x (nfS k fr σ) H' fun σ2 H2 => nfLe k fr σ σ2 ∧ tt σ2 H2 fun b H3 => if b = true then te σ2 H3 C else N H3)
    (hq : ∀ D H', H0 D = none → Same H0 H' → H' D = some (.lst ((xs.filter p).map f)) → Q D H') : rLC k fr g tt te σ J H0 Q := by
  intro D hD
  refine ⟨fun i m acc H => m = xs.length - i ∧ i ≤ xs.length ∧ acc = ((xs.take i).filter p).map f ∧ H D = some (.lst acc) ∧ Same H0 H, ⟨xs.length, by simp, Nat.zero_le _, by simp, upd_same, same_new hD _⟩, ?_⟩
  rintro i m acc H ⟨rfl, hi, rfl, hDa, sm⟩
  refine ⟨hDa, ?_⟩
  by_cases hlt : i < xs.length
  · refine .inr ⟨hgo i H sm hlt, fun x H' y => ?_⟩
    obtain ⟨e, hxi⟩ := hyl i H x H' hlt sm y
    subst e
    have hmem : x ∈ xs := List.mem_of_getElem? hxi
    have htk := take_succ_filter p xs i x hxi
    refine ht x hmem H' sm _ _ (fun H4 s4 hp => ?_) (fun H3 s3 hp => ?_)
    · refine ⟨s4 _ _ hDa, ?_, xs.length - (i + 1), by omega, rfl, hlt, ?_, upd_same, ?_⟩
      · rw [List.length_map]
        have := List.length_filter_le p (xs.take i)
        rw [List.length_take] at this
        omega
      · rw [htk, hp]; simp
      · exact same_grow hD (sm.trans s4)
    · refine ⟨xs.length - (i + 1), by omega, rfl, hlt, ?_, s3 _ _ hDa, sm.trans s3⟩
      rw [htk, hp]; simp
  · have e : i = xs.length := by omega
    subst e
    rw [List.take_length] at hDa ⊢
    exact .inl ⟨hst _ H sm (Nat.le_refl _), hq D H hD sm hDa⟩
theorem lc_list {K : PySem.W.Frag} {a : Addr} {xs : List V} {k : Nat} {fr : List Nat} {g : TG} {tt : TT} {te : TE} {σ : St} {H0 : Hp} {Q : Addr → Hp → Prop} (p : V → Bool) (f : V → V) (hx : SqL K H0 a xs) (hl : xs.length ≤ sizeLine)
    (ht : ∀ x ∈ xs, ∀ H', Same H0 H' → ∀ (C : V → Hp → Prop) (N : Hp → Prop), (∀ H4, Same H' H4 → p x = true → C (f x) H4) → (∀ H3, Same H' H3 → p x = false → N H3) →
      g x (nfS k fr σ) H' fun σ2 H2 => nfLe k fr σ σ2 ∧ tt σ2 H2 fun b H3 => if b = true then te σ2 H3 C else N H3)
    (hq : ∀ D H', H0 D = none → Same H0 H' → H' D = some (.lst ((xs.filter p).map f)) → Q D H') : rLC k fr g tt te σ (Itl K a) H0 Q :=
  lc_seq p f hl (fun i H sm hi => ⟨xs, xs[i], sm.seq hx, by simp [hi]⟩) (fun i H x H' _ sm y => ⟨y.1, by obtain ⟨e, y⟩ := y; exact y xs (sm.seq hx)⟩) (fun i H sm hi => ⟨xs, sm.seq hx, hi⟩) ht hq
theorem lc_str {z : Str} {k : Nat} {fr : List Nat} {g : TG} {tt : TT} {te : TE} {σ : St} {H0 : Hp} {Q : Addr → Hp → Prop} (p : V → Bool) (f : V → V) (hl : z.length ≤ sizeLine)
    (ht : ∀ c ∈ z.cps.toList, ∀ H', Same H0 H' → ∀ (C : V → Hp → Prop) (N : Hp → Prop), (∀ H4, Same H' H4 → p (.str ⟨#[c]⟩) = true → C (f (.str ⟨#[c]⟩)) H4) → (∀ H3, Same H' H3 → p (.str ⟨#[c]⟩) = false → N H3) →
      g (.str ⟨#[c]⟩) (nfS k fr σ) H' fun σ2 H2 => nfLe k fr σ σ2 ∧ tt σ2 H2 fun b H3 => if b = true then te σ2 H3 C else N H3)
    (hq : ∀ D H', H0 D = none → Same H0 H' → H' D = some (.lst (((z.cps.toList.map fun c => V.str ⟨#[c]⟩).filter p).map f)) → Q D H') : rLC k fr g tt te σ (Its z) H0 Q := by
  have hz : (z.cps.toList.map fun c => V.str ⟨#[c]⟩).length = z.length := by rw [List.length_map]; simp [Str.length]
  refine lc_seq p f (by rw [hz]; exact hl) (fun i H sm hi => by rw [hz] at hi; exact hi) (fun i H x H' hi sm y => ?_) (fun i H sm hi => by rw [hz] at hi; exact hi) (fun x hx => ?_) hq
  · obtain ⟨e, c, h1, h2⟩ := y
    refine ⟨e, ?_⟩
    rw [List.getElem?_map, h2]
    have : z.cps.toList[i]? = some c := by simpa using h1
    rw [this]; rfl
  · obtain ⟨c, hc, rfl⟩ := List.mem_map.mp hx
    exact ht c hc

/-! ### the names of a block, shown by computation -/
def FreeOk (X : Cx) (scope : Scope) (N' : List Str) : Nat → List Nat → List Str → Prop
  | _, [], [] => True
  | k, j :: fr, x :: xs => X.N[j]? = some x ∧ N'[k]? = some x ∧ (X.env.kindOf x = some .cell ∨ X.env.kindOf x = some .free) ∧
      ((relabel scope X.env).names.lookup x = some .cell ∨ (relabel scope X.env).names.lookup x = some .free) ∧ FreeOk X scope N' (k + 1) fr xs
  | _, _, _ => False
theorem FreeOk.get {X : Cx} {scope : Scope} {N' : List Str} : ∀ {k : Nat} {fr : List Nat} {xs : List Str}, FreeOk X scope N' k fr xs → ∀ (i j : Nat), fr[i]? = some j → ∃ x, X.N[j]? = some x ∧ N'[k + i]? = some x ∧
    (X.env.kindOf x = some .cell ∨ X.env.kindOf x = some .free) ∧ ((relabel scope X.env).names.lookup x = some .cell ∨ (relabel scope X.env).names.lookup x = some .free)
  | _, [], [], _, i, j, e => by simp at e
  | _, [], _ :: _, h, _, _, _ => h.elim
  | _, _ :: _, [], h, _, _, _ => h.elim
  | k, j0 :: fr, x :: xs, h, i, j, e => by
    obtain ⟨h1, h2, h3, h4, h5⟩ := h
    cases i with
    | zero =>
      simp at e
      subst e
      exact ⟨x, h1, h2, h3, h4⟩
    | succ i =>
      have := h5.get i j (by simpa using e)
      have e2 : k + 1 + i = k + (i + 1) := by omega
      rw [e2] at this
      exact this
theorem compN {X : Cx} {scope : Scope} {cl : List (Str × Addr)} {own : List Str} {fr : List Nat} {xs N' : List Str} (cells : CellsIn X.env cl) (free : FreeOk X scope N' own.length fr xs)
    (nd : N'.Nodup) (all : ((relabel scope X.env).names.all fun y => y.2 == .local || y.2 == .globalImplicit || (cl.lookup y.1).isSome) = true := by rfl)
    (kind : scope.kind = .function := by rfl) (len : N'.length = own.length + fr.length := by rfl) : CompN X scope cl own fr N' := by
  refine ⟨kind, cells, fun x hx => ?_, nd, len, fun i j e => free.get i j e⟩
  have key : ∀ k, (relabel scope X.env).names.lookup x = some k → (k = .cell ∨ k = .free) → ∃ c, cl.lookup x = some c := fun k e hk => by
    have hm := PySem.mem_of_lookup e
    have := List.all_eq_true.mp all _ hm
    rcases hk with rfl | rfl
    · simp only [Bool.or_eq_true] at this
      rcases this with (z | z) | z
      · exact absurd z (by decide)
      · exact absurd z (by decide)
      · exact Option.isSome_iff_exists.mp z
    · simp only [Bool.or_eq_true] at this
      rcases this with (z | z) | z
      · exact absurd z (by decide)
      · exact absurd z (by decide)
      · exact Option.isSome_iff_exists.mp z
  rcases hx with e | e
  · exact key _ e (.inl rfl)
  · exact key _ e (.inr rfl)
end L2

namespace L2
open PySem PySem.Spec PyProof.Rows
/-- a def that keeps its promise, with all that a call of it asks -/
structure Def (P : Program) (w : World) (K : PySem.W.Frag) (mg : Str → Option Value) (base : Heap) (k : Nat) (x : Str) (ps : List Str) (sp : Sp) : Prop where
  ex : ∃ f fd, FnOk P w K mg base CX0 k f fd ps sp ∧ mg x = some (.ref f) ∧ PySem.W.keepIn K (.ref f) = true ∧ Binds K fd ps []
section
variable {X : Cx} {k : Nat} {x : Str} {ps : List Str} {sp : Sp} {e : Expr} {es : List Expr} {te : TE} {t : TA} {p pos : Pos}
theorem pe_callD (D : Def X.prog X.w X.K X.mg X.base k x ps sp) (hr : Room k X.A) (ha : PA X (e :: es) t) (hg : Gl X x := by exact rfl) (hdb : (x == ("__debug__" : Str)) = false := by decide)
    (he : starEach (e :: es) X.env = (false, eval e X.env) :: starEach es X.env := by rfl) (hpl : (backTo pos (starEach es X.env)).any (·.1) = false := by rfl) :
    PE X (.Call (.Name x p) (e :: es) [] pos) (tCall sp [] E0 t) := by
  obtain ⟨f, fd, G, hm, hk, hb⟩ := D.ex
  exact pe_call G hr hg hm hk hb .nil pass0 ha hdb he hpl

/-! ### argument lists, their stars seen by the first constructor alone -/
def isStar : Expr → Bool
  | .Starred .. => true
  | _ => false
theorem star_cons {e : Expr} {es : List Expr} {env : Env} (h : isStar e = false) : starEach (e :: es) env = (false, eval e env) :: starEach es env := by
  cases e <;> first | rfl | cases h
def noStars : List Expr → Bool
  | [] => true
  | e :: es => !isStar e && noStars es
theorem stars_any {pos : Pos} {env : Env} : ∀ {es : List Expr}, noStars es = true → (backTo pos (starEach es env)).any (·.1) = false
  | [], _ => rfl
  | e :: es, h => by
    unfold noStars at h
    rw [Bool.and_eq_true, Bool.not_eq_true'] at h
    rw [star_cons h.1]
    exact (show (false || (backTo pos (starEach es env)).any (·.1)) = false by rw [stars_any h.2]; rfl)
theorem stars_all {pos : Pos} {env : Env} : ∀ {es : List Expr}, noStars es = true → (backTo pos (starEach es env)).all (fun x => !x.1) = true
  | [], _ => rfl
  | e :: es, h => by
    unfold noStars at h
    rw [Bool.and_eq_true, Bool.not_eq_true'] at h
    rw [star_cons h.1]
    exact (show (true && (backTo pos (starEach es env)).all (fun x => !x.1)) = true by rw [stars_all h.2]; rfl)
theorem pa (ha : PE X e te) (hr : PA X es t) (h : isStar e = false := by rfl) : PA X (e :: es) (tCons te t) := pa_cons ha hr (star_cons h)
theorem few {cpos : Pos} {env : Env} {es : List Expr} (h : noStars es = true) (hl : decide (es.length + ([] : List Keyword).length + (if ([] : List Keyword).isEmpty then 0 else 1) < 30) = true) :
    ((backTo cpos (starEach es env)).all (fun x => !x.1) && (backToKw cpos (keywordEach [] env)).all (fun x => x.1.isSome)
      && decide (es.length + ([] : List Keyword).length + (if ([] : List Keyword).isEmpty then 0 else 1) < 30)) = true := by
  rw [stars_all h, hl]
  rfl
theorem pm {o e : Expr} {es : List Expr} {to : TE} {t : TA} {name : Str} {apos cpos : Pos} {T id : String} {r : V → List V → Hp → VK → Prop} (pa : PlainAttrs T) (slot : Slot T name id) (hty : typeOf (.builtin id) = pure (.type "method_descriptor")) (hm : MtR X id r) (ho : PE X o to) (ha : PA X (e :: es) t)
    (hbase : attributeBase o name X.env (eval o X.env) = eval o X.env) (hst : noStars (e :: es) = true := by rfl) (hl : decide ((e :: es).length + ([] : List Keyword).length + (if ([] : List Keyword).isEmpty then 0 else 1) < 30) = true := by rfl)
    (hline : (apos.endLine == cpos.line) = true := by rfl) : PE X (.Call (.Attribute o name apos) (e :: es) [] cpos) (tBM X.K T r to t) := by
  have h2 : noStars es = true := by
    unfold noStars at hst
    rw [Bool.and_eq_true] at hst
    exact hst.2
  have h1 : isStar e = false := by
    unfold noStars at hst
    rw [Bool.and_eq_true, Bool.not_eq_true'] at hst
    exact hst.1
  exact pe_bm pa slot hty hm ho ha hbase (few hst hl) hline (star_cons h1) (stars_any h2)
/-- the receiver is no bare call without arguments (super()) -/
def plainBase : Expr → Bool
  | .Call (.Name x _) [] [] _ => x != Str.ofString "super"
  | _ => true
theorem base_of {o : Expr} {name : Str} {env : Env} {w : Sem Value} (h : plainBase o = true) : attributeBase o name env w = w := by
  unfold attributeBase
  split
  · rename_i id _ _
    have h : (id != Str.ofString "super") = true := h
    rw [h]
    rfl
  · rfl
theorem cD {k : Nat} {x : Str} {ps : List Str} {sp : Sp} (D : Def X.prog X.w X.K X.mg X.base k x ps sp) (hr : Room k X.A) (ha : PA X (e :: es) t) (hg : Gl X x := by exact rfl) (hdb : (x == ("__debug__" : Str)) = false := by decide)
    (hst : noStars (e :: es) = true := by rfl) : PE X (.Call (.Name x p) (e :: es) [] pos) (tCall sp [] E0 t) := by
  have h2 : noStars es = true := by
    unfold noStars at hst
    rw [Bool.and_eq_true] at hst
    exact hst.2
  have h1 : isStar e = false := by
    unfold noStars at hst
    rw [Bool.and_eq_true, Bool.not_eq_true'] at hst
    exact hst.1
  exact pe_callD D hr ha hg hdb (star_cons h1) (stars_any h2)
theorem cB {id : String} {r : List V → Hp → VK → Prop} (hc : CallR X (.builtin id) r) (hg : Gl X x) (hm : X.mg x = none) (hv : bootBuiltins x = some (.builtin id)) (ha : PA X (e :: es) t) (hn : x ≠ "__name__" := by decide) (hdb : (x == ("__debug__" : Str)) = false := by decide)
    (hst : noStars (e :: es) = true := by rfl) : PE X (.Call (.Name x p) (e :: es) [] pos) (tCB r t) := by
  have h2 : noStars es = true := by
    unfold noStars at hst
    rw [Bool.and_eq_true] at hst
    exact hst.2
  have h1 : isStar e = false := by
    unfold noStars at hst
    rw [Bool.and_eq_true, Bool.not_eq_true'] at hst
    exact hst.1
  exact pe_callB hc hg hm hv ha hn hdb (star_cons h1) (stars_any h2)
/-! ### isinstance of a written type -/
def rIsT (K : PySem.W.Frag) : List V → Hp → VK → Prop := fun xs H Q => ∃ x t T b, xs = [x, .ty T] ∧ TyOf K H x t ∧ PySem.W.kitOne K t (.type T) = some b ∧ Q (.bl b) H
theorem call_isT : CallR X (.builtin "isinstance") (rIsT X.K) := by
  intro pins s σ H xs us Q I r h
  obtain ⟨x, t, T, b, rfl, ty, e, q⟩ := h
  obtain ⟨u, v, rfl, rx, rv⟩ := r.two
  cases rv
  exact wpAny_with_toks (n := 1) I.tk (isinst_ok I rx ty e fun tk htk => ⟨.bl b, H, I.tok _ htk, rfl, q⟩)
theorem kit_same (K : PySem.W.Frag) (t : Value) : PySem.W.kitOne K t t = some true := by
  unfold PySem.W.kitOne
  rw [if_pos (beq_self_eq_true t)]
theorem pe_globS {x y : Str} {pos : Pos} (h : ∃ t, X.mg x = some (.str y t)) (hg : Gl X x := by exact rfl) (hd : (x == ("__debug__" : Str)) = false := by decide) : PE X (.Name x pos) (tC (.str y)) := by
  obtain ⟨t, e⟩ := h
  exact pe_glob hg e ⟨t, rfl⟩ hd
theorem pe_globI {x : Str} {y : Int} {pos : Pos} (h : ∃ t, X.mg x = some (.int y t)) (hg : Gl X x := by exact rfl) (hd : (x == ("__debug__" : Str)) = false := by decide) : PE X (.Name x pos) (tC (.int y)) := by
  obtain ⟨t, e⟩ := h
  exact pe_glob hg e ⟨t, rfl⟩ hd
end
end L2

set_option Elab.async false
set_option linter.all false
set_option maxRecDepth 100000
/-! The judgements as structures: the elaborator does not look behind them. -/
namespace L2
open PySem PySem.Spec PyProof.Rows
structure XE (X : Cx) (e : Expr) (t : TE) : Prop where
  h : PE X e t
structure XT (X : Cx) (e : Expr) (t : TT) : Prop where
  h : PT X e t
structure XW (X : Cx) (e : Expr) (t : TT) : Prop where
  h : PW X e t
structure XA (X : Cx) (e : List Expr) (t : TA) : Prop where
  h : PA X e t
structure XS (X : Cx) (st : Stmt) (t : TS) : Prop where
  h : PS X st t
structure XB (X : Cx) (st : List Stmt) (t : TS) : Prop where
  h : PSs X st t
structure XG (X : Cx) (e : Expr) (t : TG) : Prop where
  h : PG X e t
structure XGs (X : Cx) (e : List Expr) (t : TGs) : Prop where
  h : PGs X e t
structure XI (X : Cx) (tg it : Expr) (t : TI) : Prop where
  h : PI X tg it t
structure XO (X : Cx) (e : Option Expr) (t : TO) : Prop where
  h : PO X e t
structure XQ (X : Cx) (ifs : List Expr) (t : TT) : Prop where
  h : PTs X ifs t
theorem of_XB {X : Cx} {st : List Stmt} {t : TS} {D : Ends} {σ : St} {H : Hp} (h : XB X st t) (q : t D σ H) : ∃ t, PSs X st t ∧ t D σ H := ⟨t, h.h, q⟩
section
variable {X : Cx} {a b c o e : Expr} {ta tb tc te to : TE} {tA tB' : TT} {es : List Expr} {t : TA} {pos p p2 apos cpos : Pos} {x : Str}
/-! blocks -/
theorem xb0 : XB X [] tNext := ⟨pss_nil⟩
theorem xb1 {st : Stmt} {u : TS} (h : XS X st u) : XB X [st] u := ⟨pss_one h.h⟩
theorem xbc {st : Stmt} {sts : List Stmt} {u v : TS} (h : XS X st u) (r : XB X sts v) : XB X (st :: sts) (tSeq u v) := ⟨pss_cons h.h r.h⟩
theorem xret (h : XE X e te) : XS X (.Return (some e) pos) (tRet te) := ⟨ps_ret h.h⟩
theorem xif {f g : List Stmt} {tf tg : TS} (h : XT X c tA) (h1 : XB X f tf) (h2 : XB X g tg) : XS X (.If c f g pos) (tIfS tA tf tg) := ⟨ps_if h.h h1.h h2.h⟩
theorem xnever {st : Stmt} : XS X st tNever := ⟨ps_never⟩
theorem xexpr (h : XE X e te) (hs : swapsWith e none pos.line X.env = pure false := by rfl) : XS X (.Expr e pos) (tDrop te) := ⟨ps_expr h.h hs⟩
theorem xset {i : Nat} {pos' : Pos} (hN : X.N.Nodup) (hi : X.N[i]? = some x) (hx : Loc X.env.scope x) (he : XE X e te) (hs : swapsWith e (some (.Name x pos')) pos.line X.env = pure false := by rfl) (hf : X.fn x = true ∨ X.env.scope.names.lookup x = some .local := by first | exact .inl rfl | exact .inr rfl) :
    XS X (.Assign [.Name x pos'] e pos) (tAsg te (gName i)) := ⟨ps_set hN hi hx he.h hs hf⟩
theorem xgn {i : Nat} (hN : X.N.Nodup) (hi : X.N[i]? = some x) (hx : Loc X.env.scope x) (hf : X.fn x = true ∨ X.env.scope.names.lookup x = some .local := by first | exact .inl rfl | exact .inr rfl) : XG X (.Name x pos) (gName i) := ⟨pg_name hN hi hx hf⟩
theorem xgs0 : XGs X [] gNil := ⟨pgs_nil⟩
theorem xgsc {tg : TG} {tgs : TGs} (h1 : XG X e tg) (h2 : XGs X es tgs) (hs : (assignEach (e :: es) X.env).map (·.2) = assign e X.env :: (assignEach es X.env).map (·.2) := by rfl) : XGs X (e :: es) (gCons tg tgs) := ⟨pgs_cons h1.h h2.h hs⟩
theorem xgt {k n : Nat} {tgs : TGs} (hc : X.calm = true) (h : XGs X es tgs) (hn : (assignEach es X.env).length = n := by rfl) (hst : (assignEach es X.env).findIdx? (·.1) = none := by rfl) : XG X (.Tuple es k pos) (gTup X.K n tgs) := ⟨pg_tup hc h.h hn hst⟩
theorem xasg {tg : Expr} {g : TG} (he : XE X e te) (hg : XG X tg g) (hs : swapsWithSole [tg] e pos.line X.env = pure false := by rfl) (hw : swappedStores [tg] e X.env = pure none := by rfl)
    (h1 : (assignEach [tg] X.env).map (·.2) = [assign tg X.env] := by rfl) : XS X (.Assign [tg] e pos) (tAsg te g) := ⟨ps_asg he.h hg.h hs hw h1⟩
theorem xfor {tg it : Expr} {body : List Stmt} {wi : TI} {g : TG} {tb : TS} (hp : PassesOwn (model X.prog X.w) X.A X.env X.xe) (hc : X.calm = true) (hi : XI X tg it wi) (hg : XG X tg g) (hb : XB X body tb)
    (hs : ∀ x, foldedSetIterable it X.env x = pure x := by intro _; rfl) : XS X (.For tg it body [] pos) (tFor wi g tb) := ⟨ps_for hp hc hi.h hg.h hb.h hs⟩
theorem xwhile {body : List Stmt} {tb : TS} (hp : PassesOwn (model X.prog X.w) X.A X.env X.xe) (hc : XT X c tA) (hb : XB X body tb) : XS X (.While c body [] pos) (tWhile tA tb) := ⟨ps_while hp hc.h hb.h⟩
/-! iterators -/
theorem xir1 {tg : Expr} (hg : Gl X "range") (hm : X.mg "range" = none) (ha : XA X [a] t) (h : isStar a = false := by rfl) : XI X tg (.Call (.Name "range" p) [a] [] pos) (iRng1 t) := ⟨pi_range1 hg hm ha.h (star_cons h)⟩
theorem xil {tg l : Expr} {tl : TE} (h : XE X l tl) : XI X tg l (iList X.K tl) := ⟨pi_list h.h⟩
theorem xit {tg l : Expr} {tl : TE} (h : XE X l tl) : XI X tg l (iTup X.K tl) := ⟨pi_tup h.h⟩
theorem xis {l : Expr} {tl : TE} {px : Pos} (h : XE X l tl) : XI X (.Name x px) l (iStr tl) := ⟨pi_str h.h⟩
/-! tests -/
theorem xcmpT {op : CmpOp} {r : R2} (ho : OpR X (compareOp op) r) (ha : XE X a ta) (hb : XE X b tb) (hm : behindInMarks op b = false) : XT X (.Compare a [op] [b] pos) (tTest (tOp r ta tb)) := ⟨pt_cmpR ho ha.h hb.h hm⟩
theorem xnotT (h : XT X a tA) : XT X (.UnaryOp .Not a pos) (tNot tA) := ⟨pt_not h.h⟩
theorem xvalT (h : XE X e te) (he : ∀ whole, isTrue e X.env whole = (do let v ← whole; standAt e.pos; holding [v] (truthy v)) := by intro _; rfl) : XT X e (tB te) := ⟨pt_val h.h he⟩
theorem xand1 (h : XT X a tA) : XW X (.BoolOp .And [a] pos) tA := ⟨pw_and1 h.h⟩
theorem xor1 (h : XT X a tA) : XW X (.BoolOp .Or [a] pos) tA := ⟨pw_or1 h.h⟩
theorem xand {rest : List Expr} (h : XT X a tA) (h2 : XW X (.BoolOp .And (b :: rest) pos) tB') : XW X (.BoolOp .And (a :: b :: rest) pos) (tAnd tA tB') := ⟨pw_and h.h h2.h⟩
theorem xor {rest : List Expr} (h : XT X a tA) (h2 : XW X (.BoolOp .Or (b :: rest) pos) tB') : XW X (.BoolOp .Or (a :: b :: rest) pos) (tOr tA tB') := ⟨pw_or h.h h2.h⟩
theorem XW.xt (h : XW X e tA) : XT X e tA := ⟨h.h.pt⟩
/-! expressions -/
theorem xnon {j : Nat} : XE X (.Constant .none j pos) (tC .non) := ⟨pe_non⟩
theorem xbl {k : Bool} {j : Nat} : XE X (.Constant (.bool k) j pos) (tC (.bl k)) := ⟨pe_bl⟩
theorem xint {i : Int} {j : Nat} : XE X (.Constant (.int i) j pos) (tC (.int i)) := ⟨pe_int⟩
theorem xstr {y : Str} {j : Nat} : XE X (.Constant (.str y) j pos) (tC (.str y)) := ⟨pe_str⟩
theorem xv (i : Nat) (hN : X.N[i]? = some x := by rfl) (hv : Vis X.env.scope x := by first | exact Or.inl rfl | exact Or.inr (Or.inl rfl) | exact Or.inr (Or.inr rfl)) (hd : (x == ("__debug__" : Str)) = false := by decide)
    (hcd : (x == ("__classdict__" : Str)) = false := by decide) : XE X (.Name x pos) (tVar i) := ⟨pv i hN hv hd hcd⟩
theorem xgS {y : Str} (h : ∃ t, X.mg x = some (.str y t)) (hg : Gl X x := by exact rfl) (hd : (x == ("__debug__" : Str)) = false := by decide) : XE X (.Name x pos) (tC (.str y)) := ⟨pe_globS h hg hd⟩
theorem xgI {y : Int} (h : ∃ t, X.mg x = some (.int y t)) (hg : Gl X x := by exact rfl) (hd : (x == ("__debug__" : Str)) = false := by decide) : XE X (.Name x pos) (tC (.int y)) := ⟨pe_globI h hg hd⟩
theorem xty {T : String} (hm : X.mg x = none) (hv : bootBuiltins x = some (.type T)) (hg : Gl X x := by exact rfl) (hn : x ≠ "__name__" := by decide) (hd : (x == ("__debug__" : Str)) = false := by decide) : XE X (.Name x pos) (tC (.ty T)) := ⟨pe_bltn hg hm hv rfl hn hd⟩
theorem xop {op : Operator} {r : R2} (ho : OpR X (binaryOp op) r) (ha : XE X a ta) (hb : XE X b tb) : XE X (.BinOp a op b pos) (tOp r ta tb) := ⟨pe_op ho ha.h hb.h⟩
theorem xun {op : UnaryOp} {r : V → Hp → VK → Prop} (ho : UnR X (unaryOp op) r) (ha : XE X a ta) : XE X (.UnaryOp op a pos) (tUn r ta) := ⟨pe_un ho ha.h⟩
theorem xcmp {op : CmpOp} {r : R2} (ho : OpR X (compareOp op) r) (ha : XE X a ta) (hb : XE X b tb) (hm : behindInMarks op b = false) : XE X (.Compare a [op] [b] pos) (tOp r ta tb) := ⟨pe_cmpR ho ha.h hb.h hm⟩
theorem xone {op} (h : XE X a ta) : XE X (.BoolOp op [a] pos) ta := ⟨pe_one h.h⟩
theorem xandV {rest : List Expr} (h : XE X a ta) (h2 : XE X (.BoolOp .And (b :: rest) pos) tb) : XE X (.BoolOp .And (a :: b :: rest) pos) (tAndV ta tb) := ⟨pe_and h.h h2.h⟩
theorem xifE (h : XT X c tA) (ha : XE X a ta) (hb : XE X b tb) : XE X (.IfExp c a b pos) (tIf tA ta tb) := ⟨pe_ifExp h.h ha.h hb.h⟩
theorem xo0 : XO X none tNoPart := ⟨po_none⟩
theorem xo1 (h : XE X e te) : XO X (some e) (tPart te) := ⟨po_some h.h⟩
theorem xsl {r : V → Option Int → Option Int → Hp → VK → Prop} {lo hi : Option Expr} {tl th : TO} (hr : SlR X r) (he : XE X e te) (hl : XO X lo tl) (hu : XO X hi th) : XE X (.Subscript e (.Slice lo hi none p2) pos) (tSl r te tl th) := ⟨pe_slice hr he.h hl.h hu.h⟩
theorem xix {r : R2} (hr : IxR X r) (ha : XE X a ta) (hb : XE X b tb) (hs : PlainIx b) : XE X (.Subscript a b pos) (tOp r ta tb) := ⟨pe_ix hr ha.h hb.h hs⟩
theorem xa0 : XA X [] tNil := ⟨pa_nil⟩
theorem xac (ha : XE X e te) (hr : XA X es t) (h : isStar e = false := by rfl) : XA X (e :: es) (tCons te t) := ⟨pa ha.h hr.h h⟩
theorem xlst (h : XA X es t) : XE X (.List es pos) (tLst t) := ⟨pe_lst h.h⟩
theorem xtup {k} (h : XA X es t) : XE X (.Tuple es k pos) (tTup t) := ⟨pe_tup h.h⟩
theorem xcD {k : Nat} {ps : List Str} {sp : Sp} (D : Def X.prog X.w X.K X.mg X.base k x ps sp) (hr : Room k X.A) (ha : XA X (e :: es) t) (hg : Gl X x := by exact rfl) (hdb : (x == ("__debug__" : Str)) = false := by decide) (hst : noStars (e :: es) = true := by rfl) :
    XE X (.Call (.Name x p) (e :: es) [] pos) (tCall sp [] E0 t) := ⟨cD D hr ha.h hg hdb hst⟩
theorem xcB {id : String} {r : List V → Hp → VK → Prop} (hc : CallR X (.builtin id) r) (hm : X.mg x = none) (hv : bootBuiltins x = some (.builtin id)) (ha : XA X (e :: es) t) (hg : Gl X x := by exact rfl) (hn : x ≠ "__name__" := by decide) (hdb : (x == ("__debug__" : Str)) = false := by decide)
    (hst : noStars (e :: es) = true := by rfl) : XE X (.Call (.Name x p) (e :: es) [] pos) (tCB r t) := ⟨cB hc hg hm hv ha.h hn hdb hst⟩
theorem xcTy {T : String} {r : List V → Hp → VK → Prop} (hc : CallR X (.type T) r) (hm : X.mg x = none) (hv : bootBuiltins x = some (.type T)) (ha : XA X (e :: es) t) (hg : Gl X x := by exact rfl) (hn : x ≠ "__name__" := by decide) (hdb : (x == ("__debug__" : Str)) = false := by decide)
    (hst : noStars (e :: es) = true := by rfl) : XE X (.Call (.Name x p) (e :: es) [] pos) (tCB r t) := by
  have h1 : isStar e = false := by
    have := hst
    unfold noStars at this
    rw [Bool.and_eq_true, Bool.not_eq_true'] at this
    exact this.1
  have h2 : noStars es = true := by
    have := hst
    unfold noStars at this
    rw [Bool.and_eq_true] at this
    exact this.2
  exact ⟨pe_callTy hc hg hm hv ha.h hn hdb (star_cons h1) (stars_any h2)⟩
theorem xm {name : Str} {T id : String} {r : V → List V → Hp → VK → Prop} (pa : PlainAttrs T) (slot : Slot T name id) (hty : typeOf (.builtin id) = pure (.type "method_descriptor")) (hm : MtR X id r) (ho : XE X o to) (ha : XA X (e :: es) t)
    (hb : plainBase o = true := by rfl) (hst : noStars (e :: es) = true := by rfl) (hl : decide ((e :: es).length + ([] : List Keyword).length + (if ([] : List Keyword).isEmpty then 0 else 1) < 30) = true := by rfl)
    (hline : (apos.endLine == cpos.line) = true := by rfl) : XE X (.Call (.Attribute o name apos) (e :: es) [] cpos) (tBM X.K T r to t) := ⟨pm pa slot hty hm ho.h ha.h (base_of hb) hst hl hline⟩
theorem xm0 {name : Str} {T id : String} {r : V → List V → Hp → VK → Prop} (pa : PlainAttrs T) (slot : Slot T name id) (hty : typeOf (.builtin id) = pure (.type "method_descriptor")) (hm : MtR X id r) (ho : XE X o to)
    (hb : plainBase o = true := by rfl) (hline : (apos.endLine == cpos.line) = true := by rfl) : XE X (.Call (.Attribute o name apos) [] [] cpos) (tBM0 X.K T r to) := ⟨pe_bm0 pa slot hty hm ho.h (base_of hb) hline⟩
theorem xrepl {y z : Str} {jy jz : Nat} {py pz : Pos} (ho : XE X o to) (hyz : (y == z) = false) (hzl : z.length ≤ 14) (hb : plainBase o = true := by rfl) (hline : (apos.endLine == cpos.line) = true := by rfl) :
    XE X (.Call (.Attribute o "replace" apos) [.Constant (.str y) jy py, .Constant (.str z) jz pz] [] cpos) (fun σ H Q => to σ H fun x H1 => ∃ w, x = .str w ∧ w.length ≤ 1000000 ∧ Q (.str (Txt.replace w y z)) H1) := ⟨pe_replace ho.h hyz hzl (base_of hb) hline⟩
/-! comprehensions -/
theorem xq0 : XQ X [] tYes := ⟨pts_nil⟩
theorem xq1 (h : XT X c tA) : XQ X [c] tA := ⟨pts_one h.h⟩
section
variable {scope : Scope} {cl : List (Str × Addr)} {own : List Str} {fr : List Nat} {N' : List Str} {tg iter elt : Expr} {ifs : List Expr} {wi : TI} {g : TG} {tt : TT}
theorem xlc (hc : X.calm = true) (Z : CompN X scope cl own fr N') (hcell : ∀ y ∈ scope.names, y.2 ≠ .cell) (hnames : ∀ x ∈ scope.names, x.2 = .local → scope.names.lookup x.1 = some .local) (hclos : closureFor scope X.env = pure cl)
    (hi : XI X tg iter wi) (hg : ∀ C fp s H, XG (compX X scope cl C N' fp s H) tg g) (ht : ∀ C fp s H, XQ (compX X scope cl C N' fp s H) ifs tt) (he : ∀ C fp s H, XE (compX X scope cl C N' fp s H) elt te)
    (hs : ∀ x, foldedSetIterable iter X.env x = pure x := by intro _; rfl) : XE X (.ListComp elt [⟨tg, iter, ifs, 0⟩] scope pos) (tLC wi own.length fr g tt te) :=
  ⟨pe_lc hc Z hcell hnames hclos hi.h (fun C fp s H => (hg C fp s H).h) (fun C fp s H => (ht C fp s H).h) (fun C fp s H => (he C fp s H).h) hs⟩
theorem xslc {i : Nat} {pos' spos : Pos} (hN : X.N.Nodup) (hix : X.N[i]? = some x) (hx : X.env.scope.names.lookup x = some .local) (hc : X.calm = true) (Z : CompN X scope cl own fr N') (hcell : ∀ y ∈ scope.names, y.2 ≠ .cell)
    (hnames : ∀ x ∈ scope.names, x.2 = .local → scope.names.lookup x.1 = some .local) (hclos : closureFor scope X.env = pure cl)
    (hi : XI X tg iter wi) (hg : ∀ C fp s H, XG (compX X scope cl C N' fp s H) tg g) (ht : ∀ C fp s H, XQ (compX X scope cl C N' fp s H) ifs tt) (he : ∀ C fp s H, XE (compX X scope cl C N' fp s H) elt te)
    (hs : ∀ x, foldedSetIterable iter X.env x = pure x := by intro _; rfl) (hsw : swapsWith (.ListComp elt [⟨tg, iter, ifs, 0⟩] scope pos) (some (.Name x pos')) spos.line X.env = pure true := by rfl) :
    XS X (.Assign [.Name x pos'] (.ListComp elt [⟨tg, iter, ifs, 0⟩] scope pos) spos) (tSetLC i wi own.length fr g tt te) :=
  ⟨ps_setlc hN hix hx hc Z hcell hnames hclos hi.h (fun C fp s H => (hg C fp s H).h) (fun C fp s H => (ht C fp s H).h) (fun C fp s H => (he C fp s H).h) hs hsw⟩
end
end
end L2

set_option Elab.async false
set_option linter.all false
set_option maxRecDepth 100000
namespace L2
open PySem PySem.Spec PyProof.Rows


section
variable {X : Cx} {CX : CXT} {k : Nat} {f C : Addr} {fd : FuncData} {ps : List Str} {sp : Sp} {dvs : List V} {ds : List Value} {E : XK} {x m : Str} {p pos apos : Pos} {e o : Expr} {es : List Expr} {ta : TE} {t : TA}


end
section
variable {P : Program} {w : World} {K : PySem.W.Frag} {mg : Str → Option Value} {base : Heap}

end
section
variable {X : Cx} {k : Nat} {x : Str} {ps : List Str} {sp : Sp} {e : Expr} {es : List Expr} {te : TE} {t : TA} {p pos : Pos}
end
end L2

set_option Elab.async false
set_option linter.all false
set_option maxRecDepth 100000
/-! enumerate over a list, and a list by steps -/
namespace L2
open PySem PySem.Spec PyProof.Rows
section
variable {X : Cx} {pins : List (Addr × Obj)} {σ : St} {H : Hp} {s : Shared} {h' : Heap}
end
/-! ### isinstance of several written types -/
section
variable {X : Cx} {e l : Expr} {te : TE} {t : TA} {pos p p1 p2 p3 : Pos}
theorem xgtC {scope : Scope} {cl : List (Str × Addr)} {C : Addr} {N' : List Str} {fp : List Addr} {s : Shared} {H : Hp} {es : List Expr} {k n : Nat} {tgs : TGs} (hc : X.calm = true) (h : XGs (compX X scope cl C N' fp s H) es tgs)
    (hn : (assignEach es (compX X scope cl C N' fp s H).env).length = n := by rfl) (hst : (assignEach es (compX X scope cl C N' fp s H).env).findIdx? (·.1) = none := by rfl) : XG (compX X scope cl C N' fp s H) (.Tuple es k pos) (gTup X.K n tgs) := ⟨pg_tup hc h.h hn hst⟩
theorem call_isTC {scope : Scope} {cl : List (Str × Addr)} {C : Addr} {N' : List Str} {fp : List Addr} {s : Shared} {H : Hp} : CallR (compX X scope cl C N' fp s H) (.builtin "isinstance") (rIsT X.K) := call_isT (X := compX X scope cl C N' fp s H)
section
variable {scope : Scope} {cl : List (Str × Addr)} {C : Addr} {N' : List Str} {fp : List Addr} {s : Shared} {H : Hp}
theorem ix_tupC : IxR (compX X scope cl C N' fp s H) (rIxT X.K) := ix_tup (X := compX X scope cl C N' fp s H)
end
end
end L2

set_option Elab.async false
set_option linter.all false
set_option maxRecDepth 100000
/-! sum, max, min of a list of numbers; zip; == of any data -/
namespace L2
open PySem PySem.Spec PyProof.Rows
section
variable {X : Cx} {pins : List (Addr × Obj)} {σ : St} {H : Hp} {s : Shared} {h' : Heap}
/-! ### == of any data -/
/-! ### zip of two lists -/
/-! ### xs[::-1], as it is -/
end
end L2

set_option Elab.async false
set_option linter.all false
set_option maxRecDepth 100000
/-! The flight of an exception that has no other exception behind it. -/
namespace L2
open PySem PySem.Spec PyProof.Rows
section
variable {M : Model} {A : Around} {E : Value → Shared → Prop} {s : Shared} {B : Heap} {env : Env} {outer : List Env} {L e : Addr} {cls a0 fl : Value} {Q : Unit → Shared → Prop}
end
end L2

set_option Elab.async false
set_option linter.all false
set_option maxRecDepth 100000
/-! Exceptions of own classes: how one is made, leaves a def, passes on, is caught. -/
namespace L2
open PySem PySem.Spec PyProof.Rows
/-! ### an exception and its trace -/
section
variable {h h' B : Heap} {e T : Addr} {cls a0 fl : Value}
end
/-! ### hiding: what the rules of a flight keep -/
/-! ### an exception that has left a def -/
/-! ### an exception within the frame -/
section
variable {X : Cx} {pins : List (Addr × Obj)} {σ : St} {H H' : Hp} {e T : Addr} {cls a0 fl fl' : Value} {s s' : Shared} {h' : Heap}
variable {M : Model} {A : Around} {E : Value → Shared → Prop} {Q : Unit → Shared → Prop}
end
end L2

set_option Elab.async false
set_option linter.all false
set_option maxRecDepth 100000
/-! raise, try, and calls that may raise. -/
namespace L2
open PySem PySem.Spec PyProof.Rows
/-! ### leaving a def -/
section
variable {P : Program} {w : World} {K : PySem.W.Frag} {mg : Str → Option Value} {base : Heap} {N : List Str} {qual : Str} {scope : Scope} {f : Addr} {cd : Value} {A : Around} {outer : List Env} {s₀ : Shared} {H₀ : Hp} {E : XK}
end
/-! ### raise -/
/-- an own class of exceptions: its shape in the fragment -/
structure OwnX (K : PySem.W.Frag) (C : Addr) : Prop where
  ex : ∃ (bmB : List Value) (newId initId B : String), PySem.W.excIn K C bmB newId = true ∧ ExcBaseFacts B newId initId bmB
section
variable {X : Cx} {C : Addr} {E : XK} {x : Str} {e0 : Expr} {rest : List Expr} {ta : TA} {np cpos pos : Pos}
end
/-! ### a def that may raise -/
section
variable {X : Cx} {k : Nat} {x : Str} {ps : List Str} {sp : Sp} {e : Expr} {es : List Expr} {te : TE} {t : TA} {p pos : Pos}
/-! ### code that may raise, the exception seen with the names as they are -/
end
/-! ### try -/
section
variable {X : Cx} {x n : Str} {C : Addr} {i : Nat} {body suite : List Stmt} {b₀ : Stmt} {np hpos pos : Pos} {tb : TSx} {th : TS}
end
end L2

set_option Elab.async false
set_option linter.all false
set_option maxRecDepth 100000
/-! isinstance of a caught exception of an own class. -/
namespace L2
open PySem PySem.Spec PySem.Calls PyProof.Rows PySem.W PySem.Builtin PySem.Builtin.Str PySem.Builtin.ObjectAttr PySem.Builtin.Getset_descriptor
section
variable {prog : Program} {w : World} {A : Around} {E : Value → Shared → Prop} {s : Shared} {K : PySem.W.Frag} {e C : Addr}
end
/-! ### the rules in short -/
section
variable {X : Cx} {x : Str} {pos p : Pos}
theorem xgC {C : Addr} (hm : X.mg x = some (.ref C)) (hg : Gl X x := by exact rfl) (hd : (x == ("__debug__" : Str)) = false := by decide) : XE X (.Name x pos) (tC (.ref C)) := ⟨pe_glob hg hm rfl hd⟩
/-! ### the empty dict, a text many times -/
end
end L2

set_option Elab.async false
set_option linter.all false
set_option maxRecDepth 100000
/-! rules for a comprehension's block that name the outer context's fragment -/
namespace L2
open PySem PySem.Spec PyProof.Rows
section
variable {X : Cx} {scope : Scope} {cl : List (Str × Addr)} {C : Addr} {N' : List Str} {fp : List Addr} {s : Shared} {H : Hp} {o e : Expr} {es : List Expr} {to : TE} {t : TA} {apos cpos : Pos}
end
end L2

set_option Elab.async false
set_option linter.all false
set_option maxRecDepth 100000
/-! Closures: a def within a def, what it captures, a call with it, a call of it. -/
namespace L2
open PySem PySem.Spec PyProof.Rows

/-! ### the closure's body -/
structure CloScope (N ps fr : List Str) (sc : Scope) : Prop where
  kind : sc.kind = .function
  co : sc.isCoroutine = false
  gen : sc.isGenerator = false
  nd : N.Nodup
  pre : N.take (ps.length + fr.length) = ps ++ fr
  par : ∀ x ∈ ps, sc.names.lookup x = some .local
  nocell : ∀ y ∈ sc.names, y.2 ≠ .cell

/-- the cells that it captures, and their values -/
structure CloCells (base : Heap) (cl : List (Str × Addr)) (sc : Scope) (fr : List Str) (fvs : List V) : Prop where
  cell : ∀ x c, cl.lookup x = some c → ∃ v, base.IsCell c v
  inj : ∀ x y c, cl.lookup x = some c → cl.lookup y = some c → x = y
  has : ∀ x, sc.names.lookup x = some .free → ∃ c, cl.lookup x = some c
  len : fvs.length = fr.length
  val : ∀ (i : Nat) x v, fr[i]? = some x → fvs[i]? = some v → sc.names.lookup x = some .free ∧ ∃ u c, RelV v u ∧ cl.lookup x = some c ∧ base.IsCell c (some u)

def cxC (CX : CXT) (P : Program) (w : World) (K : PySem.W.Frag) (mg : Str → Option Value) (base : Heap) (N : List Str) (qual : Str) (scope : Scope) (f : Addr) (cd : Value) (cl : List (Str × Addr)) (A : Around) (outer : List Env) (s : Shared) (H : Hp) (E : XK) : Cx where
  prog := P
  w := w
  K := K
  mg := mg
  base := base
  A := A.deeper (PySem.W.envX qual scope s.heap.objs.size f cd cl)
  N := N
  s₀ := s
  H₀ := H
  env := PySem.W.envX qual scope s.heap.objs.size f cd cl
  outer := outer
  stack := PySem.W.envX qual scope s.heap.objs.size f cd cl :: outer
  ex := []
  calm := true
  fn := fun _ => false
  pn := []
  xe := fun e s' => wpAny (model P w) (A.deeper (PySem.W.envX qual scope s.heap.objs.size f cd cl)) (leaving (PySem.W.envX qual scope s.heap.objs.size f cd cl) e) (fun _ s'' => CX outer H s E e s'') (fun e' s'' => CX outer H s E e' s'') s'

theorem rev_lookup_zip {x : Str} {u : Value} : ∀ {ps : List Str} {us : List Value} {i : Nat}, ps.Nodup → ps[i]? = some x → us[i]? = some u → (ps.zip us).reverse.lookup x = some u := by
  have out : ∀ (l : List (Str × Value)) (r : List (Str × Value)), (∀ v, (x, v) ∉ l) → (l ++ r).lookup x = r.lookup x := by
    intro l
    induction l with
    | nil => intro r _; rfl
    | cons a l ih =>
      intro r h
      obtain ⟨y, v⟩ := a
      have hy : (x == y) = false := by
        apply Bool.eq_false_iff.mpr
        intro z
        have z' := eq_of_beq z
        subst z'
        exact h v List.mem_cons_self
      rw [List.cons_append, List.lookup_cons, hy]
      exact ih r fun v hv => h v (List.mem_cons_of_mem _ hv)
  intro ps
  induction ps with
  | nil => intro us i _ h; simp at h
  | cons p ps ih =>
    intro us i nd h1 h2
    cases us with
    | nil => simp at h2
    | cons w us =>
      rw [List.zip_cons_cons, List.reverse_cons]
      cases i with
      | zero =>
        simp at h1 h2
        subst h1; subst h2
        rw [out _ _ fun v hv => (List.nodup_cons.mp nd).1 (List.of_mem_zip (List.mem_reverse.mp hv)).1]
        rw [List.lookup_cons]; simp
      | succ i =>
        have q := ih (us := us) (i := i) (List.nodup_cons.mp nd).2 (by simpa using h1) (by simpa using h2)
        have app : ∀ (l r : List (Str × Value)) (v : Value), l.lookup x = some v → (l ++ r).lookup x = some v := by
          intro l
          induction l with
          | nil => intro r v h; cases h
          | cons a l ih =>
            intro r v h
            obtain ⟨y, z⟩ := a
            rw [List.cons_append, List.lookup_cons] at *
            cases hb : x == y with
            | true => rw [hb] at h; exact h
            | false => rw [hb] at h; exact ih r v h
        exact app _ _ _ q

theorem inv_startC {CX : CXT} {P : Program} {w : World} {K : PySem.W.Frag} {mg : Str → Option Value} {base : Heap} {N ps fr : List Str} {qual : Str} {scope : Scope} {f : Addr} {cd : Value} {cl : List (Str × Addr)} {A : Around} {outer : List Env} {s : Shared} {h₁ : Heap} {tk : Nat} {H : Hp} {E : XK} {us : List Value} {vs fvs : List V}
    (S : CloScope N ps fr scope) (C : CloCells base cl scope fr fvs) (hd : A.handled = none) (e0 : Env0 P w K mg base A outer s H) (hl : vs.length = ps.length) (r : Vals vs us) (htk : 0 < tk)
    (hns : h₁.Ns s.heap.objs.size (fun x => (ps.zip us).reverse.lookup x)) (hk : ∀ b o, s.heap.get? b = some o → h₁.get? b = some o) :
    Inv (cxC CX P w K mg base N qual scope f cd cl A outer s H E) [] (start N (vs ++ fvs)) H { s with heap := h₁, toks := tk } := by
  have hpl : ps.length + fr.length ≤ N.length := by have := congrArg List.length S.pre; rw [List.length_take, List.length_append] at this; omega
  have noA : ∀ b : Addr, b ∉ (cxC CX P w K mg base N qual scope f cd cl A outer s H E).ex := fun b z => absurd (show b ∈ ([] : List Addr) from z) (by simp)
  have hkb : ∀ b o, base.get? b = some o → h₁.get? b = some o := fun b o e => hk b o (e0.bs b o e).1
  refine ⟨⟨e0.mod, S.kind, rfl, rfl, Nat.le_refl _, C.inj, fun y hy => ?_, fun y c z _ => absurd (show false = true from z) Bool.false_ne_true, fun _ => hd, Around.frames_deeper e0.frames, .inr ⟨rfl, rfl⟩, fun b z => absurd z (noA b), e0.bs, e0.bsz, fun b _ _ => noA b, fun b z => absurd z (noA b), e0.funs, e0.frf⟩,
    rfl, e0.bare, Un.kept hk, ⟨_, hns, fun i y v h1 h2 h3 => ?_⟩, fun y c h => ?_, e0.hok.fresh (Nat.le_refl _), fun y c h => ?_, fun p hp => absurd (show p ∈ ([] : List (Addr × Obj)) from hp) (by simp), e0.hok.kept hk, ?_, htk⟩
  · have hy : scope.names.lookup y = some .cell ∨ scope.names.lookup y = some .free := hy
    rcases hy with hy | hy
    · exact absurd rfl (S.nocell _ (PySem.mem_of_lookup hy))
    · exact C.has y hy
  · have hi : i < (vs ++ fvs).length := by
      unfold start at h2
      by_cases hi : i < (vs ++ fvs).length
      · exact hi
      · rw [List.getElem?_append_right (by simpa using hi)] at h2
        rw [List.getElem?_replicate] at h2
        split at h2 <;> cases h2
    have ha : (vs ++ fvs)[i]? = some v := by
      unfold start at h2
      rw [List.getElem?_append_left (by simpa using hi), List.getElem?_map] at h2
      cases e : (vs ++ fvs)[i]? with
      | none => rw [e] at h2; cases h2
      | some a => rw [e] at h2; cases h2; rfl
    have hlen : (vs ++ fvs).length = ps.length + fr.length := by rw [List.length_append, hl, C.len]
    have hp : (ps ++ fr)[i]? = some y := by
      rw [← S.pre, List.getElem?_take_of_lt (by omega)]; exact h1
    have ndP : (ps ++ fr).Nodup := by rw [← S.pre]; exact S.nd.sublist (List.take_sublist _ _)
    by_cases hip : i < ps.length
    · rw [List.getElem?_append_left hip] at hp
      rw [List.getElem?_append_left (by omega)] at ha
      obtain ⟨u, hu, rv⟩ := r.get ha
      exact ⟨u, rv, .inl ⟨S.par y (List.mem_of_getElem? hp), rev_lookup_zip (List.nodup_append.mp ndP).1 hp hu⟩⟩
    · rw [List.getElem?_append_right (by omega)] at hp
      rw [List.getElem?_append_right (by omega), hl] at ha
      obtain ⟨hf, u, c, rv, hc, z⟩ := C.val _ y v hp ha
      exact ⟨u, rv, .inr ⟨.inr hf, c, hc, z.keeps hkb⟩⟩
  · obtain ⟨v, z⟩ := C.cell y c h
    exact ⟨v, z.keeps hkb⟩
  · obtain ⟨v, o, z, _⟩ := C.cell y c h
    exact (e0.bs _ _ z).2
  · unfold start
    show _ = N.length
    have hlen : (vs ++ fvs).length = ps.length + fr.length := by rw [List.length_append, hl, C.len]
    rw [List.length_append, List.length_map, List.length_replicate]
    omega

/-- THE RULE: a closure that stands in the base, by its body -/
theorem fn_ofC {CX : CXT} {P : Program} {w : World} {K : PySem.W.Frag} {mg : Str → Option Value} {base : Heap} {k : Nat} {f : Addr} {name qual : Str} {params : Arguments} {body : List Stmt} {scope : Scope} {cl : List (Str × Addr)} {dV kV doc pm cdv ct oc : Value} {an od : Option Addr}
    {osl : Array (Option Value)} {N ps fr : List Str} {fvs : List V} {sp : Sp} (lk : base.get? f = some ⟨oc, od, .func (PySem.W.fnX name qual params body scope cl dV kV doc pm an cdv ct), osl⟩) (hcd : base.CodeRec cdv qual) (S : CloScope N ps fr scope) (C : CloCells base cl scope fr fvs)
    (len : ∀ vs H Q E, sp vs H Q E → vs.length = ps.length)
    (hbody : ∀ (A : Around) (outer : List Env) (s : Shared) (H : Hp) (vs : List V) (Q : VK) (E : XK), Room k (A.deeper (PySem.W.envX qual scope s.heap.objs.size f cdv cl)) → sp vs H Q E →
      ∃ t, PSs (cxC CX P w K mg base N qual scope f cdv cl A outer s H E) body t ∧ t { nx := fun _ H' => Q .non H', rt := Q } (start N (vs ++ fvs)) H) :
    FnOk P w K mg base CX (k + 1) f (PySem.W.fnX name qual params body scope cl dV kV doc pm an cdv ct) ps sp := by
  refine ⟨len, fun A outer s H args us vs Q E hr e0 hb r hsp => ?_⟩
  have hl := len _ _ _ _ hsp
  have hkb : ∀ b o, base.get? b = some o → s.heap.get? b = some o := fun b o e => (e0.bs b o e).1
  have lim : s.heap.NoLimit := e0.mod.nolimit.keeps hkb
  refine codeAny_call_def (fd := PySem.W.fnX name qual params body scope cl dV kV doc pm an cdv ct) (body := body) (binds := ps.zip us) hr.depth (hkb _ _ lk) rfl lim (hcd.keeps hkb) rfl hb S.nocell (fun x hx => S.par _ (List.of_mem_zip hx).1) (fun h₁ hns hk₁ => ?_) S.co S.gen S.kind
  obtain ⟨t, ht, hq⟩ := hbody A outer s H vs Q E (hr.deeper _) hsp
  have I : Inv (cxC CX P w K mg base N qual scope f cdv cl A outer s H E) [] (start N (vs ++ fvs)) H { s with heap := h₁, toks := s.toks + (ps.zip us).length } :=
    inv_startC S C hr.hd e0 hl r (Nat.lt_of_lt_of_le e0.tk (Nat.le_add_right _ _)) hns hk₁
  refine wpAny_mono (ht [] _ (start N (vs ++ fvs)) H _ I hq) (fun fl s' hs => ?_) fun e s' hs => hs
  have fin : ∀ {σ' : St} {H' : Hp} {v : V} {u : Value}, Inv (cxC CX P w K mg base N qual scope f cdv cl A outer s H E) [] σ' H' s' → RelV v u → Q v H' → CE outer P w H s Q u s' :=
    fun {σ' H' v u} J rv q => ⟨v, H', J.os, J.bare, J.base, J.hok, J.tk, rv, q⟩
  cases fl with
  | ret u =>
    obtain ⟨v, σ', H', J, rv, q⟩ := hs
    exact fin J rv q
  | next =>
    obtain ⟨σ', H', J, q⟩ := hs
    exact fin (v := V.non) (u := Value.none) J rfl q
  | brk =>
    obtain ⟨_, _, _, q⟩ := hs
    exact False.elim q
  | cont =>
    obtain ⟨_, _, _, q⟩ := hs
    exact False.elim q
end L2

set_option Elab.async false
set_option linter.all false
set_option maxRecDepth 100000
/-! A def within a def: the statement. -/
namespace L2
open PySem PySem.Spec PyProof.Rows

/-! ### what it captures -/
def closL (env : Env) : List (Str × NameKind) → List (Str × Addr) → List (Str × Addr)
  | [], acc => acc
  | (n, k) :: r, acc => if k == .free then (match env.cells.lookup n with | some c => closL env r ((n, c) :: acc) | none => closL env r acc) else closL env r acc
theorem closureFor_of {env : Env} {sc : Scope} (h : ∀ n, (n, NameKind.free) ∈ sc.names → ∃ c, env.cells.lookup n = some c) : closureFor sc env = pure (closL env sc.names []) := by
  have go : ∀ (l : List (Str × NameKind)) (acc : List (Str × Addr)), (∀ n, (n, NameKind.free) ∈ l → ∃ c, env.cells.lookup n = some c) →
      (forIn l acc fun (x : Str × NameKind) (cs : List (Str × Addr)) => (if (x.2 == .free) = true then do let __do_lift ← cellOf env x.1; pure (ForInStep.yield ((x.1, __do_lift) :: cs)) else pure (ForInStep.yield cs) : Sem (ForInStep (List (Str × Addr))))) = pure (closL env l acc) := by
    intro l
    induction l with
    | nil => intro acc _; rfl
    | cons a l ih =>
      intro acc hl
      obtain ⟨n, k⟩ := a
      rw [List.forIn_cons]
      unfold closL
      by_cases hk : (k == NameKind.free) = true
      · have hk' : k = NameKind.free := eq_of_beq hk
        subst hk'
        obtain ⟨c, hc⟩ := hl n List.mem_cons_self
        simp only [hk, if_true, cellOf, hc, pure_bind]
        exact ih _ fun m hm => hl m (List.mem_cons_of_mem _ hm)
      · simp only [hk, if_false, pure_bind, Bool.false_eq_true]
        exact ih _ fun m hm => hl m (List.mem_cons_of_mem _ hm)
  unfold closureFor
  show (forIn sc.names [] _ >>= pure) = _
  rw [bind_pure]
  exact go sc.names [] h
theorem closL_sub {env : Env} {x : Str} {c : Addr} : ∀ {l : List (Str × NameKind)} {acc : List (Str × Addr)}, (x, c) ∈ closL env l acc → (x, c) ∈ acc ∨ env.cells.lookup x = some c
  | [], acc, h => .inl h
  | (n, k) :: r, acc, h => by
    unfold closL at h
    split at h
    · split at h
      · rename_i c' hc
        rcases closL_sub h with z | z
        · rcases List.mem_cons.mp z with z | z
          · cases z; exact .inr hc
          · exact .inl z
        · exact .inr z
      · exact closL_sub h
    · exact closL_sub h
theorem closL_acc {env : Env} {x : Str} {c : Addr} : ∀ {l : List (Str × NameKind)} {acc : List (Str × Addr)}, acc.lookup x = some c → env.cells.lookup x = some c → (closL env l acc).lookup x = some c
  | [], acc, h, _ => h
  | (n, k) :: r, acc, h, he => by
    unfold closL
    split
    · split
      · rename_i c' hc
        refine closL_acc ?_ he
        rw [List.lookup_cons]
        cases hb : x == n with
        | true =>
          have := eq_of_beq hb
          subst this
          rw [he] at hc
          cases hc
          rfl
        | false => exact h
      · exact closL_acc h he
    · exact closL_acc h he
theorem closL_get {env : Env} {x : Str} {c : Addr} (he : env.cells.lookup x = some c) : ∀ {l : List (Str × NameKind)} {acc : List (Str × Addr)}, (x, NameKind.free) ∈ l → (closL env l acc).lookup x = some c
  | [], _, h => by cases h
  | (n, k) :: r, acc, h => by
    unfold closL
    rcases List.mem_cons.mp h with z | z
    · cases z
      rw [if_pos (by rfl), he]
      refine closL_acc ?_ he
      rw [List.lookup_cons]; simp
    · split
      · split
        · exact closL_get he z
        · exact closL_get he z
      · exact closL_get he z

/-! ### the table of a def's codes -/
abbrev codeExt (c : Addr) (q : Str) : HO := .ext fun h => h.CodeRec (.ref c) q
abbrev fnExt (g : Addr) (o : Obj) : HO := .ext fun h => h.get? g = some o
theorem codeExt_ok {P : Program} {w : World} {H : Hp} {h : Heap} {c : Addr} {q : Str} (x : h.CodeRec (.ref c) q) : ObjOk P w H h c (codeExt c q) := by
  refine ⟨x, ?_, fun h1 h2 y k => ?_⟩
  · obtain ⟨c', o, vs, t, e, g, _⟩ := x
    cases e
    exact ⟨o, g⟩
  · obtain ⟨c', o, vs, t, e, g, r⟩ := y
    cases e
    exact ⟨c, o, vs, t, rfl, k o g, r⟩
theorem fnExt_ok {P : Program} {w : World} {H : Hp} {h : Heap} {g : Addr} {o : Obj} (x : h.get? g = some o) : ObjOk P w H h g (fnExt g o) := ⟨x, ⟨o, x⟩, fun h1 h2 y k => k o y⟩

/-- the codes of the defs at the places qs, as far as they were made -/
def Tab (P : Addr) (qs : List (Pos × Str)) (H : Hp) : Prop :=
  ∃ ps, H P = some (.tbl ps) ∧ TriplesOk ps.toList ∧ ∀ q ∈ qs, codeAmong q.1 ps.toList = none ∨ ∃ c, codeAmong q.1 ps.toList = some (.ref c) ∧ H c = some (codeExt c q.2)
theorem Tab.new {P : Addr} {qs : List (Pos × Str)} {H : Hp} (h : H P = some (.tbl #[])) : Tab P qs H := ⟨#[], h, trivial, fun _ _ => .inl rfl⟩
theorem Tab.keep {P : Addr} {qs : List (Pos × Str)} {H H' : Hp} (t : Tab P qs H) (k : ∀ b o, H b = some o → H' b = some o) : Tab P qs H' := by
  obtain ⟨ps, a, b, c⟩ := t
  refine ⟨ps, k _ _ a, b, fun q hq => (c q hq).imp id fun ⟨d, e, f⟩ => ⟨d, e, k _ _ f⟩⟩

theorem Tab.keepW {P : Addr} {qs : List (Pos × Str)} {H H' : Hp} (t : Tab P qs H) (k : ∀ b o, (∀ xs, o ≠ .lst xs) → H b = some o → H' b = some o) : Tab P qs H' := by
  obtain ⟨ps, a, b, c⟩ := t
  refine ⟨ps, k _ _ (fun _ z => nomatch z) a, b, fun q hq => (c q hq).imp id fun ⟨d, e, f⟩ => ⟨d, e, k _ _ (fun _ z => nomatch z) f⟩⟩
theorem codeAmong_app {pos : Pos} {a b : Int} {c : Value} (l : List Value) (h : TriplesOk l) :
    codeAmong pos (l ++ [rawInt a, rawInt b, c]) = match codeAmong pos l with | some v => some v | none => if (a == pos.line && b == pos.col) = true then some c else none := by
  fun_induction TriplesOk l with
  | case1 => simp [codeAmong, rawInt]
  | case2 a' t b' u x rest ih =>
    simp only [List.cons_append, codeAmong]
    split
    · rfl
    · exact ih h
  | case3 l h1 h2 => exact h.elim

/-- a cell that no frame has any more -/
abbrev cellExt (c : Addr) (v : V) : HO := .ext fun h => ∃ u, RelV v u ∧ h.IsCell c (some u)
/-- a closure: the function, its code, and the cells that it alone has -/
structure Clo where
  g : Addr
  c : Addr
  obj : Obj
  qual : Str
  cs : List (Addr × V)
structure Made (P : Addr) (qs : List (Pos × Str)) (H H' : Hp) (d : Clo) : Prop where
  fn : H' d.g = some (fnExt d.g d.obj)
  cd : H' d.c = some (codeExt d.c d.qual)
  tab : Tab P qs H'
  new : H d.g = none
  ne : d.g ≠ d.c
  keep : ∀ b o, b ≠ P → H b = some o → H' b = some o
  only : ∀ b, H b = none → b ≠ d.g → b ≠ d.c → H' b = none

/-- def g(..): ..: a new function (and, at its first time, its code) -/
def tDef (P : Addr) (qs : List (Pos × Str)) (i : Nat) (mk : Clo → Prop) : TS := fun D σ H => Tab P qs H ∧ ∀ d H', Made P qs H H' d → mk d → D.nx (σ.set i (some (.ref d.g))) H'
/-- the def that runs has its code at c, its table at P -/
structure DefAt (X : Cx) (c P : Addr) : Prop where
  code : X.env.code = .ref c
  hd : PySem.W.CodeHd X.base c P
  bi : X.base.BuiltinsAt X.mg P

theorem BuiltinsAt.keeps' {h h' : Heap} {mg : Str → Option Value} {P : Addr} (x : h.BuiltinsAt mg P) (k : ∀ b o, h.get? b = some o → h'.get? b = some o) : h'.BuiltinsAt mg P :=
  let ⟨bm, o, a1, a2, a3, a4, a5, r⟩ := x; ⟨bm, o, a1, a2, a3, a4, k _ _ a5, r⟩

/-- the function that is made -/
def FnMade (X : Cx) (name : Str) (params : Arguments) (body : List Stmt) (scope : Scope) (d : Clo) : Prop :=
  ∃ doc ct, d.obj = PySem.W.fnMade name (qualnameIn X.env name name) params body scope (closL X.env scope.names []) doc ((X.mg "__name__").getD .none) d.c ct ∧ d.qual = qualnameIn X.env name name ∧ d.cs = []

section
variable {X : Cx} {c P : Addr} {name : Str} {params : Arguments} {body : List Stmt} {scope : Scope} {pos : Pos} {qs : List (Pos × Str)} {i : Nat}
theorem ps_def (T : DefAt X c P) (hcl : ∀ n, (n, NameKind.free) ∈ scope.names → ∃ c, X.env.cells.lookup n = some c) (hq : (pos, qualnameIn X.env name name) ∈ qs) (hqs : ∀ q ∈ qs, q.1.line = pos.line → q.1.col = pos.col → q.2 = qualnameIn X.env name name)
    (hN : X.N.Nodup) (hi : X.N[i]? = some name) (hx : Loc X.env.scope name) (hf : X.fn name = true ∨ X.env.scope.names.lookup name = some .local)
    (hd0 : params.defaults = []) (hk0 : params.kw_defaults = []) (ha : annTrees params none X.env = []) :
    PS X (.FunctionDef name params body [] none [] scope none name pos) (tDef P qs i (FnMade X name params body scope)) := by
  intro pins s σ H D I hw
  obtain ⟨tab, hw⟩ := hw
  obtain ⟨ps, hP, hT, hC⟩ := id tab
  have tk0 := I.tk
  have ePs : s.heap.get? P = some (PySem.W.tabObj ps) := I.hok P _ hP
  have hgs : s.heap.Ns mainGlobals X.mg := I.mod.glob.keeps I.bk
  have hgP : mainGlobals ≠ P := by
    obtain ⟨o, es, ep, e, _⟩ := I.mod.glob
    exact fun z => by have := (I.bs _ _ e).2; rw [z, hP] at this; cases this
  have hhd := T.hd.keeps I.bk
  have hbi := BuiltinsAt.keeps' T.bi I.bk
  have big : ∀ b o, H b = some o → b < s.heap.objs.size := fun b o e => I.hok.lt e
  refine PySem.W.nestDef_K hd0 hk0 ha ?_
  rcases hC _ hq with hnf | ⟨c0, hf0, hc0⟩
  · refine wpAny_with_toks (n := 1) tk0 ?_
    refine PySem.W.makeFunction_K (closureFor_of hcl) I.ok.glob hgs T.code hhd ePs hT hnf hgP hbi fun c' ctv doc h' tk hx' hge hlt hrec htb htk => ?_
    have hgt : s.heap.objs.size ≤ h'.objs.size := Nat.le_trans hge (Nat.le_of_lt hlt)
    have cP : c' ≠ P := Nat.ne_of_gt (Nat.lt_of_lt_of_le (big P _ hP) hge)
    have gP : h'.objs.size ≠ P := Nat.ne_of_gt (Nat.lt_of_lt_of_le (big P _ hP) hgt)
    have gc : h'.objs.size ≠ c' := Nat.ne_of_gt hlt
    have old : ∀ b o, H b = some o → b ≠ c' ∧ b ≠ h'.objs.size := fun b o e => ⟨Nat.ne_of_lt (Nat.lt_of_lt_of_le (big b o e) hge), Nat.ne_of_lt (Nat.lt_of_lt_of_le (big b o e) hgt)⟩
    have H'g : ∀ b, (upd (upd (upd H P (.tbl (ps ++ #[rawInt pos.line, rawInt pos.col, .ref c']))) c' (codeExt c' (qualnameIn X.env name name))) h'.objs.size
      (fnExt h'.objs.size (PySem.W.fnMade name (qualnameIn X.env name name) params body scope (closL X.env scope.names []) doc ((X.mg "__name__").getD .none) c' ctv))) b =
      if b = h'.objs.size then some (fnExt h'.objs.size (PySem.W.fnMade name (qualnameIn X.env name name) params body scope (closL X.env scope.names []) doc ((X.mg "__name__").getD .none) c' ctv)) else
      if b = c' then some (codeExt c' (qualnameIn X.env name name)) else if b = P then some (.tbl (ps ++ #[rawInt pos.line, rawInt pos.col, .ref c'])) else H b := fun b => rfl
    generalize (upd (upd (upd H P (.tbl (ps ++ #[rawInt pos.line, rawInt pos.col, .ref c']))) c' (codeExt c' (qualnameIn X.env name name))) h'.objs.size
      (fnExt h'.objs.size (PySem.W.fnMade name (qualnameIn X.env name name) params body scope (closL X.env scope.names []) doc ((X.mg "__name__").getD .none) c' ctv))) = H' at H'g
    have kp : ∀ b o, b ≠ P → H b = some o → H' b = some o := fun b o nP e => by
      rw [H'g, if_neg (old b o e).2, if_neg (old b o e).1, if_neg nP]; exact e
    have none' : ∀ b, H b = none → b ≠ h'.objs.size → b ≠ c' → H' b = none := fun b e n1 n2 => by
      rw [H'g, if_neg n1, if_neg n2, if_neg (fun z => by rw [z, hP] at e; cases e)]; exact e
    have kH : ∀ b o, b ≠ P → s.heap.get? b = some o → (h'.push (PySem.W.fnMade name (qualnameIn X.env name name) params body scope (closL X.env scope.names []) doc ((X.mg "__name__").getD .none) c' ctv)).get? b = some o :=
      fun b o nP e => Heap.get?_push_of_some _ (hx' b o nP e)
    have nP' : ∀ b, H b = none → b ≠ P := fun b e z => by rw [z, hP] at e; cases e
    have J : Inv X pins σ H' { s with heap := h'.push (PySem.W.fnMade name (qualnameIn X.env name name) params body scope (closL X.env scope.names []) doc ((X.mg "__name__").getD .none) c' ctv), toks := tk } := by
      refine I.un ⟨fun b o e n _ _ => kH b o (nP' b n) e, fun b o e n _ _ => ⟨o.slots, kH b o (nP' b n) e⟩, fun b o e n _ => ?_, fun b o e _ => ?_, fun b xs e => ?_, fun b o u e => ?_, fun b qs' e => ?_⟩ (fun b o e => ?_) htk
      · have := Heap.lt_size e
        exact none' b n (Nat.ne_of_lt (Nat.lt_of_lt_of_le this hgt)) (Nat.ne_of_lt (Nat.lt_of_lt_of_le this hge))
      · by_cases z : b = P
        · subst z; exact ⟨_, Heap.get?_push_of_some _ htb⟩
        · exact ⟨o, kH b o z e⟩
      · exact kp b _ (fun z => by rw [z, hP] at e; cases e) e
      · exact kp b _ (fun z => by rw [z, hP] at e; cases e) e
      · by_cases z : b = P
        · subst z
          rw [hP] at e; cases e
          exact ⟨#[rawInt pos.line, rawInt pos.col, .ref c'], by rw [H'g, if_neg gP.symm, if_neg cP.symm, if_pos rfl]⟩
        · exact ⟨#[], by rw [kp b _ z e]; simp⟩
      · rw [H'g] at e
        split at e
        · rename_i z; cases e; subst z
          exact fnExt_ok (Heap.get?_push_size _ rfl)
        · split at e
          · rename_i z; cases e; subst z
            exact codeExt_ok (hrec.push _)
          · split at e
            · rename_i z; cases e; subst z
              exact Heap.get?_push_of_some _ htb
            · rename_i z
              refine (I.hok b o e).stay (fun d u hd q => kH d u ?_ q) (fun d q => kp d _ (fun z => by rw [z, hP] at q; cases q) q) fun d xs q => kp d _ (fun z => by rw [z, hP] at q; cases q) q
              rcases hd with hd | hd
              · rw [hd]; exact z
              · exact fun z => by rw [z, hP] at hd; cases hd
    refine store_ok J hN hi hx (v := .ref h'.objs.size) rfl (fun s2 J2 => ?_) hf
    refine ⟨_, H', J2, hw ⟨h'.objs.size, c', PySem.W.fnMade name (qualnameIn X.env name name) params body scope (closL X.env scope.names []) doc ((X.mg "__name__").getD .none) c' ctv, qualnameIn X.env name name, []⟩ H' ⟨?_, ?_, ⟨ps ++ #[rawInt pos.line, rawInt pos.col, .ref c'], ?_, ?_, fun q hq' => ?_⟩, I.hok.fresh hgt, gc, kp, none'⟩ ⟨doc, ctv, rfl, rfl, rfl⟩⟩
    · rw [H'g, if_pos rfl]
    · rw [H'g, if_neg gc.symm, if_pos rfl]
    · rw [H'g, if_neg gP.symm, if_neg cP.symm, if_pos rfl]
    · rw [Array.toList_append]
      exact TriplesOk_snoc _ _ _ _ hT
    · rw [show (ps ++ #[rawInt pos.line, rawInt pos.col, .ref c']).toList = ps.toList ++ [rawInt pos.line, rawInt pos.col, .ref c'] from Array.toList_append]
      rw [codeAmong_app _ hT]
      rcases hC q hq' with z | ⟨d, z, zd⟩
      · rw [z]
        by_cases hb : ((pos.line : Int) == (q.1.line : Int) && (pos.col : Int) == (q.1.col : Int)) = true
        · refine .inr ⟨c', by simp only [hb, if_true], ?_⟩
          rw [Bool.and_eq_true, beq_iff_eq, beq_iff_eq] at hb
          rw [hqs q hq' (by omega) (by omega), H'g, if_neg gc.symm, if_pos rfl]
        · exact .inl (by simp only [hb, if_false, Bool.false_eq_true])
      · rw [z]
        exact .inr ⟨d, rfl, kp d _ (fun y => by rw [y, hP] at zd; cases zd) zd⟩
  · refine wpAny_with_toks (n := 1) tk0 ?_
    refine PySem.W.makeFunction_hit (closureFor_of hcl) I.ok.glob hgs T.code hhd ePs hT hf0 hbi fun ctv doc h' tk hk hsz htk => ?_
    have J := I.laid (a := h'.objs.size) (o := fnExt h'.objs.size (PySem.W.fnMade name (qualnameIn X.env name name) params body scope (closL X.env scope.names []) doc ((X.mg "__name__").getD .none) c0 ctv))
      (t' := tk) (h' := h'.push (PySem.W.fnMade name (qualnameIn X.env name name) params body scope (closL X.env scope.names []) doc ((X.mg "__name__").getD .none) c0 ctv))
      (fun b u e => Heap.get?_push_of_some _ (hk b u e)) hsz (fnExt_ok (Heap.get?_push_size _ rfl)) htk
    have fr : H h'.objs.size = none := I.hok.fresh hsz
    have kp : ∀ b o, H b = some o → upd H h'.objs.size (fnExt h'.objs.size (PySem.W.fnMade name (qualnameIn X.env name name) params body scope (closL X.env scope.names []) doc ((X.mg "__name__").getD .none) c0 ctv)) b = some o := fun b o e => by
      rw [upd_ne (ne_of_none e fr)]; exact e
    refine store_ok J hN hi hx (v := .ref h'.objs.size) rfl (fun s2 J2 => ?_) hf
    exact ⟨_, _, J2, hw ⟨h'.objs.size, c0, PySem.W.fnMade name (qualnameIn X.env name name) params body scope (closL X.env scope.names []) doc ((X.mg "__name__").getD .none) c0 ctv, qualnameIn X.env name name, []⟩ _ ⟨upd_same, kp _ _ hc0, tab.keep kp, fr, (ne_of_none hc0 fr).symm, fun b o _ e => kp b o e, fun b e n1 _ => by rw [upd_ne n1]; exact e⟩ ⟨doc, ctv, rfl, rfl, rfl⟩⟩
end
end L2

set_option Elab.async false
set_option linter.all false
set_option maxRecDepth 100000
/-! A call with closures: the callee's base holds them. A call of a closure. -/
namespace L2
open PySem PySem.Spec PyProof.Rows

def adrs (D : List Clo) : List Addr := D.flatMap fun d => d.g :: d.c :: d.cs.map (·.1)
theorem mem_adrs {D : List Clo} {b : Addr} : b ∈ adrs D ↔ ∃ d ∈ D, b = d.g ∨ b = d.c ∨ b ∈ d.cs.map (·.1) := by
  unfold adrs
  rw [List.mem_flatMap]
  constructor
  · rintro ⟨d, hd, hb⟩; exact ⟨d, hd, by simpa using hb⟩
  · rintro ⟨d, hd, hb⟩; exact ⟨d, hd, by simpa using hb⟩
/-- the heap without the closures, and with them again -/
def drop (H : Hp) (D : List Clo) : Hp := fun b => if b ∈ adrs D then none else H b
def back (H : Hp) (D : List Clo) (H2 : Hp) : Hp := fun b => if b ∈ adrs D then H b else H2 b
theorem drop_ne {H : Hp} {D : List Clo} {b : Addr} (h : b ∉ adrs D) : drop H D b = H b := if_neg h
theorem back_ne {H H2 : Hp} {D : List Clo} {b : Addr} (h : b ∉ adrs D) : back H D H2 b = H2 b := if_neg h
theorem drop_in {H : Hp} {D : List Clo} {b : Addr} (h : b ∈ adrs D) : drop H D b = none := if_pos h
theorem back_in {H H2 : Hp} {D : List Clo} {b : Addr} (h : b ∈ adrs D) : back H D H2 b = H b := if_pos h
def CloOk (H : Hp) (d : Clo) : Prop := H d.g = some (fnExt d.g d.obj) ∧ H d.c = some (codeExt d.c d.qual) ∧ ∀ q ∈ d.cs, H q.1 = some (cellExt q.1 q.2)
theorem clo_ext {H : Hp} {D : List Clo} (h : ∀ d ∈ D, CloOk H d) {b : Addr} (hb : b ∈ adrs D) : ∃ φ, H b = some (.ext φ) := by
  obtain ⟨d, hd, e⟩ := mem_adrs.mp hb
  rcases e with e | e | e
  · exact ⟨_, e ▸ (h d hd).1⟩
  · exact ⟨_, e ▸ (h d hd).2.1⟩
  · obtain ⟨q, hq, rfl⟩ := List.mem_map.mp e
    exact ⟨_, (h d hd).2.2 q hq⟩
/-- what is no function and no code stays -/
theorem clo_out {H : Hp} {D : List Clo} (h : ∀ d ∈ D, CloOk H d) {b : Addr} {o : HO} (e : H b = some o) (ho : ∀ φ, o ≠ .ext φ) : b ∉ adrs D := fun z => by
  obtain ⟨φ, q⟩ := clo_ext h z
  rw [e] at q; cases q; exact ho φ rfl

structure BaseX (X : Cx) (σ : St) (D : List Clo) (base : Heap) : Prop where
  kin : X.K.In base
  glob : base.Ns mainGlobals X.mg
  old : ∀ b o, X.base.get? b = some o → base.get? b = some o
  fn : ∀ d ∈ D, base.get? d.g = some d.obj
  cd : ∀ d ∈ D, base.CodeRec (.ref d.c) d.qual
  cs : ∀ d ∈ D, ∀ q ∈ d.cs, ∃ u, RelV q.2 u ∧ base.IsCell q.1 (some u)
  cell : ∀ x c, X.env.cells.lookup x = some c → ∃ v, base.IsCell c v
  inj : ∀ x y c, X.env.cells.lookup x = some c → X.env.cells.lookup y = some c → x = y
  val : ∀ (i : Nat) x v, X.N[i]? = some x → σ[i]? = some (some v) → (X.env.kindOf x = some .cell ∨ X.env.kindOf x = some .free) → ∃ u c, RelV v u ∧ X.env.cells.lookup x = some c ∧ base.IsCell c (some u)
/-- the cells of a closure that X makes -/
theorem BaseX.cells {X : Cx} {σ : St} {D : List Clo} {base : Heap} (B : BaseX X σ D base) {sc : Scope} {fr : List Str} {fvs : List V} (hcl : ∀ n, (n, NameKind.free) ∈ sc.names → ∃ c, X.env.cells.lookup n = some c) (hl : fvs.length = fr.length)
    (hv : ∀ (i : Nat) x v, fr[i]? = some x → fvs[i]? = some v → sc.names.lookup x = some .free ∧ (X.env.kindOf x = some .cell ∨ X.env.kindOf x = some .free) ∧ ∃ j : Nat, X.N[j]? = some x ∧ σ[j]? = some (some v)) :
    CloCells base (closL X.env sc.names []) sc fr fvs := by
  have sub : ∀ x c, (closL X.env sc.names []).lookup x = some c → X.env.cells.lookup x = some c := fun x c e => by
    rcases closL_sub (PySem.mem_of_lookup e) with z | z
    · cases z
    · exact z
  refine ⟨fun x c e => B.cell x c (sub x c e), fun x y c e1 e2 => B.inj x y c (sub x c e1) (sub y c e2), fun x hx => ?_, hl, fun i x v e1 e2 => ?_⟩
  · obtain ⟨c, hc⟩ := hcl x (PySem.mem_of_lookup hx)
    exact ⟨c, closL_get hc (PySem.mem_of_lookup hx)⟩
  · obtain ⟨h1, h2, j, h3, h4⟩ := hv i x v e1 e2
    obtain ⟨u, c, r, hc, z⟩ := B.val j x v h3 h4 h2
    exact ⟨h1, u, c, r, closL_get hc (PySem.mem_of_lookup h1), z⟩

section
variable {X : Cx} {pins : List (Addr × Obj)} {σ : St} {H : Hp} {s : Shared} {D : List Clo}
def InX (X : Cx) (D : List Clo) (b : Addr) : Prop := X.base.get? b ≠ none ∨ b ∈ adrs D ∨ ∃ x, X.env.cells.lookup x = some b
noncomputable def hidX (X : Cx) (D : List Clo) (n : Nat) : List Addr := (List.range n).filter fun b => @decide (¬ InX X D b) (Classical.propDecidable _)
theorem mem_hidX {n : Nat} {b : Addr} : b ∈ hidX X D n ↔ b < n ∧ ¬ InX X D b := by
  unfold hidX
  rw [List.mem_filter, List.mem_range]
  exact and_congr Iff.rfl (@decide_eq_true_iff _ (Classical.propDecidable _))
/-- the base with the frame's cells and the closures -/
noncomputable def baseX (X : Cx) (D : List Clo) (h : Heap) : Heap := PySem.W.hideAll h (hidX X D h.objs.size)
theorem baseX_get {h : Heap} {b : Addr} {o : Obj} (e : h.get? b = some o) (p : InX X D b) : (baseX X D h).get? b = some o :=
  PySem.W.hideAll_get _ e fun z => (mem_hidX.mp z).2 p
theorem of_baseX {h : Heap} {b : Addr} {o : Obj} (e : (baseX X D h).get? b = some o) : h.get? b = some o ∧ InX X D b := by
  have e1 := PySem.W.of_hideAll _ e
  refine ⟨e1, Classical.byContradiction fun n => ?_⟩
  have := PySem.W.hideAll_none (h := h) _ (mem_hidX.mpr ⟨Heap.lt_size e1, n⟩)
  unfold baseX at e
  rw [this] at e; cases e
theorem Inv.baseX_ok (I : Inv X pins σ H s) (hD : ∀ d ∈ D, CloOk H d) : BaseX X σ D (baseX X D s.heap) := by
  have old : ∀ b o, X.base.get? b = some o → (baseX X D s.heap).get? b = some o := fun b o e => baseX_get (I.bk b o e) (.inl (by rw [e]; simp))
  have cellK : ∀ x c v, X.env.cells.lookup x = some c → s.heap.IsCell c v → (baseX X D s.heap).IsCell c v := fun x c v e ⟨o, z, r⟩ => ⟨o, baseX_get z (.inr (.inr ⟨x, e⟩)), r⟩
  refine ⟨I.mod.kin.keeps old, I.mod.glob.keeps old, old, fun d hd => ?_, fun d hd => ?_, fun d hd q hq => ?_, fun x c e => ?_, I.ok.inj, fun i x v h1 h2 h3 => ?_⟩
  · obtain ⟨z, _⟩ := I.hok d.g _ (hD d hd).1
    exact baseX_get z (.inr (.inl (mem_adrs.mpr ⟨d, hd, .inl rfl⟩)))
  · obtain ⟨⟨c, o, vs, t, e, z, r⟩, _⟩ := I.hok d.c _ (hD d hd).2.1
    have e' : d.c = c := by cases e; rfl
    exact ⟨c, o, vs, t, e, baseX_get z (.inr (.inl (mem_adrs.mpr ⟨d, hd, .inr (.inl e'.symm)⟩))), r⟩
  · obtain ⟨⟨u, r, o, z, r2⟩, _⟩ := I.hok q.1 _ ((hD d hd).2.2 q hq)
    exact ⟨u, r, o, baseX_get z (.inr (.inl (mem_adrs.mpr ⟨d, hd, .inr (.inr (List.mem_map_of_mem hq))⟩))), r2⟩
  · obtain ⟨v, z⟩ := I.cell x c e
    exact ⟨v, cellK x c v e z⟩
  · obtain ⟨m, hn, hl⟩ := I.loc
    obtain ⟨u, r, l⟩ := hl i x v h1 h2 (by rcases h3 with z | z; exact .inr (.inl z); exact .inr (.inr z))
    rcases l with ⟨k, _⟩ | ⟨_, c, e, z⟩
    · rcases h3 with z | z <;> (rw [z] at k; cases k)
    · exact ⟨u, c, r, e, cellK x c _ e z⟩

theorem Inv.env0X (I : Inv X pins σ H s) (hfn : ∀ x, X.fn x = true) (hD : ∀ d ∈ D, CloOk H d) : Env0 X.prog X.w X.K X.mg (baseX X D s.heap) X.A X.stack s (drop H D) := by
  have B := I.baseX_ok hD
  have dn : ∀ b, H b = none → drop H D b = none := fun b e => by unfold drop; split; rfl; exact e
  have frN : ∀ b ∈ frs X.stack, (baseX X D s.heap).get? b = none := fun b hb => by
    cases q : (baseX X D s.heap).get? b with
    | none => rfl
    | some o =>
      obtain ⟨e, p⟩ := of_baseX q
      rcases p with p | p | ⟨x, p⟩
      · exact absurd (I.stack.mem hb).1 p
      · obtain ⟨φ, z⟩ := clo_ext hD p
        rw [I.stkFree b hb] at z; cases z
      · rcases List.mem_cons.mp (I.stkSub b hb) with z | z
        · exact absurd z (I.cne x b p)
        · obtain ⟨_, o', ho', _⟩ := I.ok.funs.mem z
          exact absurd (Heap.lt_size ho') (Nat.not_lt.mpr (I.ok.cab x b (hfn x) p))
  have fun' : ∀ l : List Env, (∀ b ∈ frs l, b ∈ frs X.stack) → s.heap.FunFrames X.base l → s.heap.FunFrames (baseX X D s.heap) l := by
    intro l
    induction l with
    | nil => intro _ _; trivial
    | cons env r ih =>
      intro hs hl
      obtain ⟨hk, ⟨L, o, hf, hn, ho, hd⟩, hr⟩ := hl
      have hL : L ∈ frs X.stack := hs L (by unfold frs; rw [List.filterMap_cons, hf]; exact List.mem_cons_self)
      exact ⟨hk, ⟨L, o, hf, frN L hL, ho, hd⟩, ih (fun b hb => hs b (by unfold frs; rw [List.filterMap_cons, hf]; exact List.mem_cons_of_mem _ hb)) hr⟩
  refine ⟨I.ok.frames, ⟨B.kin, B.glob, ?_, I.mod.nolimit.keeps B.old⟩, fun b o e => ?_, Nat.le_of_eq (PySem.W.hideAll_size _ _), fun' X.stack (fun _ h => h) I.stack, fun b hb => dn b (I.stkFree b hb), fun b o e => ?_, I.bare, I.tk⟩
  · obtain ⟨mb, h1, h2⟩ := I.mod.blt
    exact ⟨mb, h1.keeps B.old, h2⟩
  · obtain ⟨e1, p⟩ := of_baseX e
    refine ⟨e1, ?_⟩
    rcases p with p | p | ⟨x, p⟩
    · cases q : X.base.get? b with
      | none => exact absurd q p
      | some o' => exact dn b (I.bs b o' q).2
    · exact drop_in p
    · exact dn b (I.freeC x b p)
  · by_cases hb : b ∈ adrs D
    · rw [drop_in hb] at e; cases e
    · rw [drop_ne hb] at e
      refine (I.hok b o e).stay (fun _ _ _ q => q) (fun c q => ?_) fun c xs q => ?_
      · rw [drop_ne (clo_out hD q fun φ z => by cases z)]; exact q
      · rw [drop_ne (clo_out hD q fun φ z => by cases z)]; exact q

theorem Inv.afterX {Q : VK} {u : Value} {s' : Shared} (I : Inv X pins σ H s) (hD : ∀ d ∈ D, CloOk H d) (h : CE X.stack X.prog X.w (drop H D) s (fun v H2 => (∀ b ∈ adrs D, H2 b = none) → Q v (back H D H2)) u s') : EP X pins σ Q u s' := by
  obtain ⟨v, H2, os, bare, un, hok, tk', r, q⟩ := h
  have dn : ∀ b, H b = none → drop H D b = none := fun b e => by unfold drop; split; rfl; exact e
  have inD : ∀ b, b ∈ adrs D → H2 b = none := fun b hb => by
    obtain ⟨φ, z⟩ := clo_ext hD hb
    obtain ⟨_, ⟨o, e⟩, _⟩ := I.hok b _ z
    exact un.free b o e (drop_in hb) (by simp)
  refine I.after ⟨v, back H D H2, os, bare, ⟨fun b o e n => un.keep b o e (dn b n), fun b o e n => un.slot b o e (dn b n), fun b o e n hx => ?_, un.there, fun b xs e => ?_, fun b o u e => ?_, fun b ps e => ?_⟩, fun b o e => ?_, tk', r, q inD⟩
  · by_cases hb : b ∈ adrs D
    · rw [back_in hb]; exact n
    · rw [back_ne hb]; exact un.free b o e (dn b n) hx
  · have hb := clo_out hD e fun φ z => by cases z
    rw [back_ne hb]; exact un.tups b xs (by rw [drop_ne hb]; exact e)
  · have hb := clo_out hD e fun φ z => by cases z
    rw [back_ne hb]; exact un.frzs b o u (by rw [drop_ne hb]; exact e)
  · have hb := clo_out hD e fun φ z => by cases z
    obtain ⟨more, z⟩ := un.tbls b ps (by rw [drop_ne hb]; exact e)
    exact ⟨more, by rw [back_ne hb]; exact z⟩
  · by_cases hb : b ∈ adrs D
    · rw [back_in hb] at e
      obtain ⟨φ, z⟩ := clo_ext hD hb
      rw [e] at z; cases z
      obtain ⟨p, ⟨ob, eo⟩, st⟩ := I.hok b _ e
      have nf : b ∉ frs X.stack := fun z => by rw [I.stkFree b z] at e; cases e
      have k : ∀ o, s.heap.get? b = some o → s'.heap.get? b = some o := fun o e => un.keep b o e (drop_in hb) nf (by simp)
      exact ⟨st _ _ p k, ⟨ob, k ob eo⟩, st⟩
    · rw [back_ne hb] at e
      refine (hok b o e).stay (fun _ _ _ q => q) (fun c q => ?_) fun c xs q => ?_
      · rw [back_ne fun z => by rw [inD c z] at q; cases q]; exact q
      · rw [back_ne fun z => by rw [inD c z] at q; cases q]; exact q
end

/-- f(..), the closures D handed on: f's promise at the base that holds them -/
def tCallX (X : Cx) (k : Nat) (x : Str) (ps : List Str) (t : TA) : TE := fun σ H Q => t σ H fun vs H1 => ∃ D sp, (∀ d ∈ D, CloOk H1 d) ∧ (∀ base, BaseX X σ D base → Def X.prog X.w X.K X.mg base k x ps sp) ∧
  sp vs (drop H1 D) (fun v H2 => (∀ b ∈ adrs D, H2 b = none) → Q v (back H1 D H2)) E0
section
variable {X : Cx} {k i : Nat} {x : Str} {ps : List Str} {sp : Sp} {e : Expr} {es : List Expr} {te : TE} {t : TA} {p pos : Pos}
theorem pe_callX (hm : ∃ f, X.mg x = some (.ref f) ∧ PySem.W.keepIn X.K (.ref f) = true) (hfn : ∀ x, X.fn x = true) (hr : Room k X.A) (ha : PA X (e :: es) t) (hg : Gl X x := by exact rfl) (hdb : (x == ("__debug__" : Str)) = false := by decide)
    (he : starEach (e :: es) X.env = (false, eval e X.env) :: starEach es X.env := by rfl) (hpl : (backTo pos (starEach es X.env)).any (·.1) = false := by rfl) :
    PE X (.Call (.Name x p) (e :: es) [] pos) (tCallX X k x ps t) := by
  obtain ⟨f, hmf, hk⟩ := hm
  intro pins s σ H Q I h
  refine wpAny_Call_Name_kw (ld_glob I hg hmf ?_ hdb)
  refine PySem.W.callWith_K (h₀ := X.base) I.ok.mod.kin hk (thn (ha pos pins s σ H _ I h) fun us s1 ⟨vs, H1, I1, r, D, sp, hD, hF, q⟩ => ⟨I1.kIn, ?_⟩) he hpl
  obtain ⟨f', fd, F, hm', _, hb⟩ := (hF _ (I1.baseX_ok hD)).ex
  have e' := hmf.symm.trans hm'
  cases e'
  have hl : (us ++ []).length = ps.length := by rw [List.append_nil, ← r.length]; exact F.len _ _ _ _ q
  show wpAny _ _ (call (.ref f) us) _ _ s1
  refine wpAny_call (codeAny_mono (F.run X.A X.stack s1 (drop H1 D) ⟨us, []⟩ us vs (fun v H2 => (∀ b ∈ adrs D, H2 b = none) → Q v (back H1 D H2)) E0 hr (I1.env0X hfn hD) (by have := hb s1 us I1.kIn hl; rwa [List.append_nil] at this) r q) fun r s' hq => ?_)
  cases r with
  | error e => exact False.elim hq
  | ok fl =>
    cases fl with
    | ret u => exact I1.afterX hD hq
    | next => exact False.elim hq
    | brk => exact False.elim hq
    | cont => exact False.elim hq

/-- a function that stands in the base, as a value -/
structure FnV (P : Program) (w : World) (K : PySem.W.Frag) (mg : Str → Option Value) (base : Heap) (k : Nat) (g : Addr) (ps : List Str) (sp : Sp) : Prop where
  ex : ∃ fd, FnOk P w K mg base CX0 k g fd ps sp ∧ Binds K fd ps [] ∧ PySem.W.FnAt g base
/-- x(..), x a name of the def that holds a function -/
def tCallV (X : Cx) (k i : Nat) (t : TA) : TE := fun σ H Q => ∃ g ps sp, σ[i]? = some (some (.ref g)) ∧ FnV X.prog X.w X.K X.mg X.base k g ps sp ∧ t σ H fun vs H1 => sp vs H1 Q E0
theorem FnAt.keeps' {h h' : Heap} {q : Addr} (x : PySem.W.FnAt q h) (k : ∀ b o, h.get? b = some o → h'.get? b = some o) : PySem.W.FnAt q h' := let ⟨a, b, c, d, e⟩ := x; ⟨a, b, c, d, k _ _ e⟩
theorem pe_callV (hN : X.N[i]? = some x) (hv : Vis X.env.scope x) (hr : Room k X.A) (ha : PA X (e :: es) t) (hd : (x == ("__debug__" : Str)) = false := by decide) (hcd : (x == ("__classdict__" : Str)) = false := by decide)
    (he : starEach (e :: es) X.env = (false, eval e X.env) :: starEach es X.env := by rfl) (hpl : (backTo pos (starEach es X.env)).any (·.1) = false := by rfl) :
    PE X (.Call (.Name x p) (e :: es) [] pos) (tCallV X k i t) := by
  intro pins s σ H Q I h
  obtain ⟨g, ps, sp, hg, V, h⟩ := h
  obtain ⟨fd, F, hb, hat⟩ := V.ex
  refine wpAny_Call_Name_kw (thn (pe_var hN hv hd hcd pins s σ H (fun v H' => v = .ref g ∧ H' = H) I ⟨_, hg, rfl, rfl⟩) fun u s1 ⟨v, H', I1, r, hv', hH⟩ => ?_)
  subst hv'; subst hH
  obtain rfl : u = Value.ref g := r
  refine PySem.W.callWith_F (FnAt.keeps' hat I1.bk) (thn (ha pos pins s1 σ _ _ I1 h) fun us s2 ⟨vs, H2, I2, r2, q⟩ => ⟨FnAt.keeps' hat I2.bk, ?_⟩) he hpl
  exact run_fn (ds := []) (dvs := []) F hr hb .nil pass0 I2 r2 (by rw [List.append_nil]; exact q)
end
end L2

set_option Elab.async false
set_option linter.all false
set_option maxRecDepth 100000
/-! The head with tables of codes; a def that has defs within it. -/
namespace L2
open PySem PySem.Spec PyProof.Rows

section
variable {P : Program} {w : World} {K : PySem.W.Frag} {mg : Str → Option Value} {base : Heap}
/-- a def whose code stands at c -/
theorem Fun.okT {x qual : Str} {st : Stmt} {f c : Addr} {fd : FuncData} {N ps : List Str} {k : Nat} {sp : Sp} (F : Fun K x qual st f fd) (hc : fd.code = .ref c) (S : FnScope N ps (defScope st)) (len : ∀ vs H Q E, sp vs H Q E → vs.length = ps.length)
    (hbody : ∀ (A : Around) (outer : List Env) (s : Shared) (H : Hp) (vs : List V) (Q : VK) (E : XK), Room k (A.deeper (envOfC qual (defScope st) s.heap.objs.size f (.ref c))) → sp vs H Q E →
      ∃ t, PSs (cxOf CX0 P w K mg base N qual (defScope st) f (.ref c) A outer s H E).nox (defBody st) t ∧ t { nx := fun _ H' => Q .non H', rt := Q } (start N vs) H) : FnOk P w K mg base CX0 (k + 1) f fd ps sp := by
  obtain ⟨oc, od, kV, doc, pm, an, cdv, ct, osl, rfl, lk, hcd⟩ := F.ex
  obtain rfl : cdv = .ref c := hc
  refine fn_of lk hcd S len fun A outer s H vs Q E hr hsp => ?_
  obtain ⟨t, h, q⟩ := hbody A outer s H vs Q E hr hsp
  exact ⟨t, h.nox, q⟩
/-- a closure of the base, no exception leaving -/
theorem fn_ofC0 {k : Nat} {f : Addr} {name qual : Str} {params : Arguments} {body : List Stmt} {scope : Scope} {cl : List (Str × Addr)} {doc pm ct : Value} {c' : Addr}
    {N ps fr : List Str} {fvs : List V} {sp : Sp} (lk : base.get? f = some (PySem.W.fnMade name qual params body scope cl doc pm c' ct)) (hcd : base.CodeRec (.ref c') qual) (S : CloScope N ps fr scope) (C : CloCells base cl scope fr fvs)
    (len : ∀ vs H Q E, sp vs H Q E → vs.length = ps.length)
    (hb : ∀ us : List Value, us.length = ps.length → bindArgs (PySem.W.fnX name qual params body scope cl .none .none doc pm none (.ref c') ct) ⟨us, []⟩ = pure (ps.zip us))
    (hbody : ∀ (A : Around) (outer : List Env) (s : Shared) (H : Hp) (vs : List V) (Q : VK) (E : XK), Room k (A.deeper (PySem.W.envX qual scope s.heap.objs.size f (.ref c') cl)) → sp vs H Q E →
      ∃ t, PSs (cxC CX0 P w K mg base N qual scope f (.ref c') cl A outer s H E).nox body t ∧ t { nx := fun _ H' => Q .non H', rt := Q } (start N (vs ++ fvs)) H) :
    FnV P w K mg base (k + 1) f ps sp := by
  refine ⟨_, fn_ofC lk hcd S C len fun A outer s H vs Q E hr hsp => ?_, .all hb, ⟨_, _, _, _, lk⟩⟩
  obtain ⟨t, h, q⟩ := hbody A outer s H vs Q E hr hsp
  exact ⟨t, h.nox, q⟩
end

/-! ### the fragment without the tables -/
def dropK (K : PySem.W.Frag) (Ps : List Addr) : PySem.W.Frag := K.filter fun p => !Ps.contains p.1
theorem dropK_lookup {Ps : List Addr} {a : Addr} : ∀ {K : PySem.W.Frag}, (dropK K Ps).lookup a = if Ps.contains a = true then none else K.lookup a
  | [] => by
    show (none : Option Obj) = _
    split <;> rfl
  | (b, o) :: K => by
    have ih := dropK_lookup (Ps := Ps) (a := a) (K := K)
    unfold dropK at ih ⊢
    by_cases hb : Ps.contains b = true
    · rw [List.filter_cons_of_neg (by simp only [hb]; decide), ih, List.lookup_cons]
      cases hab : a == b with
      | true =>
        have := eq_of_beq hab
        subst this
        rw [if_pos hb, if_pos hb]
      | false => rfl
    · rw [List.filter_cons_of_pos (by simp only [hb]; decide), List.lookup_cons, List.lookup_cons]
      cases hab : a == b with
      | true =>
        have := eq_of_beq hab
        subst this
        rw [if_neg hb]
      | false => exact ih
theorem dropK_in {K : PySem.W.Frag} {Ps : List Addr} {h : Heap} (X : K.In h) : (dropK K Ps).In h := fun a o e => by
  rw [dropK_lookup] at e
  split at e
  · cases e
  · exact X a o e
theorem dropK_not {K : PySem.W.Frag} {tabs : List (Addr × Addr)} : ∀ b o, (dropK K (tabs.map (·.2))).lookup b = some o → ∀ q ∈ tabs, q.2 ≠ b := fun b o e q hq z => by
  rw [dropK_lookup, if_pos (by rw [List.contains_iff_mem, ← z]; exact List.mem_map_of_mem hq)] at e
  cases e
/-- what stands at the places left out is an empty table -/
def Tabs0 (K : PySem.W.Frag) (Ps : List Addr) : Prop := ∀ a o, a ∈ Ps → K.lookup a = some o → o = PySem.W.tabObj #[]
theorem tabs0_of {K : PySem.W.Frag} {tabs : List (Addr × Addr)} {h : Heap} (X : K.In h) (hT : PySem.W.TabsAt tabs h) : Tabs0 K (tabs.map (·.2)) := fun a o ha e => by
  obtain ⟨q, hq, rfl⟩ := List.mem_map.mp ha
  have := (hT q hq).2
  rw [X _ _ e] at this
  exact Option.some.inj this
theorem dropK_other {K : PySem.W.Frag} {Ps : List Addr} {a : Addr} {o : Obj} (h : Tabs0 K Ps) (e : K.lookup a = some o) (ho : o ≠ PySem.W.tabObj #[]) : (dropK K Ps).lookup a = some o := by
  rw [dropK_lookup, if_neg (fun z => ho (h a o (List.contains_iff_mem.mp z) e))]
  exact e
theorem nsIn_drop {K : PySem.W.Frag} {Ps : List Addr} (h : Tabs0 K Ps) (a : Addr) (x : Str) : PySem.W.nsIn (dropK K Ps) a x = PySem.W.nsIn K a x := by
  unfold PySem.W.nsIn
  rw [dropK_lookup]
  by_cases hb : Ps.contains a = true
  · rw [if_pos hb]
    cases e : K.lookup a with
    | none => rfl
    | some o => rw [h a o (List.contains_iff_mem.mp hb) e]
  · rw [if_neg hb]
theorem codeIn_drop {K : PySem.W.Frag} {Ps : List Addr} (h : Tabs0 K Ps) (cd : Value) (q : Str) : PySem.W.codeIn (dropK K Ps) cd q = PySem.W.codeIn K cd q := by
  unfold PySem.W.codeIn
  split
  · rename_i c
    rw [dropK_lookup]
    by_cases hb : Ps.contains c = true
    · rw [if_pos hb]
      cases e : K.lookup c with
      | none => rfl
      | some o => rw [h c o (List.contains_iff_mem.mp hb) e]
    · rw [if_neg hb]
  · rfl
/-- nothing is tracked but the script and the tables -/
def OnlyT (tabs : List (Addr × Addr)) (H : Hp) : Prop := ∀ b, H b = none ∨ (∃ o xs, H b = some (.frz o (.lst xs))) ∨ ((∃ q ∈ tabs, q.2 = b) ∧ H b = some (.tbl #[]))

theorem law_callT {P : Program} {w : World} {K : PySem.W.Frag} {mg mb : Str → Option Value} {CX : CXT} {k : Nat} {fa a : Addr} {fd : FuncData} {x : Str} {sp : Sp} {s₁ : Shared} {vs : List Value} {ns : List Int} {tabs : List (Addr × Addr)}
    (KX : K.In s₁.heap) (hns : s₁.heap.Ns mainGlobals mg) (hb : s₁.heap.Ns builtinsNs mb) (hbb : ∀ x : Str, x ≠ "__name__" → mb x = bootBuiltins x) (hlim : s₁.heap.NoLimit) (hg : s₁.gens = #[]) (htk : 0 < s₁.toks)
    (ha : s₁.heap.get? a = some { cls := .type "list", data := .seq vs.toArray }) (hi : IntsAre vs ns) (hl : ns.length ≤ sizeLine) (hr : Room k callerA)
    (hT : PySem.W.TabsAt tabs s₁.heap) (hnt : ∀ b o, K.lookup b = some o → ∀ q ∈ tabs, q.2 ≠ b) (hbi : ∃ bm o, mg "__builtins__" = some (.ref bm) ∧ bm ≠ builtinsNs ∧ bm ≠ mainGlobals ∧ s₁.heap.get? bm = some o ∧ o.cls = .type "module" ∧ o.dict = some builtinsNs ∧ o.data = .plain)
    (F : ∀ base : Heap, K.In base → base.Ns mainGlobals mg → (∀ q ∈ tabs, PySem.W.CodeHd base q.1 q.2 ∧ base.BuiltinsAt mg q.2) → FnOk P w K mg base CX k fa fd [x] sp) (hbind : ∀ (s : Shared) (u : Value), BindsTo s fd ⟨[u], []⟩ [(x, u)])
    (hsp : ∀ H : Hp, OnlyT tabs H → SqL K H a (ns.map V.int) → (∀ q ∈ tabs, H q.2 = some (.tbl #[])) → sp [.ref a] H (fun v _ => v = .bl true) fun _ _ _ => False)
    (hCX : ∀ H e s', CX [] H s₁ (fun _ _ _ => False) e s' → False) :
    codeAny (model P w) callerA (.call (.ref fa) ⟨[.ref a], []⟩) (fun r s' => r = .ok (.ret (.bool true)) ∧ OldK s₁.heap s'.heap ∧ s'.os = s₁.os ∧ AllBare s'.gens) s₁ := by
  have rv := vals_ints hi
  have lenV := hi.length
  have tabNe : ∀ q ∈ tabs, q.2 ≠ a := fun q hq z => by
    have e := (hT q hq).2
    rw [z, ha] at e; cases e
  -- from an abstract heap in which nothing but the script and the tables may be tracked
  have core : ∀ H : Hp, OnlyT tabs H → SqL K H a (ns.map V.int) → HOk P w H s₁.heap → (∀ b, H b ≠ none → b = a ∨ ∃ q ∈ tabs, q.2 = b) → (H a ≠ none → K.lookup a = none) → (∀ q ∈ tabs, H q.2 = some (.tbl #[])) →
      codeAny (model P w) callerA (.call (.ref fa) ⟨[.ref a], []⟩) (fun r s' => r = .ok (.ret (.bool true)) ∧ OldK s₁.heap s'.heap ∧ s'.os = s₁.os ∧ AllBare s'.gens) s₁ := by
    intro H hO hS hok hA hK hTb
    have base_of : ∀ {b : Addr} {o : Obj}, s₁.heap.get? b = some o → H b = none → (hidT s₁.heap H).get? b = some o := fun e n => hidT_get e n
    have notTab : ∀ {b : Addr} {o : Obj}, s₁.heap.get? b = some o → b ≠ a → o ≠ PySem.W.tabObj #[] → H b = none := fun {b o} e n1 n2 => by
      cases q : H b with
      | none => rfl
      | some u =>
        rcases hA b (by rw [q]; simp) with z | ⟨r, hr', z⟩
        · exact absurd z n1
        · have e2 := (hT r hr').2
          rw [z, e] at e2
          exact absurd (Option.some.inj e2) n2
    have noA : ∀ {b : Addr} {o : Obj} {es : Array DictEntry} {ep : Nat}, s₁.heap.get? b = some o → o.data = .dict es ep → H b = none := fun {b o es ep} e d => by
      refine notTab e (fun z => ?_) fun z => ?_
      · subst z; rw [ha] at e; cases e; cases d
      · subst z; cases d
    have nsK : ∀ {b : Addr} {m : Str → Option Value}, s₁.heap.Ns b m → (hidT s₁.heap H).Ns b m := fun {b m} ⟨o, es, ep, e, d, r⟩ => ⟨o, es, ep, base_of e (noA e d), d, r⟩
    have hKb : K.In (hidT s₁.heap H) := fun b o e => base_of (KX b o e) (by
      cases q : H b with
      | none => rfl
      | some u =>
        rcases hA b (by rw [q]; simp) with z | ⟨r, hr', z⟩
        · subst z
          rw [hK (by rw [q]; simp)] at e; cases e
        · exact absurd z (hnt b o e r hr'))
    have hcd : ∀ q ∈ tabs, PySem.W.CodeHd (hidT s₁.heap H) q.1 q.2 ∧ (hidT s₁.heap H).BuiltinsAt mg q.2 := fun q hq => by
      refine ⟨?_, ?_⟩
      · obtain ⟨o, vs', file, tf, flags, tg, inF, text, tt, e1, r1, r2, r⟩ := (hT q hq).1
        refine ⟨o, vs', file, tf, flags, tg, inF, text, tt, base_of e1 (notTab e1 (fun z => ?_) fun z => ?_), r1, r2, r⟩
        · rw [z, ha] at e1; cases e1; exact absurd r1 (by simp)
        · subst z; cases r1
      · obtain ⟨bm, o, b1, b2, b3, b4, b5, b6, b7⟩ := hbi
        refine ⟨bm, o, b1, b2, b3, fun z => ?_, base_of b4 (notTab b4 (fun z => ?_) fun z => ?_), b5, b6, b7⟩
        · have e2 := (hT q hq).2
          rw [← z, b4] at e2; cases e2; cases b5
        · rw [z, ha] at b4; cases b4; exact absurd b5 (by simp)
        · subst z; cases b5
    have hM : Mod K mg (hidT s₁.heap H) := ⟨hKb, nsK hns, ⟨mb, nsK hb, hbb⟩, let ⟨mc, h1, h2⟩ := hlim; ⟨mc, nsK h1, h2⟩⟩
    have e0 : Env0 P w K mg (hidT s₁.heap H) callerA [] s₁ H := ⟨rfl, hM, fun b o e => of_hidT e, Nat.le_of_eq (hidT_size _ _), trivial, fun b hb => absurd (show b ∈ ([] : List Addr) from hb) (by simp), hok, .of_eq hg, htk⟩
    refine codeAny_mono ((F _ hKb (nsK hns) hcd).run callerA [] s₁ H ⟨[.ref a], []⟩ [.ref a] [.ref a] _ _ hr e0 (hbind s₁ (.ref a)) (.cons rfl .nil) (hsp H hO hS hTb)) fun r s' h => ?_
    cases r with
    | error e => exact (hCX H e s' h).elim
    | ok fl =>
      cases fl with
      | next => exact False.elim h
      | brk => exact False.elim h
      | cont => exact False.elim h
      | ret u =>
        obtain ⟨v, H', os, bare, un, hok', _, r', q⟩ := h
        have q' : v = .bl true := q
        subst q'
        obtain rfl : u = Value.bool true := r'
        have cases3 : ∀ b o, s₁.heap.get? b = some o → s'.heap.get? b = some o ∨ ((∃ q ∈ tabs, q.2 = b) ∧ o = PySem.W.tabObj #[] ∧ ∃ more, s'.heap.get? b = some (PySem.W.tabObj more)) := fun b o e => by
          rcases hO b with z | ⟨ob, xs, z⟩ | ⟨hq, z⟩
          · exact .inl (un.keep b o e z (by intro z; exact absurd (show b ∈ ([] : List Addr) from z) (by simp)) (by simp))
          · have z2 := un.frzs b ob _ z
            obtain ⟨e1, _⟩ := hok b _ z
            obtain ⟨e2, _⟩ := hok' b _ z2
            rw [e] at e1; cases e1
            exact .inl e2
          · obtain ⟨more, z2⟩ := un.tbls b _ z
            have e1 : s₁.heap.get? b = some (PySem.W.tabObj #[]) := hok b _ z
            have e2 : s'.heap.get? b = some (PySem.W.tabObj (#[] ++ more)) := hok' b _ z2
            rw [e] at e1; cases e1
            exact .inr ⟨hq, rfl, _, e2⟩
        refine ⟨rfl, ⟨fun b o e => ?_, fun b o e => ?_⟩, os, bare⟩
        · rcases cases3 b o e with z | ⟨⟨q, hq, hb'⟩, rfl, more, z⟩
          · exact .inl z
          · obtain ⟨o', vs', _, _, _, _, _, _, _, e1, r1, r2, r3, _⟩ := (hT q hq).1
            exact .inr (.inl ⟨⟨q.1, o', vs', e1, r1, r2, by rw [← hb']; exact r3⟩, rfl, #[], more, rfl, by rw [Array.empty_append]; exact z⟩)
        · rcases cases3 b o e with z | ⟨_, _, more, z⟩
          · exact ⟨_, z⟩
          · exact ⟨_, z⟩
  have tabIn : ∀ q ∈ tabs, ∀ (H : Hp), ObjOk P w H s₁.heap q.2 (.tbl #[]) := fun q hq H => (hT q hq).2
  have dec : ∀ b : Addr, (∃ q ∈ tabs, q.2 = b) ∨ ¬ ∃ q ∈ tabs, q.2 = b := fun b => Classical.em _
  cases hk : K.lookup a with
  | some o =>
    -- the script is one of the module's own objects
    have e := KX a o hk
    rw [ha] at e
    cases e
    have hH : ∀ b, (if b ∈ tabs.map (·.2) then some (HO.tbl #[]) else none : Option HO) = some (.tbl #[]) ∧ (∃ q ∈ tabs, q.2 = b) ∨ (if b ∈ tabs.map (·.2) then some (HO.tbl #[]) else none : Option HO) = none := fun b => by
      by_cases hb' : b ∈ tabs.map (·.2)
      · obtain ⟨q, hq, rfl⟩ := List.mem_map.mp hb'
        exact .inl ⟨if_pos hb', q, hq, rfl⟩
      · exact .inr (if_neg hb')
    refine core (fun b => if b ∈ tabs.map (·.2) then some (HO.tbl #[]) else none) (fun b => ?_) (.inr ⟨_, vs.toArray, _, hk, rfl, rfl, rfl, by rw [List.size_toArray, lenV]; exact hl, by simpa using rv⟩) (fun b u z => ?_) (fun b z => ?_) (fun z => ?_) fun q hq => if_pos (List.mem_map_of_mem hq)
    · rcases hH b with ⟨z, y⟩ | z
      · exact .inr (.inr ⟨y, z⟩)
      · exact .inl z
    · rcases hH b with ⟨y, q, hq, rfl⟩ | y
      · have z' := y.symm.trans z; cases z'
        exact tabIn q hq _
      · have z' := y.symm.trans z; cases z'
    · rcases hH b with ⟨_, y⟩ | y
      · exact .inr y
      · exact absurd y z
    · rcases hH a with ⟨_, q, hq, y⟩ | y
      · exact absurd y (tabNe q hq)
      · exact absurd y z
  | none =>
    have hH : ∀ b, (b = a ∧ (if b = a then some (HO.frz { cls := .type "list", data := .seq vs.toArray } (.lst (ns.map V.int))) else if b ∈ tabs.map (·.2) then some (HO.tbl #[]) else none : Option HO) = some (HO.frz { cls := .type "list", data := .seq vs.toArray } (.lst (ns.map V.int)))) ∨
        ((∃ q ∈ tabs, q.2 = b) ∧ (if b = a then some (HO.frz { cls := .type "list", data := .seq vs.toArray } (.lst (ns.map V.int))) else if b ∈ tabs.map (·.2) then some (HO.tbl #[]) else none : Option HO) = some (.tbl #[])) ∨
        (if b = a then some (HO.frz { cls := .type "list", data := .seq vs.toArray } (.lst (ns.map V.int))) else if b ∈ tabs.map (·.2) then some (HO.tbl #[]) else none : Option HO) = none := fun b => by
      by_cases h1 : b = a
      · exact .inl ⟨h1, if_pos h1⟩
      · by_cases hb' : b ∈ tabs.map (·.2)
        · obtain ⟨q, hq, e⟩ := List.mem_map.mp hb'
          exact .inr (.inl ⟨⟨q, hq, e⟩, by rw [if_neg h1, if_pos hb']⟩)
        · exact .inr (.inr (by rw [if_neg h1, if_neg hb']))
    refine core (fun b => if b = a then some (HO.frz { cls := .type "list", data := .seq vs.toArray } (.lst (ns.map V.int))) else if b ∈ tabs.map (·.2) then some (HO.tbl #[]) else none) (fun b => ?_) (.inl (.inr ⟨{ cls := .type "list", data := .seq vs.toArray }, if_pos rfl⟩)) (fun b u z => ?_) (fun b z => ?_) (fun _ => hk)
      fun q hq => ?_
    · rcases hH b with ⟨_, y⟩ | ⟨y, z⟩ | y
      · exact .inr (.inl ⟨_, _, y⟩)
      · exact .inr (.inr ⟨y, z⟩)
      · exact .inl y
    · rcases hH b with ⟨rfl, y⟩ | ⟨⟨q, hq, rfl⟩, y⟩ | y
      · have z' := y.symm.trans z; cases z'
        exact ⟨ha, by rw [List.length_map]; exact hl, vs, _, rv, ha⟩
      · have z' := y.symm.trans z; cases z'
        exact tabIn q hq _
      · have z' := y.symm.trans z; cases z'
    · rcases hH b with ⟨y, _⟩ | ⟨y, _⟩ | y
      · exact .inl y
      · exact .inr y
      · exact absurd y z
    · show (if q.2 = a then _ else if q.2 ∈ tabs.map (·.2) then _ else _) = _
      rw [if_neg (tabNe q hq), if_pos (List.mem_map_of_mem hq)]
end L2

/-! Texts as lists of signs: splitting, words, tidy, cells. -/
namespace Lm
/-- the pieces of l between the signs c -/
def splitC (c : Nat) : List Nat → List (List Nat)
  | [] => [[]]
  | x :: r => if x = c then [] :: splitC c r else
    match splitC c r with
    | h :: t => (x :: h) :: t
    | [] => [[x]]
theorem splitC_ne (c : Nat) : ∀ l : List Nat, splitC c l ≠ []
  | [] => by simp [splitC]
  | x :: r => by
    unfold splitC
    split
    · simp
    · split <;> simp
theorem splitC_cons (c x : Nat) (r : List Nat) (h : x ≠ c) : ∃ p t, splitC c r = p :: t ∧ splitC c (x :: r) = (x :: p) :: t := by
  have e : splitC c (x :: r) = match splitC c r with
      | h :: t => (x :: h) :: t
      | [] => [[x]] := by
    rw [splitC, if_neg h]
  cases q : splitC c r with
  | nil => exact absurd q (splitC_ne c r)
  | cons p t => exact ⟨p, t, rfl, by rw [e, q]⟩
theorem splitC_sep (c : Nat) (r : List Nat) : splitC c (c :: r) = [] :: splitC c r := by rw [splitC, if_pos rfl]
theorem splitC_free (c : Nat) : ∀ l : List Nat, c ∉ l → splitC c l = [l]
  | [], _ => rfl
  | x :: r, h => by
    have hx : x ≠ c := fun e => h (by simp [e])
    have ih := splitC_free c r fun z => h (List.mem_cons_of_mem _ z)
    obtain ⟨p, t, e1, e2⟩ := splitC_cons c x r hx
    rw [ih] at e1
    cases e1
    exact e2
theorem splitC_app (c : Nat) : ∀ (a r : List Nat), c ∉ a → splitC c (a ++ c :: r) = a :: splitC c r
  | [], r, _ => by rw [List.nil_append, splitC_sep]
  | x :: a, r, h => by
    have hx : x ≠ c := fun e => h (by simp [e])
    have ih := splitC_app c a r fun z => h (List.mem_cons_of_mem _ z)
    obtain ⟨p, t, e1, e2⟩ := splitC_cons c x (a ++ c :: r) hx
    rw [ih] at e1
    cases e1
    exact e2
/-- glue -/
def glueC (g : List Nat) : List (List Nat) → List Nat
  | [] => []
  | [p] => p
  | p :: q :: r => p ++ g ++ glueC g (q :: r)
theorem glueC_cons (g p : List Nat) (r : List (List Nat)) (h : r ≠ []) : glueC g (p :: r) = p ++ g ++ glueC g r := by
  cases r with
  | nil => exact absurd rfl h
  | cons q r => rfl
theorem split_glue (c : Nat) : ∀ ps : List (List Nat), ps ≠ [] → (∀ p ∈ ps, c ∉ p) → splitC c (glueC [c] ps) = ps
  | [], h, _ => absurd rfl h
  | [p], _, hp => splitC_free c p (hp p (by simp))
  | p :: q :: r, _, hp => by
    show splitC c (p ++ [c] ++ glueC [c] (q :: r)) = _
    rw [List.append_assoc, List.singleton_append, splitC_app c p _ (hp p (by simp)), split_glue c (q :: r) (by simp) fun z hz => hp z (List.mem_cons_of_mem _ hz)]
end Lm

set_option linter.all false
namespace Lm
open PySem PySem.Builtin PySem.Builtin.Str PySem.StrLaws
abbrev S (l : List Nat) : Str := ⟨l.toArray⟩
theorem S_len (l : List Nat) : (S l).length = l.length := by simp [Str.length]
theorem S_list (l : List Nat) : (S l).cps.toList = l := by simp
theorem S_of (x : Str) : S x.cps.toList = x := by cases x; simp
theorem S_inj {a b : List Nat} (h : S a = S b) : a = b := by
  have := congrArg (fun x : Str => x.cps.toList) h
  simpa using this
theorem S_app (a b : List Nat) : S a ++ S b = S (a ++ b) := by
  show Str.append (S a) (S b) = _
  simp [Str.append]
theorem join_S (g : List Nat) : ∀ ps : List Str, (Str.join (S g) ps).cps.toList = glueC g (ps.map fun p => p.cps.toList)
  | [] => rfl
  | [p] => rfl
  | p :: q :: r => by
    show ((p ++ S g ++ Str.join (S g) (q :: r)) : Str).cps.toList = _
    rw [Str.cps_append, Str.cps_append, Array.toList_append, Array.toList_append, join_S g (q :: r)]
    rfl
theorem split_S (c : Nat) (l : List Nat) : Txt.split (S l) (S [c]) = (splitC c l).map S := by
  have h1 := join_split (S l) (S [c])
  have h2 := split_free (S l) c
  have h3 : ∀ ps : List Str, ps = (ps.map fun p => p.cps.toList).map S := fun ps => by
    rw [List.map_map]
    conv => lhs; rw [← List.map_id ps]
    refine List.map_congr_left fun p _ => ?_
    exact (S_of p).symm
  have h4 : glueC [c] ((Txt.split (S l) (S [c])).map fun p => p.cps.toList) = l := by
    have := congrArg (fun x : Str => x.cps.toList) h1
    simp only [S_list] at this
    rw [← join_S]
    exact this
  have ne : (Txt.split (S l) (S [c])).map (fun p => p.cps.toList) ≠ [] := by
    unfold Txt.split
    split
    · simp
    · split
      · simp
      · rw [partsBetween_eq]
        obtain ⟨p, r, e⟩ := partsFrom_ne (S l) (S [c]).length 0 (occurrences (S l) (S [c]) 0 (S l).length ((S l).length + 1))
        rw [e]; simp
  have h5 := split_glue c _ ne (fun p hp => by
    obtain ⟨q, hq, rfl⟩ := List.mem_map.mp hp
    exact h2 q hq)
  rw [h4] at h5
  rw [h5]
  exact h3 _
theorem glued_S (g : List Nat) (ps : List (List Nat)) : glued (S g) (ps.map S) = S (glueC g ps) := by
  have key : ∀ (ps : List (List Nat)) (acc : List Nat), (ps.map S).foldl (fun acc p => acc ++ (S g).cps ++ p.cps) acc.toArray = (acc ++ (ps.map fun p => g ++ p).flatten).toArray := by
    intro ps
    induction ps with
    | nil => intro acc; simp
    | cons p r ih =>
      intro acc
      rw [List.map_cons, List.foldl_cons]
      have e : acc.toArray ++ (S g).cps ++ (S p).cps = (acc ++ g ++ p).toArray := by simp
      rw [e, ih]
      simp
  have gl : ∀ (p : List Nat) (r : List (List Nat)), glueC g (p :: r) = p ++ (r.map fun p => g ++ p).flatten := by
    intro p r
    induction r generalizing p with
    | nil => simp [glueC]
    | cons q r ih => rw [glueC_cons g p (q :: r) (by simp), ih q]; simp
  unfold glued
  cases ps with
  | nil => rfl
  | cons p r =>
    rw [gl]
    show (⟨(List.drop 1 (S p :: r.map S)).foldl _ (S p).cps⟩ : Str) = _
    rw [List.drop_one, List.tail_cons, key]
theorem joinT_S (g : List Nat) (ps : List (List Nat)) : Txt.join (S g) (ps.map S) = S (glueC g ps) := glued_S g ps
/-! ### stripping -/
/-! ### occurrences -/
theorem subAt_S (l y : List Nat) (i : Nat) : subAt (S l) (S y) i = decide ((l.drop i).take y.length = y) := by
  unfold subAt
  rw [Bool.eq_iff_iff]
  simp only [beq_iff_eq, decide_eq_true_eq]
  rw [← Array.toList_inj]
  simp [S_len]
theorem lower_S (l : List Nat) (h : ∀ c ∈ l, c < 128) : Txt.lower (S l) = S (l.map PyProof.Rows.lo1) := by
  rw [PyProof.Rows.lower_ascii (by simpa using h)]
  simp
theorem contains_S (l : List Nat) (c : Nat) : (!(occurrences (S l) (S [c]) 0 (S l).length 1).isEmpty) = l.contains c := by
  rw [found_one, Bool.eq_iff_iff]
  simp

/-! ### replace -/
theorem replace_eq (x y z : Str) : Txt.replace x y z = glued z (partsBetween x (occurrences x y 0 x.length (x.length + 1)) y.length) := by
  unfold Txt.replace
  split
  · rename_i h
    rcases Bool.or_eq_true_iff.mp h with h | h
    · rw [List.isEmpty_iff.mp h]
      have e : partsBetween x [] y.length = [x] := by
        rw [partsBetween_eq]; show [strSub x 0 x.length] = [x]; rw [sub_whole]
      rw [e]; rfl
    · simp only [Bool.and_eq_true, beq_iff_eq] at h
      have e : z = y := by
        obtain ⟨a⟩ := y; obtain ⟨b⟩ := z
        simp only [Str.length, Array.size_eq_zero_iff] at h; rw [h.1, h.2]
      rw [e, glued_between_self]
  · rfl
theorem cuts_one (c : Nat) (l : List Nat) : partsBetween (S l) (occurrences (S l) (S [c]) 0 (S l).length ((S l).length + 1)) (S [c]).length = (splitC c l).map S := by
  have h := split_S c l
  unfold Txt.split at h
  split at h
  · rename_i hk
    have no : occurrences (S l) (S [c]) 0 (S l).length ((S l).length + 1) = [] := by
      have hc : c ∉ l := by
        rw [Bool.or_eq_true, decide_eq_true_eq, decide_eq_true_eq] at hk
        rcases hk with hk | hk
        · rw [S_len, S_len] at hk
          have : l = [] := by cases l; rfl; simp at hk
          subst this; simp
        · have := kind_free (S l) c hk
          simpa using this
      cases q : occurrences (S l) (S [c]) 0 (S l).length ((S l).length + 1) with
      | nil => rfl
      | cons i r =>
        obtain ⟨f, hG, _⟩ := occ_tight (S l) (S [c]) (Nat.le_refl 1)
        rw [q] at hG
        have := (subAt_one (S l) c i).mp hG.2.1
        rw [S_list] at this
        exact absurd (List.mem_of_getElem? this) hc
    rw [no, partsBetween_eq]
    show [strSub (S l) 0 (S l).length] = _
    rw [sub_whole]
    exact h
  · split at h
    · rename_i he
      rw [List.isEmpty_iff.mp he, partsBetween_eq]
      show [strSub (S l) 0 (S l).length] = _
      rw [sub_whole]
      exact h
    · exact h
theorem replace_one (c : Nat) (z l : List Nat) : Txt.replace (S l) (S [c]) (S z) = S (glueC z (splitC c l)) := by
  rw [replace_eq, cuts_one, glued_S]
/-! ### slices -/
def clipL (n : Nat) (d : Nat) : Option Int → Nat
  | none => d
  | some i => (max 0 (min (if i < 0 then i + n else i) n)).toNat
def cutL (l : List Nat) (lo hi : Option Int) : List Nat := (l.drop (clipL l.length 0 lo)).take (clipL l.length l.length hi - clipL l.length 0 lo)
theorem filterMap_range (l : List Nat) : ∀ (n a : Nat), a + n ≤ l.length → ((List.range n).map fun (k : Nat) => a + k).filterMap (l[·]?) = (l.drop a).take n := by
  intro n
  induction n with
  | zero => intro a _; simp
  | succ n ih =>
    intro a h
    rw [List.range_succ, List.map_append, List.filterMap_append, ih a (by omega), List.take_add_one]
    have : a + n < l.length := by omega
    simp [List.getElem?_drop, this]
theorem slice_S (l : List Nat) (lo hi : Option Int) : Txt.slice (S l) lo hi = S (cutL l lo hi) := by
  have key : ∃ (a b : Nat), a = clipL l.length 0 lo ∧ b = clipL l.length l.length hi ∧ a ≤ l.length ∧ b ≤ l.length ∧ strSliceIndices lo hi 1 l.length = (List.range (b - a)).map fun (k : Nat) => a + k := by
    refine ⟨_, _, rfl, rfl, ?_, ?_, ?_⟩
    · cases lo <;> simp only [clipL] <;> omega
    · cases hi <;> simp only [clipL] <;> omega
    · unfold strSliceIndices sliceRange
      have e1 : (1 : Int) > 0 := by decide
      simp only [e1, if_true]
      cases lo <;> cases hi <;> simp only [clipL] <;> (refine congr (congrArg List.map ?_) (congrArg List.range ?_)) <;> first | (funext k; omega) | (split <;> omega) | (split <;> (try split) <;> omega)
  obtain ⟨a, b, ea, eb, ha, hb, e⟩ := key
  unfold Txt.slice cutL
  rw [S_len, e, ← ea, ← eb]
  simp only [List.length_map, List.length_range]
  split
  · rename_i h
    simp only [beq_self_eq_true, Bool.true_and, beq_iff_eq] at h
    have h1 : a = 0 := by omega
    have h2 : b = l.length := by omega
    rw [h1, h2]
    simp
  · rename_i h
    congr 1
    have q := filterMap_range l (b - a) a (by omega)
    rw [← q]
    congr 2
    funext i
    simp
end Lm

set_option linter.all false
namespace Lm
/-! ### the texts between bars -/
/-! ### one more sign -/
/-! ### bars with a backslash -/
end Lm

set_option linter.all false
namespace Lm
/-! ### blanks at the ends -/
/-! ### names -/
def nameSigns : List Nat := [97, 98, 99, 100, 101, 102, 103, 104, 105, 106, 107, 108, 109, 110, 111, 112, 113, 114, 115, 116, 117, 118, 119, 120, 121, 122, 65, 66, 67, 68, 69, 70, 71, 72, 73, 74, 75, 76, 77, 78, 79, 80, 81, 82, 83, 84, 85, 86, 87, 88, 89, 90, 48, 49, 50, 51, 52, 53, 54, 55, 56, 57]
def isNameC (l : List Nat) : Bool := decide (1 ≤ l.length) && decide (l.length ≤ 12) && l.all nameSigns.contains
def smallC (l : List Nat) : List Nat := l.map PyProof.Rows.lo1
/-! ### sorts -/
/-! ### the law's way -/
/-! headings -/
end Lm

set_option linter.all false
namespace Lm
/-! ### lengths -/
/-! ### signs below 128 -/
def Asc (l : List Nat) : Prop := ∀ c ∈ l, c < 128
theorem Asc.sub {a b : List Nat} (h : Asc b) (s : ∀ c ∈ a, c ∈ b) : Asc a := fun c hc => h c (s c hc)
theorem Asc.drop {l : List Nat} (h : Asc l) (n : Nat) : Asc (l.drop n) := h.sub fun c hc => List.mem_of_mem_drop hc
theorem Asc.take {l : List Nat} (h : Asc l) (n : Nat) : Asc (l.take n) := h.sub fun c hc => List.mem_of_mem_take hc
theorem lo1_lt (c : Nat) (h : c < 128) : PyProof.Rows.lo1 c < 128 := by unfold PyProof.Rows.lo1; split <;> omega
theorem Asc.small {l : List Nat} (h : Asc l) : Asc (smallC l) := fun c hc => by
  obtain ⟨d, hd, rfl⟩ := List.mem_map.mp hc
  exact lo1_lt d (h d hd)
theorem strOk_S {l : List Nat} (h : Asc l) : PySem.PyData.strOk (S l) = true := by
  unfold PySem.PyData.strOk
  rw [Array.all_eq_true_iff_forall_mem]
  intro c hc
  have : c ∈ l := by simpa using hc
  have := h c this
  exact decide_eq_true (by omega)
/-! ### the pieces between places -/
end Lm

set_option Elab.async false
set_option linter.all false
set_option maxRecDepth 100000
set_option maxHeartbeats 4000000
namespace Lw
open PySem L2 Lm
theorem big {n : Nat} (h : n ≤ 1000000) : n ≤ sizeLine := by rw [sizeLine_eq]; omega
theorem bigS {l : List Nat} (h : l.length ≤ 1000000) : (S l).length ≤ sizeLine := by rw [S_len]; exact big h
theorem at_S {l : List Nat} {i : Nat} (h : i < l.length) : atI (S l).cps.toList (i : Int) = some (l.getD i 0) := by
  rw [S_list]
  refine atI_nat ?_
  rw [List.getD_eq_getElem?_getD, List.getElem?_eq_getElem h]
  simp
section
variable {a b : List Nat} {x y : V}
end
section
variable {P : Program} {w : World} {K : PySem.W.Frag} {mg : Str → Option Value} {base : Heap}
/-! is_parting_bar -/
/-! words_of -/
/-! tidy -/
theorem map_S_V (ws : List (List Nat)) : (ws.map fun w => V.str (S w)) = (ws.map S).map V.str := by rw [List.map_map]; rfl
end
abbrev vS (l : List Nat) : V := .str (S l)
section
variable {P : Program} {w : World} {K : PySem.W.Frag} {mg : Str → Option Value} {base : Heap}
/-! split_cells -/
end
theorem cut_any (l : List Nat) (b p : Nat) : cutL l (some (b : Int)) (some (p : Int)) = (l.drop b).take (p - b) := by
  unfold cutL
  have e : clipL l.length 0 (some (b : Int)) = min b l.length := by unfold clipL; simp only []; omega
  have e2 : clipL l.length l.length (some (p : Int)) = min p l.length := by unfold clipL; simp only []; omega
  rw [e, e2]
  rcases Nat.le_total b l.length with h | h
  · rw [Nat.min_eq_left h]
    rcases Nat.le_total p l.length with h2 | h2
    · rw [Nat.min_eq_left h2]
    · rw [Nat.min_eq_right h2, List.take_of_length_le (by rw [List.length_drop]; exact Nat.le_refl _), List.take_of_length_le (by rw [List.length_drop]; omega)]
  · rw [Nat.min_eq_right h, List.drop_eq_nil_of_le h, List.drop_eq_nil_of_le (Nat.le_refl _)]; simp
section
variable {P : Program} {w : World} {K : PySem.W.Frag} {mg : Str → Option Value} {base : Heap}
/-! is_name -/
def inNames : V → V
  | .str x => .bl (x.cps.toList.all nameSigns.contains)
  | _ => .bl false
/-! name_of -/
def spNameOf : Sp := fun vs H Q _ => ∃ l : List Nat, vs = [vS l] ∧ l.length ≤ 1000000 ∧ isNameC l = true ∧ ∀ H', Same H H' → Q (vS (smallC l)) H'
theorem name_asc {l : List Nat} (h : isNameC l = true) : Asc l := by
  intro c hc
  unfold isNameC at h
  rw [Bool.and_eq_true] at h
  have := List.all_eq_true.mp h.2 c hc
  have key : ∀ x ∈ nameSigns, x < 128 := by decide
  exact key c (by simpa using this)
/-! rest_of_quote -/
/-! heading_level -/
/-! is_cells -/
end
/-- what a test tells, the heap grown -/
def Tells (t : TT) (σ : St) (H : Hp) (a : Bool) : Prop := ∀ R : Bool → Hp → Prop, (∀ H', Same H H' → R a H') → t σ H R
theorem t_and {t u : TT} {σ : St} {H : Hp} (a b : Bool) (ht : Tells t σ H a) (hu : a = true → ∀ H1, Same H H1 → Tells u σ H1 b) : Tells (tAnd t u) σ H (a && b) := by
  intro R k
  refine ht _ fun H1 s1 => ?_
  cases a with
  | true => exact hu rfl H1 s1 R fun H' s' => k H' (s1.trans s')
  | false => exact k H1 s1
theorem t_or {t u : TT} {σ : St} {H : Hp} (a b : Bool) (ht : Tells t σ H a) (hu : a = false → ∀ H1, Same H H1 → Tells u σ H1 b) : Tells (tOr t u) σ H (a || b) := by
  intro R k
  refine ht _ fun H1 s1 => ?_
  cases a with
  | false => exact hu rfl H1 s1 R fun H' s' => k H' (s1.trans s')
  | true => exact k H1 s1
theorem t_not {t : TT} {σ : St} {H : Hp} (a : Bool) (ht : Tells t σ H a) : Tells (tNot t) σ H (!a) := fun R k => ht _ fun H1 s1 => k H1 s1
theorem s_if {t : TT} {f g : TS} {D : Ends} {σ : St} {H : Hp} (a : Bool) (ht : Tells t σ H a) (k1 : ∀ H', Same H H' → a = true → f D σ H') (k2 : ∀ H', Same H H' → a = false → g D σ H') : tIfS t f g D σ H :=
  ht _ fun H' s' => ite2 (k1 H' s') fun c => k2 H' s' (Bool.eq_false_iff.mpr c)
section
variable {P : Program} {w : World} {K : PySem.W.Frag} {mg : Str → Option Value} {base : Heap}
/-! definition_of -/
end
section
variable {P : Program} {w : World} {K : PySem.W.Frag} {mg : Str → Option Value} {base : Heap}
/-! item_or_plain -/
/-! sort_of -/
/-- two texts told apart -/
theorem t_eq {te : TE} {σ : St} {H : Hp} {y : Str} (a b : List Nat) (ey : y = S b) (he : ∀ R' : VK, R' (vS a) H → te σ H R') : Tells (tTest (tOp rEq te (tC (.str y)))) σ H (decide (a = b)) := by
  intro R k
  refine he _ ⟨rfl, _, rfl, ?_⟩
  have : decide (vS a = V.str y) = decide (a = b) := by
    rw [ey]
    exact decide_eq_decide.mpr ⟨fun h => S_inj (V.str.inj h), fun h => by rw [h]⟩
  rw [this]
  exact k H (Same.refl H)
end
section
variable {P : Program} {w : World} {K : PySem.W.Frag} {mg : Str → Option Value} {base : Heap}
/-! _law_mixed -/
/-! _law_signs -/
end
theorem asc_app {a b : List Nat} (h : Asc a) (k : Asc b) : Asc (a ++ b) := fun c hc => by
  rcases List.mem_append.mp hc with hc | hc
  · exact h c hc
  · exact k c hc
theorem w_ixs {H : Hp} {l : List Nat} {i : Int} {Q : VK} (hl : l.length ≤ 1000000) (h0 : 0 ≤ i) (h1 : i < (l.length : Nat)) (k : Q (vS [l.getD i.toNat 0]) H) : rIxS (vS l) (.int i) H Q := by
  have e := at_S (l := l) (i := i.toNat) (by omega)
  rw [show ((i.toNat : Nat) : Int) = i by omega] at e
  exact ⟨_, i, _, rfl, rfl, bigS hl, e, k⟩
section
variable {P : Program} {w : World} {K : PySem.W.Frag} {mg : Str → Option Value} {base : Heap}
/-! _law_row -/
end
/-- text, told apart -/
theorem t_ne {te : TE} {σ : St} {H : Hp} {y : Str} (a b : List Nat) (ey : y = S b) (he : ∀ R' : VK, R' (vS a) H → te σ H R') : Tells (tTest (tOp rNe te (tC (.str y)))) σ H (decide (a ≠ b)) := by
  intro R k
  refine he _ ⟨rfl, _, rfl, ?_⟩
  have : (!decide (vS a = V.str y)) = decide (a ≠ b) := by
    rw [ey, ← decide_not]
    exact decide_eq_decide.mpr ⟨fun h e => h (by rw [e]), fun h e => h (S_inj (V.str.inj e))⟩
  rw [this]
  exact k H (Same.refl H)
/-! what an expression tells, the heap as it was -/
def Ev (te : TE) (σ : St) (H : Hp) (v : V) : Prop := ∀ R : VK, R v H → te σ H R
def EvO (t : TO) (σ : St) (H : Hp) (o : Option Int) : Prop := ∀ R : Option Int → Hp → Prop, R o H → t σ H R
section
variable {σ : St} {H : Hp} {ta tb : TE} {i j : Int} {a b l : List Nat} {v : V}
theorem ev_v {k : Nat} (h : σ[k]? = some (some v)) : Ev (tVar k) σ H v := fun R r => ⟨v, h, r⟩
theorem ev_c : Ev (tC v) σ H v := fun R r => r
theorem ev_lit {y : Str} (e : y = S b) : Ev (tC (.str y)) σ H (vS b) := fun R r => by rw [e]; exact r
theorem ev_op {g : Int → Int → V} (h1 : Ev ta σ H (.int i)) (h2 : Ev tb σ H (.int j)) (e : g i j = v) : Ev (tOp (rI0 g) ta tb) σ H v := fun R r => h1 _ (h2 _ ⟨i, j, rfl, rfl, by rw [e]; exact r⟩)
theorem ev_ix (hl : l.length ≤ 1000000) (h1 : Ev ta σ H (vS l)) (h2 : Ev tb σ H (.int i)) (h0 : 0 ≤ i) (hi : i < (l.length : Nat)) : Ev (tOp rIxS ta tb) σ H (vS [l.getD i.toNat 0]) := fun R r => h1 _ (h2 _ (w_ixs hl h0 hi r))
theorem evo_s (h : Ev ta σ H (.int i)) : EvO (tPart ta) σ H (some i) := fun R r => h _ ⟨i, rfl, r⟩
theorem ev_sl {tl th : TO} {lo hi : Option Int} (hl : l.length ≤ 1000000) (h1 : Ev ta σ H (vS l)) (h2 : EvO tl σ H lo) (h3 : EvO th σ H hi) (e : cutL l lo hi = a) : Ev (tSl rSlS ta tl th) σ H (vS a) := fun R r =>
  h1 _ (h2 _ (h3 _ ⟨_, rfl, bigS hl, by rw [slice_S, e]; exact r⟩))
theorem ev_cat (h1 : Ev ta σ H (vS a)) (h2 : Ev tb σ H (vS b)) (hz : a.length + b.length ≤ 1000000) : Ev (tOp (fun x y H Q => ∃ i j, x = .str i ∧ y = .str j ∧ i.length + j.length ≤ sizeLine ∧ Q (.str (i ++ j)) H) ta tb) σ H (vS (a ++ b)) := fun R r =>
  h1 _ (h2 _ ⟨_, _, rfl, rfl, by rw [S_len, S_len]; exact big hz, by rw [S_app]; exact r⟩)
theorem t_eqi (h1 : Ev ta σ H (.int i)) (h2 : Ev tb σ H (.int j)) : Tells (tTest (tOp rEq ta tb)) σ H (decide (i = j)) := fun R k => h1 _ (h2 _ ⟨rfl, _, rfl, by
  rw [show decide (V.int i = V.int j) = decide (i = j) from decide_eq_decide.mpr ⟨fun h => V.int.inj h, fun h => by rw [h]⟩]
  exact k H (Same.refl H)⟩)
theorem t_cmp {g : Int → Int → V} {c : Bool} (h1 : Ev ta σ H (.int i)) (h2 : Ev tb σ H (.int j)) (e : g i j = .bl c) : Tells (tTest (tOp (rI0 g) ta tb)) σ H c := fun R k => h1 _ (h2 _ ⟨i, j, rfl, rfl, _, e, k H (Same.refl H)⟩)
end
theorem while_t {c : TT} {tb : TS} {D : Ends} {σ : St} {H : Hp} (Pv : Nat → St → Hp → Prop) (m0 : Nat) (h0 : Pv m0 σ H)
    (hs : ∀ m σ H, Pv m σ H → ∃ a, Tells c σ H a ∧ (a = true → ∀ H', Same H H' → tb { D with nx := fun σ' H' => ∃ m', m' < m ∧ Pv m' σ' H', ct := fun σ' H' => ∃ m', m' < m ∧ Pv m' σ' H', bk := D.nx } σ H') ∧ (a = false → ∀ H', Same H H' → D.nx σ H')) : tWhile c tb D σ H := by
  refine ⟨Pv, ⟨m0, h0⟩, fun m σ H p => ?_⟩
  obtain ⟨a, ht, h1, h2⟩ := hs m σ H p
  exact ht _ fun H' s' => ite2 (fun c => ⟨fun σ' H' => ∃ m', m' < m ∧ Pv m' σ' H', fun σ' H' h => h, h1 c H' s'⟩) fun c => h2 (Bool.eq_false_iff.mpr c) H' s'
/-! ### the bounds -/
section
variable {P : Program} {w : World} {K : PySem.W.Frag} {mg : Str → Option Value} {base : Heap}
/-! _law_bounds -/
end
section
variable {P : Program} {w : World} {K : PySem.W.Frag} {mg : Str → Option Value} {base : Heap}
/-! _law_cells -/
/-! _law_name -/
end
section
variable {P : Program} {w : World} {K : PySem.W.Frag} {mg : Str → Option Value} {base : Heap}
/-! _law_flush -/
/-! _law_due -/
end
/-! ### sorts as data -/
section
variable {K : PySem.W.Frag} {H : Hp}
end
/-! ### what sort_of tells is of the row's signs -/
section
variable {P : Program} {w : World} {K : PySem.W.Frag} {mg : Str → Option Value} {base : Heap}
end
end Lw

set_option Elab.async false
set_option linter.all false
set_option maxRecDepth 100000
namespace Lw
open PySem L2 Lm
theorem mul_S (c : Nat) (n : Nat) : Txt.mul (S [c]) (n : Int) = S (List.replicate n c) := by
  unfold Txt.mul
  by_cases h : (n : Int) < 1
  · rw [if_pos h]
    have : n = 0 := by omega
    subst this
    rfl
  · rw [if_neg h]
    by_cases h1 : n = 1
    · subst h1; rfl
    · rw [if_neg (by
        rw [Bool.or_eq_true]
        rintro (z | z)
        · have : (n : Int) = 1 := by simpa using z
          omega
        · rw [S_len] at z; simp at z)]
      have key : ∀ (m : Nat) (acc : List Nat), List.foldl (fun x1 x2 => x1 ++ x2) acc.toArray (List.replicate m (S [c]).cps) = (acc ++ List.replicate m c).toArray := by
        intro m
        induction m with
        | zero => intro acc; simp
        | succ m ih =>
          intro acc
          rw [List.replicate_succ, List.foldl_cons]
          have e : acc.toArray ++ (S [c]).cps = (acc ++ [c]).toArray := by simp
          rw [e, ih (acc ++ [c]), List.replicate_succ]
          simp
      have := key n []
      rw [show (n : Int).toNat = n by omega]
      simp only [List.nil_append] at this
      rw [show (#[] : Array Nat) = ([] : List Nat).toArray from rfl, this]
section
variable {neat loose : List Nat}
/-! ### cells -/
end
end Lw

set_option linter.all false
namespace Lw
open PySem L2 Lm
/-! ### shares -/
end Lw

set_option Elab.async false
set_option linter.all false
set_option maxRecDepth 100000
namespace L2
open PySem PySem.Spec PyProof.Rows
section
variable {X : Cx} {c P : Addr} {k i : Nat} {x name : Str} {ps : List Str} {e : Expr} {es : List Expr} {t : TA} {p pos : Pos} {params : Arguments} {body : List Stmt} {scope : Scope} {qs : List (Pos × Str)}
theorem star_parts (hst : noStars (e :: es) = true) : isStar e = false ∧ noStars es = true := by
  unfold noStars at hst
  rw [Bool.and_eq_true, Bool.not_eq_true'] at hst
  exact hst
theorem xcX (hm : ∃ f, X.mg x = some (.ref f) ∧ PySem.W.keepIn X.K (.ref f) = true) (hfn : ∀ x, X.fn x = true) (hr : Room k X.A) (ha : XA X (e :: es) t) (hg : Gl X x := by exact rfl) (hdb : (x == ("__debug__" : Str)) = false := by decide) (hst : noStars (e :: es) = true := by rfl) :
    XE X (.Call (.Name x p) (e :: es) [] pos) (tCallX X k x ps t) := ⟨pe_callX hm hfn hr ha.h hg hdb (star_cons (star_parts hst).1) (stars_any (star_parts hst).2)⟩
theorem xcV (hN : X.N[i]? = some x) (hv : Vis X.env.scope x) (hr : Room k X.A) (ha : XA X (e :: es) t) (hd : (x == ("__debug__" : Str)) = false := by decide) (hcd : (x == ("__classdict__" : Str)) = false := by decide) (hst : noStars (e :: es) = true := by rfl) :
    XE X (.Call (.Name x p) (e :: es) [] pos) (tCallV X k i t) := ⟨pe_callV hN hv hr ha.h hd hcd (star_cons (star_parts hst).1) (stars_any (star_parts hst).2)⟩
theorem xdef (T : DefAt X c P) (hcl : ∀ n, (n, NameKind.free) ∈ scope.names → ∃ c, X.env.cells.lookup n = some c) (hq : (pos, qualnameIn X.env name name) ∈ qs) (hqs : ∀ q ∈ qs, q.1.line = pos.line → q.1.col = pos.col → q.2 = qualnameIn X.env name name)
    (hN : X.N.Nodup) (hi : X.N[i]? = some name) (hx : Loc X.env.scope name) (hf : X.fn name = true ∨ X.env.scope.names.lookup name = some .local := by first | exact .inl rfl | exact .inr rfl)
    (hd0 : params.defaults = [] := by rfl) (hk0 : params.kw_defaults = [] := by rfl) (ha : annTrees params none X.env = [] := by rfl) :
    XS X (.FunctionDef name params body [] none [] scope none name pos) (tDef P qs i (FnMade X name params body scope)) := ⟨ps_def T hcl hq hqs hN hi hx hf hd0 hk0 ha⟩
end
end L2
namespace Lm
/-! ### words filled -/
end Lm

set_option Elab.async false
set_option linter.all false
set_option maxRecDepth 100000
namespace L2
open PySem PySem.Spec PyProof.Rows
section
variable {X : Cx}
end
end L2

set_option Elab.async false
set_option linter.all false
set_option maxRecDepth 100000
/-! Objects of own classes: made, their values read and stored, their methods called, by the class that they are of. -/
namespace L2
open PySem PySem.Spec PyProof.Rows
section
variable {X : Cx} {k : Nat} {C : Addr} {x m f : Str} {ps : List Str} {sp : Sp} {e o value : Expr} {es : List Expr} {ta tv : TE} {t : TA} {p pos pos' apos : Pos}
theorem xfld (he : XE X e ta) (hb : plainBase e = true := by rfl) : XE X (.Attribute e f pos) (tFld X.K ta f) := ⟨pe_fld he.h (base_of hb)⟩
theorem xsetfld (ha : XE X o ta) (hv : XE X value tv) (hs : swapsWith value (some (.Attribute o f pos')) pos.line X.env = pure false := by rfl) : XS X (.Assign [.Attribute o f pos'] value pos) (sFld X.K ta tv f) := ⟨ps_fld ha.h hv.h hs⟩
/-- C(..) -/
structure New (P : Program) (w : World) (K : PySem.W.Frag) (mg : Str → Option Value) (base : Heap) (k : Nat) (x : Str) (C : Addr) (ps : List Str) (sp : Sp) : Prop where
  ex : ∃ f fd, Mk K C f ∧ FnOk P w K mg base CX0 k f fd ps sp ∧ mg x = some (.ref C) ∧ Binds K fd ps []
theorem xnew (D : New X.prog X.w X.K X.mg X.base k x C ps sp) (hr : Room (k + 1) X.A) (ha : XA X (e :: es) t) (hg : Gl X x := by exact rfl) (hdb : (x == ("__debug__" : Str)) = false := by decide) (hst : noStars (e :: es) = true := by rfl) :
    XE X (.Call (.Name x p) (e :: es) [] pos) (tMake C sp [] E0 t) := by
  obtain ⟨f, fd, M, F, hm, hb⟩ := D.ex
  exact ⟨pe_make M F hr hg hm hb .nil pass0 ha.h hdb (star_cons (star_parts hst).1) (stars_any (star_parts hst).2)⟩
/-- the method m of the class at C -/
structure MethV (P : Program) (w : World) (K : PySem.W.Frag) (mg : Str → Option Value) (base : Heap) (k : Nat) (C : Addr) (m : Str) (ps : List Str) (sp : Sp) : Prop where
  ex : ∃ f fd, Cls K C ∧ Meth K C m f ∧ FnOk P w K mg base CX0 k f fd ps sp ∧ Binds K fd ps []
theorem MethV.mono {P : Program} {w : World} {K : PySem.W.Frag} {mg : Str → Option Value} {base : Heap} {j k : Nat} {C : Addr} {m : Str} {ps : List Str} {sp : Sp} (V : MethV P w K mg base j C m ps sp) (h : j ≤ k) : MethV P w K mg base k C m ps sp := let ⟨f, fd, a, b, F, c⟩ := V.ex; ⟨f, fd, a, b, F.mono h, c⟩
/-- o.m(..), of whatever class o is -/
def tMethV (X : Cx) (k : Nat) (m : Str) (ta : TE) (t : TA) : TE := fun σ H Q => ta σ H fun x H1 => ∃ a C dx fs ps sp, x = .ref a ∧ H1 a = some (.ins C dx fs) ∧ fs.lookup m = none ∧ MethV X.prog X.w X.K X.mg X.base k C m ps sp ∧ t σ H1 fun vs H2 => sp (x :: vs) H2 Q E0
theorem xmV {pl : Sem Bool} (he : XE X o ta) (hr : Room k X.A) (ha : XA X (e :: es) t) (hst : noStars (e :: es) = true := by rfl)
    (ht : eval (.Call (.Attribute o m apos) (e :: es) [] pos) X.env = (do
      let ov ← eval o X.env
      standAt apos.atName
      let (f, first) ← holding [ov] (getMethod ov m pl)
      callWith pos f first (backTo pos (starEach (e :: es) X.env)) (backToKw pos (keywordEach [] X.env))) := by rfl) :
    XE X (.Call (.Attribute o m apos) (e :: es) [] pos) (tMethV X k m ta t) := by
  refine ⟨fun pins s σ H Q I h => ?_⟩
  refine PySem.W.methodCall_KW (pl := pl) (thn (he.h pins s σ H _ I h) fun u s1 ⟨x, H1, I1, rx, a, C, dx, fs, ps, sp, ex, ea, l, V, q⟩ => ?_) ht
  subst ex
  obtain rfl : u = Value.ref a := rx
  obtain ⟨f, fd, c, hm, F, hb⟩ := V.ex
  refine getmeth_ok I1 ea c hm l ?_
  refine PySem.W.callWith_K (first := [.ref a]) (h₀ := X.base) I.ok.mod.kin hm.kp (thn (ha.h pos pins s1 σ H1 _ I1 q) fun us s2 ⟨vs, H2, I2, r, q2⟩ => ⟨I2.kIn, ?_⟩) (star_cons (star_parts hst).1) (stars_any (star_parts hst).2)
  exact run_fn (us := .ref a :: us) (vs := .ref a :: vs) (ds := []) (dvs := []) F hr hb .nil pass0 I2 (.cons rfl r) (by rw [List.append_nil]; exact q2)
theorem xmV0 {pl : Sem Bool} (he : XE X o ta) (hr : Room k X.A)
    (ht : eval (.Call (.Attribute o m apos) [] [] pos) X.env = (do
      let ov ← eval o X.env
      standAt apos.atName
      let (f, first) ← holding [ov] (getMethod ov m pl)
      callWith pos f first (backTo pos (starEach [] X.env)) (backToKw pos (keywordEach [] X.env))) := by rfl) :
    XE X (.Call (.Attribute o m apos) [] [] pos) (tMethV X k m ta tNil) := by
  refine ⟨fun pins s σ H Q I h => ?_⟩
  refine PySem.W.methodCall_KW (pl := pl) (thn (he.h pins s σ H _ I h) fun u s1 ⟨x, H1, I1, rx, a, C, dx, fs, ps, sp, ex, ea, l, V, q⟩ => ?_) ht
  subst ex
  obtain rfl : u = Value.ref a := rx
  obtain ⟨f, fd, c, hm, F, hb⟩ := V.ex
  refine getmeth_ok I1 ea c hm l ?_
  exact PySem.W.callWith_K0 (first := [.ref a]) I1.kIn hm.kp (run_fn (us := [.ref a]) (vs := [.ref a]) (ds := []) (dvs := []) F hr hb .nil pass0 I1 (.cons rfl .nil) (by rw [List.append_nil]; exact q))
end
end L2

set_option Elab.async false
set_option linter.all false
set_option maxRecDepth 100000
/-! A def that makes a closure and gives it back: its cells are the closure's alone. -/
namespace L2
open PySem PySem.Spec PyProof.Rows
section
variable {P : Program} {w : World} {K : PySem.W.Frag} {mg : Str → Option Value} {base : Heap}
end
end L2

set_option Elab.async false
set_option linter.all false
set_option maxRecDepth 100000
/-! x op= e, continue, a list beside the empty one -/
namespace L2
open PySem PySem.Spec PyProof.Rows
section
variable {X : Cx} {e : Expr} {te : TE} {x : Str} {pos : Pos}
theorem xaug {i : Nat} {op : Operator} {ti : TIp} {pos' : Pos} (hN : X.N.Nodup) (hi : X.N[i]? = some x) (hx : Loc X.env.scope x) (he : XE X e te) (ho : PIp X op ti) (hf : X.fn x = true ∨ X.env.scope.names.lookup x = some .local := by first | exact .inl rfl | exact .inr rfl) :
    XS X (.AugAssign (.Name x pos') op e pos) (tAug i te ti) := ⟨ps_aug hN hi hx he.h ho hf⟩
theorem xcont : XS X (.Continue pos) tCont := ⟨ps_continue⟩
/-- xs == [], xs != [] -/
def rEq0 (K : PySem.W.Frag) (neg : Bool) : R2 := fun x y H Q => ∃ p q xs, x = .ref p ∧ y = .ref q ∧ SqL K H p xs ∧ SqL K H q [] ∧ Q (.bl (if neg then !xs.isEmpty else xs.isEmpty)) H
theorem op_eq0 (hu : X.A.units + 64 < cLine) : OpR X (compareOp .Eq) (rEq0 X.K false) := by
  intro pins s σ H x y v u Q I rx ry h
  obtain ⟨p, q, xs, rfl, rfl, hp, hq, k⟩ := h
  cases rx
  cases ry
  obtain ⟨its, r, pl, _⟩ := I.list hp
  obtain ⟨its2, r2, pl2, _⟩ := I.list hq
  have e2 := r2.length
  have e1 := r.length
  cases its2 with
  | cons _ _ => simp at e2
  | nil =>
  cases its with
  | nil =>
    cases xs with
    | cons _ _ => simp at e1
    | nil => exact SeqAt.eq_listAt (e := fun _ => true) pl.isList pl2.isList rfl (by omega) (fun j h1 _ => absurd h1 (Nat.not_lt_zero _)) ⟨.bl _, H, I, rfl, k⟩
  | cons _ _ =>
    cases xs with
    | nil => simp at e1
    | cons _ _ => exact SeqAt.eq_list_lengthsAt pl.isList pl2.isList (by simp) (by omega) ⟨.bl _, H, I, rfl, k⟩
theorem op_ne0 (hu : X.A.units + 64 < cLine) : OpR X (compareOp .NotEq) (rEq0 X.K true) := by
  intro pins s σ H x y v u Q I rx ry h
  obtain ⟨p, q, xs, rfl, rfl, hp, hq, k⟩ := h
  cases rx
  cases ry
  obtain ⟨its, r, pl, _⟩ := I.list hp
  obtain ⟨its2, r2, pl2, _⟩ := I.list hq
  have e2 := r2.length
  have e1 := r.length
  cases its2 with
  | cons _ _ => simp at e2
  | nil =>
  cases its with
  | nil =>
    cases xs with
    | cons _ _ => simp at e1
    | nil => exact SeqAt.RcNeAt.lists (e := fun _ => true) pl.isList pl2.isList rfl (by omega) (fun j h1 _ => absurd h1 (Nat.not_lt_zero _)) _ _ _ _ ⟨.bl _, H, I, rfl, k⟩
  | cons _ _ =>
    cases xs with
    | nil => simp at e1
    | cons _ _ => exact SeqAt.RcNeAt.lists_lengths pl.isList pl2.isList (by simp) (by omega) _ _ _ _ ⟨.bl _, H, I, rfl, k⟩
end
end L2

set_option Elab.async false
set_option linter.all false
set_option maxRecDepth 100000
/-! words filled: the begun row, pieces cut off, contracts -/
namespace Lw
open PySem L2 Lm
theorem t_ne0 {K : PySem.W.Frag} {σ : St} {H : Hp} {ta : TE} {p : Addr} {xs : List V} (h1 : Ev ta σ H (.ref p)) (hx : SqL K H p xs) : Tells (tTest (tOp (rEq0 K true) ta (tLst tNil))) σ H (!xs.isEmpty) :=
  fun R k => h1 _ ⟨big (show (0 : Nat) ≤ 1000000 by decide), fun l hl => ⟨p, l, xs, rfl, rfl, (same_new hl _).seq hx, SqL.of upd_same, _, rfl, k _ (same_new hl _)⟩⟩
theorem t_eq0 {K : PySem.W.Frag} {σ : St} {H : Hp} {ta : TE} {p : Addr} {xs : List V} (h1 : Ev ta σ H (.ref p)) (hx : SqL K H p xs) : Tells (tTest (tOp (rEq0 K false) ta (tLst tNil))) σ H xs.isEmpty :=
  fun R k => h1 _ ⟨big (show (0 : Nat) ≤ 1000000 by decide), fun l hl => ⟨p, l, xs, rfl, rfl, (same_new hl _).seq hx, SqL.of upd_same, _, rfl, k _ (same_new hl _)⟩⟩
theorem catS (a b : List Nat) : V.str (S a ++ S b) = vS (a ++ b) := by rw [S_app]
theorem glue_sum : ∀ hs : List (List Nat), (hs.map (·.length)).sum + hs.length ≤ (glueC [32] hs).length + 1
  | [] => by simp
  | [p] => by simp [glueC]
  | p :: q :: r => by
    have ih := glue_sum (q :: r)
    rw [glueC_cons _ _ _ (by simp)]
    simp only [List.map_cons, List.sum_cons, List.length_cons, List.length_append, List.length_nil] at ih ⊢
    omega
theorem glue_fit {hs : List (List Nat)} (h : (glueC [32] hs).length ≤ 100000) : (((hs.map S).map (·.length)).sum + (hs.map S).length * (S [32]).length) ≤ sizeLine := by
  have := glue_sum hs
  rw [List.map_map, show ((fun (x : Str) => x.length) ∘ S) = (fun (l : List Nat) => l.length) from funext fun l => S_len l, List.length_map, sizeLine_eq, S_len]
  simp only [List.length_cons, List.length_nil]
  omega
end Lw

set_option Elab.async false
set_option linter.all false
set_option maxRecDepth 100000
/-! zip of three lists -/
namespace L2
open PySem
section
variable {prog : Program} {w : World} {A : Around} {E : Value → Shared → Prop} {s : Shared}
end
section
variable {prog : Program} {w : World} {A : Around} {E : Value → Shared → Prop} {s : Shared}
end
open PySem.Spec PyProof.Rows
section
variable {X : Cx}
end
end L2

set_option Elab.async false
set_option linter.all false
/-! Texts with blanks about them: strip, ljust, rjust; a row of cells. -/
namespace Lm
open PySem PySem.Builtin PySem.Builtin.Str PySem.StrLaws
end Lm

set_option Elab.async false
set_option linter.all false
set_option maxRecDepth 100000
namespace L2
open PySem PySem.Spec PyProof.Rows
section
variable {X : Cx}
end
end L2

set_option Elab.async false
set_option linter.all false
/-! Rows of words have no blank at their ends. -/
namespace Lm
end Lm

set_option Elab.async false
set_option linter.all false
set_option maxRecDepth 100000
namespace L2
open PySem PySem.Spec PyProof.Rows
end L2

set_option Elab.async false
set_option linter.all false
set_option maxRecDepth 100000
/-! Comprehensions over a list while the tape at t goes on, by c at most for each. -/
namespace L2
open PySem PySem.Spec PyProof.Rows
end L2

set_option Elab.async false
set_option linter.all false
set_option maxRecDepth 100000
/-! Comprehensions over any iterator: new lists, values by places; a def of the top as a value. -/
namespace L2
open PySem PySem.Spec PyProof.Rows
section
variable {X : Cx} {scope : Scope} {cl : List (Str × Addr)} {C : Addr} {N' : List Str} {fp : List Addr} {s : Shared} {H : Hp}
end
end L2

set_option Elab.async false
set_option linter.all false
set_option maxRecDepth 100000
/-! Values as data, by what they reach; written data; isinstance of data. -/
namespace L2
open PySem PySem.Spec PyProof.Rows
mutual
inductive Dn (H : Hp) : V → PyData → Prop where
  | non : Dn H .non .none
  | bl (b : Bool) : Dn H (.bl b) (.bool b)
  | int (i : Int) : Dn H (.int i) (.int i)
  | str (x : Str) (h : PyData.strOk x = true) (hl : x.length ≤ 100000) : Dn H (.str x) (.str x)
  | lst {a : Addr} {xs : List V} {ds : List PyData} : H a = some (.lst xs) → DnAll H xs ds → xs.length ≤ 100000 → Dn H (.ref a) (.list ds)
  | tup {a : Addr} {xs : List V} {ds : List PyData} : H a = some (.tup xs) → DnAll H xs ds → Dn H (.ref a) (.tuple ds)
inductive DnAll (H : Hp) : List V → List PyData → Prop where
  | nil : DnAll H [] []
  | cons {x : V} {xs : List V} {d : PyData} {ds : List PyData} : Dn H x d → DnAll H xs ds → DnAll H (x :: xs) (d :: ds)
end
mutual
theorem Dn.same {H H' : Hp} (s : Same H H') : ∀ {v : V} {d : PyData}, Dn H v d → Dn H' v d
  | _, _, .non => .non
  | _, _, .bl b => .bl b
  | _, _, .int i => .int i
  | _, _, .str x h hl => .str x h hl
  | _, _, .lst e r l => .lst (s _ _ e) (DnAll.same s r) l
  | _, _, .tup e r => .tup (s _ _ e) (DnAll.same s r)
theorem DnAll.same {H H' : Hp} (s : Same H H') : ∀ {vs : List V} {ds : List PyData}, DnAll H vs ds → DnAll H' vs ds
  | _, _, .nil => .nil
  | _, _, .cons a b => .cons (Dn.same s a) (DnAll.same s b)
end
mutual
theorem Dn.den {K : PySem.W.Frag} {H : Hp} : ∀ {v : V} {d : PyData}, Dn H v d → Den K H v d
  | _, _, .non => .non
  | _, _, .bl b => .bl b
  | _, _, .int i => .int i
  | _, _, .str x h _ => .str x h
  | _, _, .lst e r _ => .lst (SqL.of e) (DnAll.den r)
  | _, _, .tup e r => .tup (SqT.of e) (DnAll.den r)
theorem DnAll.den {K : PySem.W.Frag} {H : Hp} : ∀ {vs : List V} {ds : List PyData}, DnAll H vs ds → DenAll K H vs ds
  | _, _, .nil => .nil
  | _, _, .cons a b => .cons (Dn.den a) (DnAll.den b)
end
theorem DnAll.len {H : Hp} : ∀ {vs : List V} {ds : List PyData}, DnAll H vs ds → vs.length = ds.length
  | _, _, .nil => rfl
  | _, _, .cons _ b => by rw [List.length_cons, List.length_cons, b.len]
theorem DnAll.get {H : Hp} : ∀ {vs : List V} {ds : List PyData} {i : Nat} {d : PyData}, DnAll H vs ds → ds[i]? = some d → ∃ v, vs[i]? = some v ∧ Dn H v d
  | _, _, i, d, .nil, e => by simp at e
  | _, _, 0, d, .cons a b, e => by cases e; exact ⟨_, rfl, a⟩
  | _, _, i + 1, d, .cons a b, e => by
    obtain ⟨v, h1, h2⟩ := b.get (i := i) (by simpa using e)
    exact ⟨v, by simpa using h1, h2⟩
theorem DnAll.app {H : Hp} : ∀ {vs us : List V} {ds es : List PyData}, DnAll H vs ds → DnAll H us es → DnAll H (vs ++ us) (ds ++ es)
  | _, _, _, _, .nil, h => h
  | _, _, _, _, .cons a b, h => .cons a (b.app h)
theorem DnAll.take {H : Hp} : ∀ {vs : List V} {ds : List PyData} (n : Nat), DnAll H vs ds → DnAll H (vs.take n) (ds.take n)
  | _, _, 0, _ => by rw [List.take_zero, List.take_zero]; exact .nil
  | _, _, n + 1, .nil => .nil
  | _, _, n + 1, .cons a b => .cons a (b.take n)
/-! ### what is new -/
/-- of H' what is not in H -/
def dif (H H' : Hp) : Hp := fun b => match H b with | none => H' b | some _ => none
theorem dif_at {H H' : Hp} {b : Addr} (h : H b = none) : dif H H' b = H' b := by unfold dif; rw [h]
theorem dif_none {H H' : Hp} {b : Addr} (h : H b ≠ none) : dif H H' b = none := by
  unfold dif
  cases e : H b with
  | none => exact absurd e h
  | some o => rfl
theorem dif_some {H H' : Hp} {b : Addr} {o : HO} (h : dif H H' b = some o) : H b = none ∧ H' b = some o := by
  cases e : H b with
  | none => rw [dif_at e] at h; exact ⟨rfl, h⟩
  | some o => rw [dif_none (by rw [e]; simp)] at h; cases h
theorem dif_same {H H' : Hp} : Same (dif H H') H' := fun b o h => (dif_some h).2
/-- earlier begin, later end: more is new -/
theorem dif_grow {H H1 H2 H3 : Hp} (a : Same H H1) (b : Same H2 H3) : Same (dif H1 H2) (dif H H3) := fun c o h => by
  obtain ⟨h1, h2⟩ := dif_some h
  rw [dif_at (a.free h1)]
  exact b _ _ h2
theorem Dn.out {H H' : Hp} {v : V} {d : PyData} (h : Dn (dif H H') v d) : Dn H' v d := h.same dif_same
/-- what reaches nothing of W -/
def Off (W : Addr → Prop) (H : Hp) (v : V) (d : PyData) : Prop := ∃ G, Same G H ∧ (∀ b, W b → G b = none) ∧ Dn G v d
theorem Off.new {W : Addr → Prop} {H H' : Hp} {v : V} {d : PyData} (h : Dn (dif H H') v d) (hW : ∀ b, W b → H b ≠ none) : Off W H' v d := ⟨dif H H', dif_same, fun b hb => dif_none (hW b hb), h⟩
def Offs (W : Addr → Prop) (H : Hp) (vs : List V) (ds : List PyData) : Prop := ∃ G, Same G H ∧ (∀ b, W b → G b = none) ∧ DnAll G vs ds
theorem Offs.sameW {W : Addr → Prop} {H H' : Hp} {v : List V} {d : List PyData} (h : Offs W H v d) (s : ∀ b o, ¬ W b → H b = some o → H' b = some o) : Offs W H' v d :=
  let ⟨G, a, b, k⟩ := h; ⟨G, fun c o e => s c o (fun z => by rw [b c z] at e; cases e) (a c o e), b, k⟩
theorem Offs.same {W : Addr → Prop} {H H' : Hp} {v : List V} {d : List PyData} (h : Offs W H v d) (s : Same H H') : Offs W H' v d := h.sameW fun b o _ e => s b o e
theorem Offs.upd {W : Addr → Prop} {H : Hp} {v : List V} {d : List PyData} {p : Addr} {o : HO} (h : Offs W H v d) (hp : W p) : Offs W (L2.upd H p o) v d := h.sameW fun b u n e => (upd_ne (show b ≠ p from fun z => n (z ▸ hp))).trans e
/-- two parts of a heap side by side -/
def both (G1 G2 : Hp) : Hp := fun b => match G1 b with | none => G2 b | some o => some o
theorem both_l {G1 G2 : Hp} : Same G1 (both G1 G2) := fun b o h => by unfold both; rw [h]
theorem both_r {G1 G2 H : Hp} (a : Same G1 H) (c : Same G2 H) : Same G2 (both G1 G2) := fun b o h => by
  unfold both
  cases e : G1 b with
  | none => exact h
  | some u =>
    have h1 := a _ _ e
    rw [c _ _ h] at h1
    exact h1.symm
theorem both_in {G1 G2 H : Hp} (a : Same G1 H) (c : Same G2 H) : Same (both G1 G2) H := fun b o h => by
  unfold both at h
  cases e : G1 b with
  | none => rw [e] at h; exact c _ _ h
  | some u => rw [e] at h; cases h; exact a _ _ e
theorem Offs.nil {W : Addr → Prop} {H : Hp} : Offs W H [] [] := ⟨fun _ => none, (fun _ _ h => nomatch h), (fun _ _ => rfl), .nil⟩
theorem Offs.snoc {W : Addr → Prop} {H : Hp} {vs : List V} {ds : List PyData} {v : V} {d : PyData} (h : Offs W H vs ds) (k : Off W H v d) : Offs W H (vs ++ [v]) (ds ++ [d]) := by
  obtain ⟨G1, a1, b1, k1⟩ := h
  obtain ⟨G2, a2, b2, k2⟩ := k
  refine ⟨both G1 G2, both_in a1 a2, fun b hb => ?_, (k1.same both_l).app (.cons (k2.same (both_r a1 a2)) .nil)⟩
  unfold both
  rw [b1 b hb]
  exact b2 b hb
theorem Offs.len {W : Addr → Prop} {H : Hp} {vs : List V} {ds : List PyData} (h : Offs W H vs ds) : vs.length = ds.length := let ⟨_, _, _, c⟩ := h; c.len
/-! ### written data -/
def tLit (d : PyData) : TE := fun _ H Q => ∀ v H', Same H H' → Dn (dif H H') v d → Q v H'
def tLits (ds : List PyData) : TA := fun _ H Q => ∀ vs H', Same H H' → DnAll (dif H H') vs ds → Q vs H'
section
variable {X : Cx} {e : Expr} {es : List Expr} {te te' : TE} {t t' : TA} {d : PyData} {ds : List PyData} {pos : Pos}
theorem XE.imp (h : XE X e te) (k : ∀ σ H Q, te' σ H Q → te σ H Q) : XE X e te' := ⟨fun pins s σ H Q I q => h.h pins s σ H Q I (k σ H Q q)⟩
theorem XA.imp (h : XA X es t) (k : ∀ σ H Q, t' σ H Q → t σ H Q) : XA X es t' := ⟨fun pos pins s σ H Q I q => h.h pos pins s σ H Q I (k σ H Q q)⟩
theorem xl_str {y : Str} {j : Nat} (h : (PyData.strOk y && decide (y.length ≤ 100000)) = true) : XE X (.Constant (.str y) j pos) (tLit (.str y)) := by
  rw [Bool.and_eq_true] at h
  exact xstr.imp fun _ H Q q => q _ H (Same.refl _) (.str y h.1 (of_decide_eq_true h.2))
theorem xls0 : XA X [] (tLits []) := xa0.imp fun _ H Q q => q [] H (Same.refl _) .nil
theorem xlsc (a : XE X e (tLit d)) (b : XA X es (tLits ds)) (h : isStar e = false := by rfl) : XA X (e :: es) (tLits (d :: ds)) :=
  (xac a b h).imp fun _ H Q q v H1 s1 k1 vs H2 s2 k2 => q (v :: vs) H2 (s1.trans s2) (.cons (k1.same (dif_grow (Same.refl _) s2)) (k2.same (dif_grow s1 (Same.refl _))))
theorem xl_lst (a : XA X es (tLits ds)) (h : ds.length ≤ 1000 := by decide) : XE X (.List es pos) (tLit (.list ds)) := by
  refine (xlst a).imp fun _ H Q q vs H1 s1 k1 => ⟨?_, fun l hl => q _ _ (s1.trans (same_new hl _)) (.lst (by rw [dif_at (s1.free hl), upd_same]) (k1.same (dif_grow (Same.refl _) (same_new hl _))) (by rw [k1.len]; omega))⟩
  rw [k1.len, sizeLine_eq]
  omega
theorem xl_tup {k : Nat} (a : XA X es (tLits ds)) (h : ds.length ≤ 1000 := by decide) : XE X (.Tuple es k pos) (tLit (.tuple ds)) := by
  refine (xtup a).imp fun _ H Q q vs H1 s1 k1 => ⟨?_, fun l hl => q _ _ (s1.trans (same_new hl _)) (.tup (by rw [dif_at (s1.free hl), upd_same]) (k1.same (dif_grow (Same.refl _) (same_new hl _))))⟩
  rw [k1.len, sizeLine_eq]
  omega
end
/-! ### isinstance of data -/
def tyD : PyData → String
  | .none => "NoneType"
  | .bool _ => "bool"
  | .int _ => "int"
  | .str _ => "str"
  | .list _ => "list"
  | .tuple _ => "tuple"
  | .dict _ => "dict"
theorem Dn.ty {K : PySem.W.Frag} {H : Hp} {v : V} {d : PyData} : Dn H v d → TyOf K H v (.type (tyD d))
  | .non => .non
  | .bl b => .bl b
  | .int i => .int i
  | .str x h _ => .str x
  | .lst e r _ => .lst e
  | .tup e r => .tup e
theorem kit_D (K : PySem.W.Frag) (d : PyData) : (PySem.W.kitOne K (.type (tyD d)) (.type "str") = some (tyD d == "str")) ∧ (PySem.W.kitOne K (.type (tyD d)) (.type "list") = some (tyD d == "list")) ∧ (PySem.W.kitOne K (.type (tyD d)) (.type "tuple") = some (tyD d == "tuple")) := by
  cases d <;> refine ⟨?_, ?_, ?_⟩ <;> with_unfolding_all rfl
end L2

set_option Elab.async false
set_option linter.all false
set_option maxRecDepth 100000
/-! A call that may raise, in a def that may; a call with such a one in it, within try; isinstance by an own class. -/
namespace L2
open PySem PySem.Spec PyProof.Rows
section
variable {P : Program} {w : World} {K : PySem.W.Frag} {mg : Str → Option Value} {base : Heap} {N : List Str} {qual : Str} {scope : Scope} {f : Addr} {cd : Value} {A : Around} {outer : List Env} {s₀ : Shared} {H₀ : Hp} {E : XK}
variable {k : Nat} {x : Str} {ps : List Str} {sp : Sp} {e : Expr} {es : List Expr} {t : TA} {p pos : Pos}
end
section
variable {X : Cx} {k : Nat} {x : Str} {ps : List Str} {sp : Sp} {e : Expr} {p pos : Pos}
section
variable {scope : Scope} {cl : List (Str × Addr)} {C : Addr} {N' : List Str} {fp : List Addr} {s : Shared} {H : Hp} {o : Expr} {ta : TE} {t : TA} {m : Str} {apos : Pos} {es : List Expr}
theorem xmV0C {pl : Sem Bool} (he : XE (compX X scope cl C N' fp s H) o ta) (hr : Room k X.A)
    (ht : eval (.Call (.Attribute o m apos) [] [] pos) (compX X scope cl C N' fp s H).env = (do
      let ov ← eval o (compX X scope cl C N' fp s H).env
      standAt apos.atName
      let (f, first) ← holding [ov] (getMethod ov m pl)
      callWith pos f first (backTo pos (starEach [] (compX X scope cl C N' fp s H).env)) (backToKw pos (keywordEach [] (compX X scope cl C N' fp s H).env))) := by rfl) :
    XE (compX X scope cl C N' fp s H) (.Call (.Attribute o m apos) [] [] pos) (tMethV X k m ta tNil) := xmV0 (X := compX X scope cl C N' fp s H) (pl := pl) he hr ht
end
def rIsC (K : PySem.W.Frag) : List V → Hp → VK → Prop := fun xs H Q => ∃ x t C b, xs = [x, .ref C] ∧ TyOf K H x t ∧ PySem.W.kitOne K t (.ref C) = some b ∧ Q (.bl b) H
theorem call_isC : CallR X (.builtin "isinstance") (rIsC X.K) := by
  intro pins s σ H xs us Q I r h
  obtain ⟨v, t, C, b, rfl, ht, hk, q⟩ := h
  obtain ⟨u, u2, rfl, rx, rv⟩ := r.two
  cases (show u2 = Value.ref C from rv)
  exact wpAny_with_toks (n := 1) I.tk (isinst_ok I rx ht hk fun tk htk => ⟨.bl b, H, I.tok _ htk, rfl, q⟩)
end
end L2

set_option Elab.async false
set_option linter.all false
set_option maxRecDepth 100000
/-! Parts: what is told of them, which things are normal, how they stand in a heap. -/
namespace Lw
open PySem L2 Lm PySem.Builtin.Str
inductive P1 where
  | plain (s : Str)
  | code (s : Str)
  | link (w n : Str)
  | note (n : Str)
inductive PC where
  | one (p : P1)
  | strong (ps : List P1)
abbrev kPlain : Str := "plain"
abbrev kCode : Str := "code"
abbrev kStrong : Str := "strong"
abbrev kLink : Str := "link"
abbrev kNote : Str := "note"
def d1 : P1 → PyData
  | .plain s => .tuple [.str kPlain, .str s]
  | .code s => .tuple [.str kCode, .str s]
  | .link w n => .tuple [.str kLink, .str w, .str n]
  | .note n => .tuple [.str kNote, .str n]
def dP : PC → PyData
  | .one p => d1 p
  | .strong ps => .tuple [.str kStrong, .list (ps.map d1)]
def PC.isPlain : PC → Bool
  | .one (.plain _) => true
  | _ => false
/-! ### which things are normal -/
def one? : PC → Option P1
  | .one p => some p
  | .strong _ => none
def ones : List PC → List P1 := fun ps => ps.filterMap one?
/-! ### in a heap -/
structure Cp where
  Part : Addr
  Plain : Addr
  Code : Addr
  Strong : Addr
  Link : Addr
  Mark : Addr
def StrG (x : Str) : Prop := PyData.strOk x = true ∧ x.length ≤ 100000
theorem StrG.dn {H : Hp} {x : Str} (h : StrG x) : Dn H (.str x) (.str x) := .str x h.1 h.2
def P1At (c : Cp) (H : Hp) (a : Addr) : P1 → Prop
  | .plain s => StrG s ∧ ∃ dx, H a = some (.ins c.Plain dx [("signs", .str s)])
  | .code s => StrG s ∧ ∃ dx, H a = some (.ins c.Code dx [("signs", .str s)])
  | .link w n => StrG w ∧ StrG n ∧ ∃ dx, H a = some (.ins c.Link dx [("words", .str w), ("name", .str n)])
  | .note n => StrG n ∧ ∃ dx, H a = some (.ins c.Mark dx [("name", .str n)])
def P1s (c : Cp) (H : Hp) : List Addr → List P1 → Prop
  | [], [] => True
  | a :: as, p :: ps => P1At c H a p ∧ P1s c H as ps
  | _, _ => False
def PCAt (c : Cp) (H : Hp) (a : Addr) : PC → Prop
  | .one p => P1At c H a p
  | .strong ps => ∃ dx l as, H a = some (.ins c.Strong dx [("parts", .ref l)]) ∧ H l = some (.lst (as.map V.ref)) ∧ P1s c H as ps
def PCs (c : Cp) (H : Hp) : List Addr → List PC → Prop
  | [], [] => True
  | a :: as, p :: ps => PCAt c H a p ∧ PCs c H as ps
  | _, _ => False
theorem P1At.same {c : Cp} {H H' : Hp} {a : Addr} (s : Same H H') : ∀ {p : P1}, P1At c H a p → P1At c H' a p
  | .plain _, ⟨g, dx, e⟩ => ⟨g, dx, s _ _ e⟩
  | .code _, ⟨g, dx, e⟩ => ⟨g, dx, s _ _ e⟩
  | .link _ _, ⟨g, g2, dx, e⟩ => ⟨g, g2, dx, s _ _ e⟩
  | .note _, ⟨g, dx, e⟩ => ⟨g, dx, s _ _ e⟩
theorem P1s.same {c : Cp} {H H' : Hp} (s : Same H H') : ∀ {as : List Addr} {ps : List P1}, P1s c H as ps → P1s c H' as ps
  | [], [], _ => trivial
  | _ :: _, _ :: _, ⟨a, b⟩ => ⟨a.same s, b.same s⟩
theorem PCAt.same {c : Cp} {H H' : Hp} {a : Addr} (s : Same H H') : ∀ {p : PC}, PCAt c H a p → PCAt c H' a p
  | .one _, h => P1At.same s h
  | .strong _, ⟨dx, l, as, e1, e2, r⟩ => ⟨dx, l, as, s _ _ e1, s _ _ e2, r.same s⟩
theorem PCs.same {c : Cp} {H H' : Hp} (s : Same H H') : ∀ {as : List Addr} {ps : List PC}, PCs c H as ps → PCs c H' as ps
  | [], [], _ => trivial
  | _ :: _, _ :: _, ⟨a, b⟩ => ⟨a.same s, b.same s⟩
theorem PCs.len {c : Cp} {H : Hp} : ∀ {as : List Addr} {ps : List PC}, PCs c H as ps → as.length = ps.length
  | [], [], _ => rfl
  | _ :: _, _ :: _, ⟨_, b⟩ => by rw [List.length_cons, List.length_cons, b.len]
theorem P1s.len {c : Cp} {H : Hp} : ∀ {as : List Addr} {ps : List P1}, P1s c H as ps → as.length = ps.length
  | [], [], _ => rfl
  | _ :: _, _ :: _, ⟨_, b⟩ => by rw [List.length_cons, List.length_cons, b.len]
theorem PCs.snoc {c : Cp} {H : Hp} : ∀ {as : List Addr} {ps : List PC} {a : Addr} {p : PC}, PCs c H as ps → PCAt c H a p → PCs c H (as ++ [a]) (ps ++ [p])
  | [], [], _, _, _, h => ⟨h, trivial⟩
  | _ :: _, _ :: _, _, _, ⟨a, b⟩, h => ⟨a, b.snoc h⟩
theorem PCs.get {c : Cp} {H : Hp} : ∀ {as : List Addr} {ps : List PC} {i : Nat} {a : Addr}, PCs c H as ps → as[i]? = some a → ∃ p, ps[i]? = some p ∧ PCAt c H a p
  | [], [], _, _, _, e => by simp at e
  | _ :: _, _ :: _, 0, _, ⟨h, _⟩, e => by cases e; exact ⟨_, rfl, h⟩
  | _ :: _, _ :: _, i + 1, _, ⟨_, b⟩, e => by
    obtain ⟨p, h1, h2⟩ := b.get (i := i) (by simpa using e)
    exact ⟨p, by simpa using h1, h2⟩
/-- of simple parts alone -/
theorem PCs.ones {c : Cp} {H : Hp} : ∀ {as : List Addr} {ps : List PC}, PCs c H as ps → (∀ p ∈ ps, one? p ≠ none) → P1s c H as (Lw.ones ps)
  | [], [], _, _ => trivial
  | a :: as, .one p :: ps, ⟨h, r⟩, k => ⟨h, r.ones fun q hq => k q (List.mem_cons_of_mem _ hq)⟩
  | a :: as, .strong q :: ps, ⟨h, r⟩, k => absurd rfl (k (.strong q) List.mem_cons_self)
/-- a class of things, for isinstance -/
structure Inst (K : PySem.W.Frag) (C : Addr) : Prop where
  cls : Cls K C
  ha : PySem.W.findIn K (.ref C) "__class__" = some (some (.builtin "object.__class__"))
  hn : PySem.W.specialIn K (.builtin "object.__class__") "__get__" = some (some (.builtin "getset_descriptor.__get__"))
  htk : PySem.W.takesIn K (.builtin "object.__class__") = some true
  hm : PySem.W.mroIn K C (.type "object") = some true
theorem Inst.ty {K : PySem.W.Frag} {C : Addr} (i : Inst K C) {H : Hp} {a dx : Addr} {fs : List (Str × V)} (e : H a = some (.ins C dx fs)) : TyOf K H (.ref a) (.ref C) := .ins e i.cls i.ha i.hn i.htk i.hm
/-! ### what is normal is told so -/
end Lw

set_option Elab.async false
set_option linter.all false
set_option maxRecDepth 100000
namespace L2
open PySem PySem.Spec PyProof.Rows
theorem Offs.toDif {H0 H : Hp} {W : Addr → Prop} {vs : List V} {ds : List PyData} (h : Offs W H vs ds) (hW : ∀ b, H0 b ≠ none → W b) : DnAll (dif H0 H) vs ds := by
  obtain ⟨G, a, b, k⟩ := h
  refine k.same fun c o e => ?_
  have : H0 c = none := Classical.byContradiction fun z => by rw [b c (hW c z)] at e; cases e
  rw [dif_at this]
  exact a _ _ e
/-- a list of new things, as data -/
theorem lc_newD {K : PySem.W.Frag} {a : Addr} {xs : List V} {k : Nat} {fr : List Nat} {g : TG} {tt : TT} {te : TE} {σ : St} {H0 : Hp} {Q : Addr → Hp → Prop} (f : Nat → PyData) (hx : SqL K H0 a xs) (hl : xs.length ≤ 100000)
    (ht : ∀ (i : Nat) x, xs[i]? = some x → ∀ H', Same H0 H' → ∀ (C : V → Hp → Prop) (N : Hp → Prop), (∀ v H4, Same H' H4 → Dn (dif H' H4) v (f i) → C v H4) →
      g x (nfS k fr σ) H' fun σ2 H2 => nfLe k fr σ σ2 ∧ tt σ2 H2 fun b H3 => if b = true then te σ2 H3 C else N H3)
    (hq : ∀ D H', H0 D = none → Same H0 H' → Dn (dif H0 H') (.ref D) (.list ((List.range xs.length).map f)) → Q D H') : rLC k fr g tt te σ (Itl K a) H0 Q := by
  intro D hD
  refine ⟨fun i m acc H => m = xs.length - i ∧ i ≤ xs.length ∧ Same H0 H ∧ H D = some (.lst acc) ∧ Offs (fun b => b = D ∨ H0 b ≠ none) H acc ((List.range i).map f), ⟨xs.length, by simp, Nat.zero_le _, same_new hD _, upd_same, .nil⟩, ?_⟩
  rintro i m acc H ⟨rfl, hi, sm, hDa, hof⟩
  refine ⟨hDa, ?_⟩
  have hal : acc.length = i := by rw [hof.len, List.length_map, List.length_range]
  by_cases hlt : i < xs.length
  · refine .inr ⟨⟨xs, xs[i], sm.seq hx, by simp [hlt]⟩, fun x H' y => ?_⟩
    obtain ⟨e, y⟩ := y
    rw [e]
    refine ht i x (y xs (sm.seq hx)) _ sm _ _ fun v H4 s4 dv => ?_
    have o4 : Off (fun b => b = D ∨ H0 b ≠ none) H4 v (f i) := Off.new dv fun b hb => by
      rcases hb with rfl | hb
      · rw [hDa]; simp
      · cases q : H0 b with
        | none => exact absurd q hb
        | some o => rw [sm _ _ q]; simp
    refine ⟨s4 _ _ hDa, by rw [sizeLine_eq]; omega, xs.length - (i + 1), by omega, rfl, hlt, same_grow hD (sm.trans s4), upd_same, ?_⟩
    rw [List.range_succ, List.map_append]
    exact ((hof.same s4).snoc o4).upd (.inl rfl)
  · have e : i = xs.length := by omega
    subst e
    exact .inl ⟨⟨xs, sm.seq hx, Nat.le_refl _⟩, hq D H hD sm (.lst (by rw [dif_at hD]; exact hDa) (hof.toDif fun b hb => .inr hb) (by omega))⟩
end L2
namespace Lw
open PySem L2 Lm
theorem s_no1 {t : TT} {f u : TS} {D : Ends} {σ : St} {H : Hp} (ht : Tells t σ H false) (k : ∀ H', Same H H' → u D σ H') : tSeq (tIfS t f tNext) u D σ H := s_if false ht (fun _ _ z => Bool.noConfusion z) (fun H' s' _ => k H' s')
theorem s_yes {t : TT} {f g u : TS} {D : Ends} {σ : St} {H : Hp} (ht : Tells t σ H true) (k : ∀ H', Same H H' → f { D with nx := u D } σ H') : tSeq (tIfS t f g) u D σ H := s_if true ht (fun H' s' _ => k H' s') (fun _ _ z => Bool.noConfusion z)
theorem t_isT {K : PySem.W.Frag} {σ : St} {H : Hp} {ta : TE} {v : V} {d : PyData} {T : String} {b : Bool} (ev : Ev ta σ H v) (h : Dn H v d) (hb : PySem.W.kitOne K (.type (tyD d)) (.type T) = some b) : Tells (tB (tCB (rIsT K) (tCons ta (tCons (tC (.ty T)) tNil)))) σ H b :=
  fun R k => ev _ ⟨_, _, _, _, rfl, h.ty, hb, _, rfl, k _ (Same.refl _)⟩
theorem t_eqS {σ : St} {H : Hp} {ta tb : TE} {x y : Str} (h1 : Ev ta σ H (.str x)) (h2 : Ev tb σ H (.str y)) : Tells (tTest (tOp rEq ta tb)) σ H (decide (x = y)) := fun R k => h1 _ (h2 _ ⟨rfl, _, rfl, by
  rw [show decide (V.str x = V.str y) = decide (x = y) by rw [decide_eq_decide]; exact ⟨fun z => V.str.inj z, fun z => by rw [z]⟩]
  exact k _ (Same.refl _)⟩)
theorem Dn.strCase {H : Hp} {v : V} {d : PyData} (h : Dn H v d) : (∃ x, v = .str x ∧ d = .str x ∧ StrG x) ∨ ((tyD d == "str") = false ∧ ∀ x, d ≠ .str x) := by
  cases h with
  | str x a b => exact .inl ⟨x, rfl, rfl, a, b⟩
  | non => exact .inr ⟨rfl, fun _ z => nomatch z⟩
  | bl _ => exact .inr ⟨rfl, fun _ z => nomatch z⟩
  | int _ => exact .inr ⟨rfl, fun _ z => nomatch z⟩
  | lst _ _ _ => exact .inr ⟨rfl, fun _ z => nomatch z⟩
  | tup _ _ => exact .inr ⟨rfl, fun _ z => nomatch z⟩
theorem Dn.tupCase {H : Hp} {v : V} {d : PyData} (h : Dn H v d) : (∃ a xs ds, v = .ref a ∧ d = .tuple ds ∧ H a = some (.tup xs) ∧ DnAll H xs ds) ∨ ((tyD d == "tuple") = false ∧ ∀ ds, d ≠ .tuple ds) := by
  cases h with
  | tup e r => exact .inl ⟨_, _, _, rfl, rfl, e, r⟩
  | str x a b => exact .inr ⟨rfl, fun _ z => nomatch z⟩
  | non => exact .inr ⟨rfl, fun _ z => nomatch z⟩
  | bl _ => exact .inr ⟨rfl, fun _ z => nomatch z⟩
  | int _ => exact .inr ⟨rfl, fun _ z => nomatch z⟩
  | lst _ _ _ => exact .inr ⟨rfl, fun _ z => nomatch z⟩
theorem Dn.lstCase {H : Hp} {v : V} {d : PyData} (h : Dn H v d) : (∃ a xs ds, v = .ref a ∧ d = .list ds ∧ H a = some (.lst xs) ∧ DnAll H xs ds ∧ ds.length ≤ 100000) ∨ ((tyD d == "list") = false ∧ ∀ ds, d ≠ .list ds) := by
  cases h with
  | lst e r l => exact .inl ⟨_, _, _, rfl, rfl, e, r, by rw [← r.len]; exact l⟩
  | str x a b => exact .inr ⟨rfl, fun _ z => nomatch z⟩
  | non => exact .inr ⟨rfl, fun _ z => nomatch z⟩
  | bl _ => exact .inr ⟨rfl, fun _ z => nomatch z⟩
  | int _ => exact .inr ⟨rfl, fun _ z => nomatch z⟩
  | tup _ _ => exact .inr ⟨rfl, fun _ z => nomatch z⟩
theorem P1s.toC {c : Cp} {H : Hp} : ∀ {as : List Addr} {ps : List P1}, P1s c H as ps → PCs c H as (ps.map .one)
  | [], [], _ => trivial
  | _ :: _, _ :: _, ⟨a, b⟩ => ⟨a, b.toC⟩
/-- the parts told -/
def spTolds (c : Cp) (R : PC → Prop) : Sp := fun vs H Q _ => ∃ (l : Addr) (as : List Addr) (ps : List PC), vs = [.ref l] ∧ H l = some (.lst (as.map V.ref)) ∧ PCs c H as ps ∧ (∀ p ∈ ps, R p) ∧ as.length ≤ 100000 ∧ ∀ r H', Same H H' → Dn (dif H H') (.ref r) (.list (ps.map dP)) → Q (.ref r) H'
def spTold (c : Cp) (R : PC → Prop) : Sp := fun vs H Q _ => ∃ a p, vs = [.ref a] ∧ PCAt c H a p ∧ R p ∧ ∀ v H', Same H H' → Dn (dif H H') v (dP p) → Q v H'
/-- the methods told, by class -/
def ToldV (P : Program) (w : World) (K : PySem.W.Frag) (mg : Str → Option Value) (base : Heap) (k : Nat) (c : Cp) (R : PC → Prop) : Prop :=
  ∀ p, R p → ∀ H a, PCAt c H a p → ∃ C dx fs sp, H a = some (.ins C dx fs) ∧ fs.lookup ("told" : Str) = none ∧ MethV P w K mg base k C "told" ["self"] sp ∧ ∀ Q E, (∀ v H', Same H H' → Dn (dif H H') v (dP p) → Q v H') → sp [.ref a] H Q E
def isNmD : PyData → Bool
  | .str x => isNameC x.cps.toList
  | _ => false
theorem isNm_S (l : List Nat) : isNmD (.str (S l)) = isNameC l := by
  show isNameC (S l).cps.toList = _
  rw [S_list]
def spNameD : Sp := fun vs H Q _ => ∃ v d, vs = [v] ∧ Dn H v d ∧ ∀ H', Same H H' → Q (.bl (isNmD d)) H'
end Lw
namespace Lw
open PySem L2 Lm
theorem ev_lenS {K : PySem.W.Frag} {σ : St} {H : Hp} {ta : TE} {p : Addr} {xs : List V} (h : Ev ta σ H (.ref p)) (hq : SqL K H p xs ∨ SqT K H p xs) : Ev (tCB (fun xs H Q => ∃ p ys, xs = [.ref p] ∧ (SqL K H p ys ∨ SqT K H p ys) ∧ Q (.int ys.length) H) (tCons ta tNil)) σ H (.int xs.length) := fun R r => h _ ⟨p, xs, rfl, hq, r⟩
theorem ev_ixT {K : PySem.W.Frag} {σ : St} {H : Hp} {ta tb : TE} {p : Addr} {xs : List V} {i : Int} {v : V} (h : Ev ta σ H (.ref p)) (hi : Ev tb σ H (.int i)) (hq : SqT K H p xs) (e : atI xs i = some v) : Ev (tOp (rIxT K) ta tb) σ H v := fun R r => h _ (hi _ ⟨p, xs, i, v, rfl, rfl, hq, e, r⟩)
theorem ev_ixL {K : PySem.W.Frag} {σ : St} {H : Hp} {ta tb : TE} {p : Addr} {xs : List V} {i : Int} {v : V} (h : Ev ta σ H (.ref p)) (hi : Ev tb σ H (.int i)) (hq : SqL K H p xs) (e : atI xs i = some v) : Ev (tOp (rIxL K) ta tb) σ H v := fun R r => h _ (hi _ ⟨p, xs, i, v, rfl, rfl, hq, e, r⟩)
theorem t_bv {σ : St} {H : Hp} {ta : TE} {b : Bool} (ev : Ev ta σ H (.bl b)) : Tells (tB ta) σ H b := fun R k => ev _ ⟨_, rfl, k _ (Same.refl _)⟩
theorem Tells.eq {t : TT} {σ : St} {H : Hp} {a b : Bool} (h : Tells t σ H a) (e : a = b) : Tells t σ H b := e ▸ h
end Lw

set_option linter.all false
namespace Lm
/-! ### going sign by sign -/
/-! ### a text put into a cell -/
/-! ### rules -/
end Lm

set_option linter.all false
namespace Lm
open PySem Builtin.Str
end Lm

set_option Elab.async false
set_option linter.all false
set_option maxRecDepth 100000
/-! Texts, names and parts as the laws draw them. -/
namespace L2
open PySem PySem.Spec PyProof.Rows
theorem op_mulB {X : Cx} : OpR X (binaryOp .Mult) (rI IntMulOk fun i j => .int (i * j)) := opI fun _ _ _ _ _ _ _ hc q => mul_int q hc
end L2
namespace Lm
open PySem PySem.Builtin PySem.Builtin.Str PySem.StrLaws
/-! ### no two blanks side by side -/
def nd : List Nat → Bool
  | a :: b :: r => !(a == 32 && b == 32) && nd (b :: r)
  | _ => true
theorem nd_tail {a : Nat} {r : List Nat} (h : nd (a :: r) = true) : nd r = true := by
  cases r with
  | nil => rfl
  | cons b r => unfold nd at h; rw [Bool.and_eq_true] at h; exact h.2
theorem nd_app : ∀ {a b : List Nat}, nd a = true → nd b = true → ¬ (a.getLast? = some 32 ∧ b.head? = some 32) → nd (a ++ b) = true
  | [], b, _, h, _ => h
  | [x], [], _, _, _ => rfl
  | [x], y :: b, _, h, k => by
    show nd (x :: y :: b) = true
    unfold nd
    rw [h, Bool.and_true]
    by_cases hx : x = 32
    · by_cases hy : y = 32
      · exact absurd ⟨by rw [hx]; rfl, by rw [hy]; rfl⟩ k
      · simp [hy]
    · simp [hx]
  | x :: y :: a, b, h1, h2, k => by
    have h3 := nd_tail h1
    have ih := nd_app (a := y :: a) (b := b) h3 h2 (fun z => k ⟨by rw [List.getLast?_cons_cons]; exact z.1, z.2⟩)
    show nd (x :: y :: (a ++ b)) = true
    unfold nd
    rw [Bool.and_eq_true]
    unfold nd at h1
    rw [Bool.and_eq_true] at h1
    exact ⟨h1.1, ih⟩
theorem nd_free {l : List Nat} (h : 32 ∉ l) : nd l = true := by
  induction l with
  | nil => rfl
  | cons a l ih =>
    cases l with
    | nil => rfl
    | cons b l =>
      unfold nd
      rw [ih (fun z => h (List.mem_cons_of_mem _ z)), Bool.and_true]
      have : a ≠ 32 := fun z => h (by rw [z]; exact List.mem_cons_self)
      simp [this]
/-- signs that may stand in a part -/
def Sg (l : List Nat) : Prop := ∀ c ∈ l, 32 ≤ c ∧ c ≤ 126
theorem Sg.app {a b : List Nat} (h : Sg a) (k : Sg b) : Sg (a ++ b) := fun c hc => (List.mem_append.mp hc).elim (h c) (k c)
end Lm
namespace Lw
open PySem L2 Lm PySem.Builtin.Str
/-! ### draws -/
def mixF (c k : Int) : Int := (c + 7919 * k * k + 13 * k + 5) * (c + 7919 * k * k + 13 * k + 5) % 1000000007 * 48271 % 998244353 / 11
theorem mixF_ok (c k : Int) : 0 ≤ mixF c k ∧ mixF c k ≤ 90749486 := by
  unfold mixF
  have h1 := Int.emod_nonneg ((c + 7919 * k * k + 13 * k + 5) * (c + 7919 * k * k + 13 * k + 5) % 1000000007 * 48271) (show (998244353 : Int) ≠ 0 by omega)
  have h2 := Int.emod_lt_of_pos ((c + 7919 * k * k + 13 * k + 5) * (c + 7919 * k * k + 13 * k + 5) % 1000000007 * 48271) (show (0 : Int) < 998244353 by omega)
  omega
def mnLet : List Nat := [97, 98, 99, 100, 101, 102, 103, 104, 105, 106, 107, 108, 109, 110, 111, 112, 113, 114, 115, 116, 117, 118, 119, 120, 121, 122, 65, 66, 67, 68, 69, 70, 71, 72, 73, 74, 75, 76, 77, 78, 79, 80, 81, 82, 83, 84, 85, 86, 87, 88, 89, 90, 48, 49, 50, 51, 52, 53, 54, 55, 56, 57]
def mnMark : List Nat := [92, 42, 96, 91, 93, 124, 45, 43, 61, 62, 126, 58, 94, 40, 41]
def mnMore : List Nat := [33, 34, 35, 36, 38, 39, 44, 46, 47, 59, 60, 63, 64, 95, 123, 125]
def menuF (k : Int) : List Nat := if k % 3 = 0 then mnLet else if k % 3 = 1 then mnMark ++ [97, 98] else mnLet ++ mnMark ++ mnMore
/-- a menu of signs, no blank among them -/
def Menu (m : List Nat) : Prop := 0 < m.length ∧ m.length ≤ 1000 ∧ ∀ c ∈ m, 33 ≤ c ∧ c ≤ 126
theorem menu_let : Menu mnLet := ⟨by decide, by decide, by decide⟩
theorem menu_ok (k : Int) : Menu (menuF k) := by
  unfold menuF
  split
  · exact menu_let
  · split
    · exact ⟨by decide, by decide, by decide⟩
    · exact ⟨by decide, by decide, by decide⟩
def sgStep (t : Nat) (n : Int) : Int := (n * 48271 + 7 * (t : Int) * (t : Int) + 11) % 2147483647
def sgGo (m : List Nat) (n0 : Int) : Nat → Int × List Nat
  | 0 => (n0, [])
  | t + 1 => (sgStep t (sgGo m n0 t).1, (sgGo m n0 t).2 ++ [m.getD (sgStep t (sgGo m n0 t).1 / 13 % (m.length : Int)).toNat 0])
def signsF (n size : Int) (m : List Nat) : List Nat := (sgGo m n size.toNat).2
theorem sg_at {m : List Nat} (h : Menu m) (x : Int) : 0 ≤ x % (m.length : Int) ∧ (x % (m.length : Int)).toNat < m.length := by
  have h1 := Int.emod_nonneg x (show (m.length : Int) ≠ 0 by have := h.1; omega)
  have h2 := Int.emod_lt_of_pos x (show (0 : Int) < (m.length : Int) by have := h.1; omega)
  omega
theorem sgGo_ok {m : List Nat} (h : Menu m) (n0 : Int) : ∀ t : Nat, (sgGo m n0 t).2.length = t ∧ (∀ c ∈ (sgGo m n0 t).2, c ∈ m)
  | 0 => ⟨rfl, fun _ z => nomatch z⟩
  | t + 1 => by
    obtain ⟨h1, h2⟩ := sgGo_ok h n0 t
    refine ⟨by show ((sgGo m n0 t).2 ++ [_]).length = _; rw [List.length_append, h1]; rfl, fun c hc => ?_⟩
    rcases List.mem_append.mp (show c ∈ (sgGo m n0 t).2 ++ [_] from hc) with z | z
    · exact h2 c z
    · rw [List.mem_singleton.mp z, List.getD_eq_getElem?_getD, List.getElem?_eq_getElem (sg_at h _).2]
      exact List.getElem_mem _
/-- one word -/
def Wrd (l : List Nat) : Prop := l ≠ [] ∧ ∀ c ∈ l, 33 ≤ c ∧ c ≤ 126
theorem signs_ok {m : List Nat} (h : Menu m) (n size : Int) (hs : 1 ≤ size) : Wrd (signsF n size m) ∧ (signsF n size m).length = size.toNat := by
  obtain ⟨h1, h2⟩ := sgGo_ok h n size.toNat
  refine ⟨⟨fun z => ?_, fun c hc => h.2.2 c (h2 c hc)⟩, h1⟩
  have : (signsF n size m).length = size.toNat := h1
  rw [z] at this
  simp at this
  omega
/-- words with one blank between -/
structure Tdy (l : List Nat) : Prop where
  ne : l ≠ []
  sg : Sg l
  nd : nd l = true
  hd : l.head? ≠ some 32
  la : l.getLast? ≠ some 32
theorem Wrd.tdy {l : List Nat} (h : Wrd l) : Tdy l := by
  have hb : 32 ∉ l := fun z => by have := h.2 32 z; omega
  refine ⟨h.1, fun c hc => by have := h.2 c hc; omega, nd_free hb, fun z => ?_, fun z => ?_⟩
  · exact hb (List.mem_of_head? z)
  · exact hb (List.mem_of_getLast? z)
theorem head_app {a b : List Nat} (h : a ≠ []) : (a ++ b).head? = a.head? := by
  cases a with
  | nil => exact absurd rfl h
  | cons x a => rfl
theorem glast_app {a b : List Nat} (h : b ≠ []) : (a ++ b).getLast? = b.getLast? := by
  rw [List.getLast?_append]
  cases e : b.getLast? with
  | none => exact absurd (List.getLast?_eq_none_iff.mp e) h
  | some x => rfl
theorem Tdy.join {a b : List Nat} (h : Tdy a) (k : Tdy b) : Tdy (a ++ [32] ++ b) := by
  have e : a ++ [32] ++ b = a ++ ([32] ++ b) := List.append_assoc ..
  refine ⟨by simp, (h.sg.app (by intro c hc; rw [List.mem_singleton.mp hc]; omega)).app k.sg, ?_, ?_, ?_⟩
  · rw [e]
    refine nd_app h.nd (nd_app rfl k.nd fun z => k.hd z.2) fun z => h.la z.1
  · rw [e, head_app h.ne]; exact h.hd
  · rw [glast_app k.ne]; exact k.la
theorem glue_tdy : ∀ {ws : List (List Nat)}, ws ≠ [] → (∀ w ∈ ws, Wrd w) → Tdy (glueC [32] ws)
  | [w], _, h => (h w List.mem_cons_self).tdy
  | w :: v :: r, _, h => by
    rw [glueC_cons _ _ _ (by simp)]
    exact (h w List.mem_cons_self).tdy.join (glue_tdy (by simp) fun x hx => h x (List.mem_cons_of_mem _ hx))
theorem glue_len {n : Nat} : ∀ {ws : List (List Nat)}, (∀ w ∈ ws, w.length ≤ n) → (glueC [32] ws).length ≤ (n + 1) * ws.length
  | [], _ => by simp [glueC]
  | [w], h => by have := h w List.mem_cons_self; show w.length ≤ _; simp; omega
  | w :: v :: r, h => by
    have ih := glue_len (ws := v :: r) fun x hx => h x (List.mem_cons_of_mem _ hx)
    have := h w List.mem_cons_self
    rw [glueC_cons _ _ _ (by simp), List.length_append, List.length_append]
    simp only [List.length_cons, List.length_nil, Nat.mul_add, Nat.mul_one] at ih ⊢
    omega
def ownF (n : Int) (t : Nat) : Int := mixF n (3 * (t : Int) + 1)
def wordF (n : Int) (t : Nat) : List Nat := signsF (ownF n t) (1 + ownF n t / 7 % 6) (menuF (ownF n t / 50))
def textF (n most : Int) : List Nat := glueC [32] ((List.range (1 + n % most).toNat).map (wordF n))
theorem word_ok (n : Int) (t : Nat) : Wrd (wordF n t) ∧ (wordF n t).length ≤ 6 := by
  have h := signs_ok (menu_ok (ownF n t / 50)) (ownF n t) (1 + ownF n t / 7 % 6) (by omega)
  exact ⟨h.1, by rw [show wordF n t = signsF (ownF n t) (1 + ownF n t / 7 % 6) (menuF (ownF n t / 50)) from rfl, h.2]; omega⟩
theorem text_ok (n most : Int) (h1 : 1 ≤ most) (h2 : most ≤ 100) : Tdy (textF n most) ∧ (textF n most).length ≤ 700 := by
  have hm := Int.emod_nonneg n (show most ≠ 0 by omega)
  have hm2 := Int.emod_lt_of_pos n (show 0 < most by omega)
  refine ⟨glue_tdy (fun z => ?_) fun w hw => ?_, Nat.le_trans (glue_len (n := 6) fun w hw => ?_) ?_⟩
  · have := congrArg List.length z
    rw [List.length_map, List.length_range] at this
    simp at this
    omega
  · obtain ⟨t, _, rfl⟩ := List.mem_map.mp hw
    exact (word_ok n t).1
  · obtain ⟨t, _, rfl⟩ := List.mem_map.mp hw
    exact (word_ok n t).2
  · rw [List.length_map, List.length_range]
    omega
def nameF (n : Int) : List Nat :=
  if n % 3 = 0 then signsF (n / 40) (1 + n / 3 % 12) mnLet
  else List.replicate (n / 40 % (1 + n / 3 % 12)).toNat 110 ++ signsF (n / 500) 1 mnLet ++ List.replicate (1 + n / 3 % 12 - 1 - n / 40 % (1 + n / 3 % 12)).toNat 110
theorem let_in : ∀ c ∈ mnLet, nameSigns.contains c = true := by decide
theorem name_ok (n : Int) (h : 0 ≤ n) : isNameC (nameF n) = true := by
  have hl : ∀ t, ∀ c ∈ (sgGo mnLet t (1 + n / 3 % 12).toNat).2, c ∈ mnLet := fun t => (sgGo_ok menu_let t _).2
  have hn : nameSigns.contains 110 = true := by decide
  have key : 1 ≤ (nameF n).length ∧ (nameF n).length ≤ 12 ∧ ∀ c ∈ nameF n, nameSigns.contains c = true := by
    unfold nameF
    split
    · have h1 := (signs_ok menu_let (n / 40) (1 + n / 3 % 12) (by omega)).2
      refine ⟨by rw [h1]; omega, by rw [h1]; omega, fun c hc => let_in c ((sgGo_ok menu_let _ _).2 c hc)⟩
    · have h1 := (signs_ok menu_let (n / 500) 1 (by omega)).2
      have hm := Int.emod_nonneg (n / 40) (show 1 + n / 3 % 12 ≠ 0 by omega)
      have hm2 := Int.emod_lt_of_pos (n / 40) (show 0 < 1 + n / 3 % 12 by omega)
      refine ⟨?_, ?_, fun c hc => ?_⟩
      · rw [List.length_append, List.length_append, h1, List.length_replicate, List.length_replicate]; omega
      · rw [List.length_append, List.length_append, h1, List.length_replicate, List.length_replicate]; omega
      · rcases List.mem_append.mp hc with z | z
        · rcases List.mem_append.mp z with z | z
          · rw [(List.mem_replicate.mp z).2]; exact hn
          · exact let_in c ((sgGo_ok menu_let _ _).2 c z)
        · rw [(List.mem_replicate.mp z).2]; exact hn
  unfold isNameC
  rw [decide_eq_true key.1, decide_eq_true key.2.1, Bool.true_and, Bool.true_and, List.all_eq_true]
  exact key.2.2
/-! ### parts drawn -/
def kd1 : P1 → Str
  | .plain _ => kPlain
  | .code _ => kCode
  | .link _ _ => kLink
  | .note _ => kNote
def kdP : PC → Str
  | .one p => kd1 p
  | .strong _ => kStrong
/-! what the law draws -/
def tickF (l : List Nat) : List Nat := glueC [39] (splitC 96 l)
/-! ### what is drawn is normal -/
theorem tick_map (c z : Nat) : ∀ l : List Nat, glueC [z] (splitC c l) = l.map fun x => if x = c then z else x
  | [] => rfl
  | x :: r => by
    have ih := tick_map c z r
    by_cases h : x = c
    · subst h
      rw [splitC_sep, glueC_cons _ _ _ (splitC_ne x r), ih, List.map_cons, if_pos rfl]
      rfl
    · obtain ⟨p, t, e1, e2⟩ := splitC_cons c x r h
      rw [e2, List.map_cons, if_neg h, ← ih, e1]
      cases t with
      | nil => rfl
      | cons q t => rfl
/-! ### blanks taken off the ends -/
end Lw

set_option Elab.async false
set_option linter.all false
set_option maxRecDepth 100000
set_option maxHeartbeats 2000000
namespace K4
open PySem L2 Lm Lw
def top (i : Nat) : Stmt := PySem.Challenge.pw_lightmark_k04_parts_of_built_texts.main.body.getD i (.Pass ⟨0, 0, 0, 0⟩)
def clsBody (s : Stmt) : List Stmt := match s with
  | .ClassDef _ _ _ b _ _ _ _ _ _ _ => b
  | _ => []
abbrev meth (i j : Nat) : Stmt := (clsBody (top i)).getD j (.Pass ⟨0, 0, 0, 0⟩)
theorem s_join {f u : TS} {D : Ends} {σ : St} {H : Hp} (J : St → Hp → Prop) (h : ∀ N : St → Hp → Prop, (∀ σ' H', J σ' H' → N σ' H') → f { D with nx := N } σ H) (k : ∀ σ' H', J σ' H' → u D σ' H') : tSeq f u D σ H := h (u D) k
structure TxP (K : PySem.W.Frag) (mg : Str → Option Value) (c : Cp) (BT : Addr) : Prop where
  n_list : mg "list" = none
  n_len : mg "len" = none
  n_isinstance : mg "isinstance" = none
  n_all : mg "all" = none
  n_str : mg "str" = none
  n_tuple : mg "tuple" = none
  g_NAME_SIGNS : ∃ t, mg "NAME_SIGNS" = some (.str (S nameSigns) t)
  g_LONGEST_NAME : ∃ t, mg "LONGEST_NAME" = some (.int 12 t)
  c_BadName : mg "BadName" = some (.ref BT)
  x_BadName : OwnX K BT
  c_Plain : mg "Plain" = some (.ref c.Plain)
  o_Plain : Inst K c.Plain
  o_Code : Inst K c.Code
  o_Strong : Inst K c.Strong
  o_Link : Inst K c.Link
  o_Mark : Inst K c.Mark
  a_Plain : NoAttr K c.Plain "signs"
  a_Code : NoAttr K c.Code "signs"
  a_Strong : NoAttr K c.Strong "parts"
  a_Linkw : NoAttr K c.Link "words"
  a_Linkn : NoAttr K c.Link "name"
  a_Mark : NoAttr K c.Mark "name"
  i_Plain : PySem.W.kitOne K (.ref c.Plain) (.ref c.Plain) = some true
  i_Code : PySem.W.kitOne K (.ref c.Code) (.ref c.Plain) = some false
  i_Strong : PySem.W.kitOne K (.ref c.Strong) (.ref c.Plain) = some false
  i_Link : PySem.W.kitOne K (.ref c.Link) (.ref c.Plain) = some false
  i_Mark : PySem.W.kitOne K (.ref c.Mark) (.ref c.Plain) = some false
section
variable {P : Program} {w : World} {K : PySem.W.Frag} {mg : Str → Option Value} {base : Heap} {c : Cp} {BT : Addr}
/-! the classes -/
def spInit1 (C : Addr) (fl : Str) : Sp := fun vs H Q _ => ∃ x dx v, vs = [.ref x, v] ∧ H x = some (.ins C dx []) ∧ Q .non (upd H x (.ins C dx [(fl, v)]))
def spInit2 (C : Addr) (fl gl : Str) : Sp := fun vs H Q _ => ∃ x dx v u, vs = [.ref x, v, u] ∧ H x = some (.ins C dx []) ∧ Q .non (upd (upd H x (.ins C dx [(fl, v)])) x (.ins C dx [(fl, v), (gl, u)]))
def spInitS (C : Addr) : Sp := fun vs H Q _ => ∃ x dx l xs, vs = [.ref x, .ref l] ∧ H x = some (.ins C dx []) ∧ H l = some (.lst xs) ∧ ∀ p, H p = none → Q .non (upd (upd H p (.lst xs)) x (.ins C dx [("parts", .ref p)]))
abbrev sPlainInit : Stmt := meth 6 0
abbrev sCodeInit : Stmt := meth 7 0
abbrev sStrongInit : Stmt := meth 8 0
abbrev sLinkInit : Stmt := meth 9 0
abbrev sMarkInit : Stmt := meth 10 0
abbrev sPlainTold : Stmt := meth 6 1
abbrev sCodeTold : Stmt := meth 7 1
abbrev sStrongTold : Stmt := meth 8 1
abbrev sLinkTold : Stmt := meth 9 1
abbrev sMarkTold : Stmt := meth 10 1
theorem scPlainInit : FnScope ["self", "signs"] ["self", "signs"] (defScope sPlainInit) := ⟨rfl, rfl, rfl, by decide +kernel, rfl, by decide +kernel, by decide +kernel⟩
theorem scCodeInit : FnScope ["self", "signs"] ["self", "signs"] (defScope sCodeInit) := ⟨rfl, rfl, rfl, by decide +kernel, rfl, by decide +kernel, by decide +kernel⟩
theorem scStrongInit : FnScope ["self", "parts"] ["self", "parts"] (defScope sStrongInit) := ⟨rfl, rfl, rfl, by decide +kernel, rfl, by decide +kernel, by decide +kernel⟩
theorem scLinkInit : FnScope ["self", "words", "name"] ["self", "words", "name"] (defScope sLinkInit) := ⟨rfl, rfl, rfl, by decide +kernel, rfl, by decide +kernel, by decide +kernel⟩
theorem scMarkInit : FnScope ["self", "name"] ["self", "name"] (defScope sMarkInit) := ⟨rfl, rfl, rfl, by decide +kernel, rfl, by decide +kernel, by decide +kernel⟩
theorem scPlainTold : FnScope ["self"] ["self"] (defScope sPlainTold) := ⟨rfl, rfl, rfl, by decide +kernel, rfl, by decide +kernel, by decide +kernel⟩
theorem scCodeTold : FnScope ["self"] ["self"] (defScope sCodeTold) := ⟨rfl, rfl, rfl, by decide +kernel, rfl, by decide +kernel, by decide +kernel⟩
theorem scStrongTold : FnScope ["self"] ["self"] (defScope sStrongTold) := ⟨rfl, rfl, rfl, by decide +kernel, rfl, by decide +kernel, by decide +kernel⟩
theorem scLinkTold : FnScope ["self"] ["self"] (defScope sLinkTold) := ⟨rfl, rfl, rfl, by decide +kernel, rfl, by decide +kernel, by decide +kernel⟩
theorem scMarkTold : FnScope ["self"] ["self"] (defScope sMarkTold) := ⟨rfl, rfl, rfl, by decide +kernel, rfl, by decide +kernel, by decide +kernel⟩
theorem ok_PlainInit {f : Addr} {fd : FuncData} (F : Fun K "__init__" "Plain.__init__" sPlainInit f fd) (T : TxP K mg c BT) : FnOk P w K mg base CX0 1 f fd ["self", "signs"] (spInit1 c.Plain "signs") := by
  have sc := scPlainInit
  refine F.ok sc (fun vs H Q E h => ?_) (fun cdv A outer s H vs Q E hr h => ?_)
  · obtain ⟨x, dx, v, rfl, _⟩ := h
    rfl
  obtain ⟨x, dx, v, rfl, e, q⟩ := h
  refine of_XB (xb1 (xsetfld (xv 0) (xv 1))) ?_
  exact ⟨_, rfl, _, rfl, x, _, dx, _, rfl, e, T.o_Plain.cls, T.a_Plain, by decide, q⟩
theorem ok_CodeInit {f : Addr} {fd : FuncData} (F : Fun K "__init__" "Code.__init__" sCodeInit f fd) (T : TxP K mg c BT) : FnOk P w K mg base CX0 1 f fd ["self", "signs"] (spInit1 c.Code "signs") := by
  have sc := scCodeInit
  refine F.ok sc (fun vs H Q E h => ?_) (fun cdv A outer s H vs Q E hr h => ?_)
  · obtain ⟨x, dx, v, rfl, _⟩ := h
    rfl
  obtain ⟨x, dx, v, rfl, e, q⟩ := h
  refine of_XB (xb1 (xsetfld (xv 0) (xv 1))) ?_
  exact ⟨_, rfl, _, rfl, x, _, dx, _, rfl, e, T.o_Code.cls, T.a_Code, by decide, q⟩
theorem ok_MarkInit {f : Addr} {fd : FuncData} (F : Fun K "__init__" "Mark.__init__" sMarkInit f fd) (T : TxP K mg c BT) : FnOk P w K mg base CX0 1 f fd ["self", "name"] (spInit1 c.Mark "name") := by
  have sc := scMarkInit
  refine F.ok sc (fun vs H Q E h => ?_) (fun cdv A outer s H vs Q E hr h => ?_)
  · obtain ⟨x, dx, v, rfl, _⟩ := h
    rfl
  obtain ⟨x, dx, v, rfl, e, q⟩ := h
  refine of_XB (xb1 (xsetfld (xv 0) (xv 1))) ?_
  exact ⟨_, rfl, _, rfl, x, _, dx, _, rfl, e, T.o_Mark.cls, T.a_Mark, by decide, q⟩
theorem ok_LinkInit {f : Addr} {fd : FuncData} (F : Fun K "__init__" "Link.__init__" sLinkInit f fd) (T : TxP K mg c BT) : FnOk P w K mg base CX0 1 f fd ["self", "words", "name"] (spInit2 c.Link "words" "name") := by
  have sc := scLinkInit
  refine F.ok sc (fun vs H Q E h => ?_) (fun cdv A outer s H vs Q E hr h => ?_)
  · obtain ⟨x, dx, v, u, rfl, _⟩ := h
    rfl
  obtain ⟨x, dx, v, u, rfl, e, q⟩ := h
  refine of_XB (xbc (xsetfld (xv 0) (xv 1))
    (xb1 (xsetfld (xv 0) (xv 2)))) ?_
  refine ⟨_, rfl, _, rfl, x, _, dx, _, rfl, e, T.o_Link.cls, T.a_Linkw, by decide, ?_⟩
  exact ⟨_, rfl, _, rfl, x, _, dx, _, rfl, upd_same, T.o_Link.cls, T.a_Linkn, by show 1 < 1000; decide, q⟩
theorem ok_StrongInit {f : Addr} {fd : FuncData} (F : Fun K "__init__" "Strong.__init__" sStrongInit f fd) (T : TxP K mg c BT) : FnOk P w K mg base CX0 1 f fd ["self", "parts"] (spInitS c.Strong) := by
  have sc := scStrongInit
  refine F.ok sc (fun vs H Q E h => ?_) (fun cdv A outer s H vs Q E hr h => ?_)
  · obtain ⟨x, dx, l, xs, rfl, _⟩ := h
    rfl
  obtain ⟨x, dx, l, xs, rfl, e, el, q⟩ := h
  refine of_XB (xb1 (xsetfld (xv 0) (xcTy call_list_of T.n_list rfl (xac (xv 1) xa0)))) ?_
  exact ⟨_, rfl, l, _, rfl, .inl (SqL.of el), fun p hp => ⟨_, rfl, x, _, dx, _, rfl, same_new hp _ _ _ e, T.o_Strong.cls, T.a_Strong, by decide, q p hp⟩⟩
/-! told -/
def R1 (p : PC) : Prop := one? p ≠ none
theorem ok_PlainTold {f : Addr} {fd : FuncData} (F : Fun K "told" "Plain.told" sPlainTold f fd) (T : TxP K mg c BT) : FnOk P w K mg base CX0 1 f fd ["self"] (spTold c fun p => ∃ s, p = .one (.plain s)) := by
  have sc := scPlainTold
  refine F.ok sc (fun vs H Q E h => ?_) (fun cdv A outer s H vs Q E hr h => ?_)
  · obtain ⟨a, p, rfl, _⟩ := h
    rfl
  obtain ⟨a, p, rfl, ha, ⟨s, rfl⟩, q⟩ := h
  obtain ⟨g, dx, e⟩ := ha
  refine of_XB (xb1 (xret (xtup (xac xstr (xac (xfld (xv 0)) xa0))))) ?_
  exact ⟨_, rfl, a, _, dx, _, _, rfl, e, T.o_Plain.cls, T.a_Plain, rfl, big (show (2 : Nat) ≤ 1000000 by decide), fun p hp => q _ _ (same_new hp _) (.tup (by rw [dif_at hp, upd_same]) (.cons (.str _ (by decide +kernel) (by decide +kernel)) (.cons g.dn .nil)))⟩
theorem ok_CodeTold {f : Addr} {fd : FuncData} (F : Fun K "told" "Code.told" sCodeTold f fd) (T : TxP K mg c BT) : FnOk P w K mg base CX0 1 f fd ["self"] (spTold c fun p => ∃ s, p = .one (.code s)) := by
  have sc := scCodeTold
  refine F.ok sc (fun vs H Q E h => ?_) (fun cdv A outer s H vs Q E hr h => ?_)
  · obtain ⟨a, p, rfl, _⟩ := h
    rfl
  obtain ⟨a, p, rfl, ha, ⟨s, rfl⟩, q⟩ := h
  obtain ⟨g, dx, e⟩ := ha
  refine of_XB (xb1 (xret (xtup (xac xstr (xac (xfld (xv 0)) xa0))))) ?_
  exact ⟨_, rfl, a, _, dx, _, _, rfl, e, T.o_Code.cls, T.a_Code, rfl, big (show (2 : Nat) ≤ 1000000 by decide), fun p hp => q _ _ (same_new hp _) (.tup (by rw [dif_at hp, upd_same]) (.cons (.str _ (by decide +kernel) (by decide +kernel)) (.cons g.dn .nil)))⟩
theorem ok_MarkTold {f : Addr} {fd : FuncData} (F : Fun K "told" "Mark.told" sMarkTold f fd) (T : TxP K mg c BT) : FnOk P w K mg base CX0 1 f fd ["self"] (spTold c fun p => ∃ s, p = .one (.note s)) := by
  have sc := scMarkTold
  refine F.ok sc (fun vs H Q E h => ?_) (fun cdv A outer s H vs Q E hr h => ?_)
  · obtain ⟨a, p, rfl, _⟩ := h
    rfl
  obtain ⟨a, p, rfl, ha, ⟨s, rfl⟩, q⟩ := h
  obtain ⟨g, dx, e⟩ := ha
  refine of_XB (xb1 (xret (xtup (xac xstr (xac (xfld (xv 0)) xa0))))) ?_
  exact ⟨_, rfl, a, _, dx, _, _, rfl, e, T.o_Mark.cls, T.a_Mark, rfl, big (show (2 : Nat) ≤ 1000000 by decide), fun p hp => q _ _ (same_new hp _) (.tup (by rw [dif_at hp, upd_same]) (.cons (.str _ (by decide +kernel) (by decide +kernel)) (.cons g.dn .nil)))⟩
theorem ok_LinkTold {f : Addr} {fd : FuncData} (F : Fun K "told" "Link.told" sLinkTold f fd) (T : TxP K mg c BT) : FnOk P w K mg base CX0 1 f fd ["self"] (spTold c fun p => ∃ s n, p = .one (.link s n)) := by
  have sc := scLinkTold
  refine F.ok sc (fun vs H Q E h => ?_) (fun cdv A outer s H vs Q E hr h => ?_)
  · obtain ⟨a, p, rfl, _⟩ := h
    rfl
  obtain ⟨a, p, rfl, ha, ⟨s, n, rfl⟩, q⟩ := h
  obtain ⟨g, g2, dx, e⟩ := ha
  refine of_XB (xb1 (xret (xtup (xac xstr (xac (xfld (xv 0)) (xac (xfld (xv 0)) xa0)))))) ?_
  exact ⟨_, rfl, a, _, dx, _, _, rfl, e, T.o_Link.cls, T.a_Linkw, rfl, _, rfl, a, _, dx, _, _, rfl, e, T.o_Link.cls, T.a_Linkn, rfl, big (show (3 : Nat) ≤ 1000000 by decide), fun p hp => q _ _ (same_new hp _) (.tup (by rw [dif_at hp, upd_same]) (.cons (.str _ (by decide +kernel) (by decide +kernel)) (.cons g.dn (.cons g2.dn .nil))))⟩
abbrev sTolds : Stmt := top 11
theorem scTolds : FnScope ["parts"] ["parts"] (defScope sTolds) := ⟨rfl, rfl, rfl, by decide +kernel, rfl, by decide +kernel, by decide +kernel⟩
theorem range_getD (ps : List PC) : (List.range ps.length).map (fun i => dP (ps.getD i (.one (.note "")))) = ps.map dP := by
  apply List.ext_getElem?
  intro i
  rw [List.getElem?_map, List.getElem?_map]
  by_cases hi : i < ps.length
  · rw [List.getElem?_range hi, List.getElem?_eq_getElem hi]
    simp only [Option.map_some, List.getD_eq_getElem?_getD, List.getElem?_eq_getElem hi, Option.getD_some]
  · rw [List.getElem?_eq_none (by rw [List.length_range]; omega), List.getElem?_eq_none (by omega)]
    rfl
theorem ok_tolds {f : Addr} {fd : FuncData} {k : Nat} {R : PC → Prop} (F : Fun K "told_parts" "told_parts" sTolds f fd) (hM : ToldV P w K mg base k c R) : FnOk P w K mg base CX0 (k + 1) f fd ["parts"] (spTolds c R) := by
  have sc := scTolds
  refine F.ok sc (fun vs H Q E h => ?_) (fun cdv A outer s H vs Q E hr h => ?_)
  · obtain ⟨l, as, ps, rfl, _⟩ := h
    rfl
  obtain ⟨l, as, ps, rfl, el, hps, hR, hl, q⟩ := h
  refine of_XB (xb1 (xret (xlc (cl := []) (own := ["part"]) (fr := []) (N' := ["part"]) rfl (compN (xs := []) trivial trivial (by decide +kernel)) (by decide +kernel) (by decide +kernel) (by with_unfolding_all rfl)
    (xil (xv 0))
    (fun _ _ _ _ => xgn (i := 0) (show (["part"] : List Str).Nodup by decide +kernel) rfl (Or.inl rfl)) (fun _ _ _ _ => xq0) (fun _ _ _ _ => (xmV0C (k := k) (xv 0) (hr.mono (by omega))))))) ?_
  refine ⟨_, rfl, l, rfl, ⟨_, SqL.of el⟩, ?_⟩
  have hlen := hps.len
  refine lc_newD (fun i => dP (ps.getD i (.one (.note "")))) (SqL.of el) (by rw [List.length_map]; exact hl) ?_ ?_
  · intro i x hx H2 s2 C N hC
    rw [List.getElem?_map] at hx
    cases hai : as[i]? with
    | none => rw [hai] at hx; cases hx
    | some a =>
    rw [hai] at hx
    cases hx
    obtain ⟨p, hp1, hp2⟩ := hps.get hai
    obtain ⟨Cc, dx, fs, sp, e1, e2, V, hsp⟩ := hM p (hR p (List.mem_of_getElem? hp1)) H2 a (hp2.same s2)
    refine ⟨(nfLe.refl _ _ _).set (by decide) _, iteT (B := N H2) ⟨_, rfl, a, Cc, dx, fs, _, sp, rfl, e1, e2, V, hsp _ _ fun v H4 s4 d4 => hC v H4 s4 ?_⟩⟩
    rw [List.getD_eq_getElem?_getD, hp1]
    exact d4
  · intro D H2 hD s2 dD
    refine q D H2 s2 ?_
    rw [List.length_map, hlen, range_getD] at dD
    exact dD
theorem ok_StrongTold {f : Addr} {fd : FuncData} {k : Nat} (F : Fun K "told" "Strong.told" sStrongTold f fd) (T : TxP K mg c BT) (D_told_parts : Def P w K mg base k "told_parts" ["parts"] (spTolds c R1)) : FnOk P w K mg base CX0 (k + 1) f fd ["self"] (spTold c fun p => ∃ ps, p = .strong ps ∧ ps.length ≤ 100000) := by
  have sc := scStrongTold
  refine F.ok sc (fun vs H Q E h => ?_) (fun cdv A outer s H vs Q E hr h => ?_)
  · obtain ⟨a, p, rfl, _⟩ := h
    rfl
  obtain ⟨a, p, rfl, ha, ⟨ps, rfl, hpl⟩, q⟩ := h
  obtain ⟨dx, l, as, e, el, hps⟩ := ha
  refine of_XB (xb1 (xret (xtup (xac xstr (xac (xcD D_told_parts (hr.mono (by omega)) (xac (xfld (xv 0)) xa0)) xa0))))) ?_
  refine ⟨_, rfl, a, _, dx, _, _, rfl, e, T.o_Strong.cls, T.a_Strong, rfl, l, as, ps.map .one, rfl, el, hps.toC, fun p hp => ?_, by rw [hps.len]; exact hpl, fun r H1 s1 d1' => ⟨big (show (2 : Nat) ≤ 1000000 by decide), fun t ht => q _ _ (s1.trans (same_new ht _)) ?_⟩⟩
  · obtain ⟨x, _, rfl⟩ := List.mem_map.mp hp
    unfold R1
    simp [one?]
  · refine .tup (by rw [dif_at (s1.free ht), upd_same]) (.cons (.str _ (by decide +kernel) (by decide +kernel)) (.cons ?_ .nil))
    have := d1'.same (dif_grow (Same.refl H) (same_new ht (.tup [V.str "strong", .ref r])))
    rw [List.map_map] at this
    exact this
/-! need -/
end
end K4

set_option Elab.async false
set_option linter.all false
set_option maxRecDepth 100000
set_option maxHeartbeats 2000000
namespace K4
open PySem L2 Lm Lw
section
variable {P : Program} {w : World} {K : PySem.W.Frag} {mg : Str → Option Value} {base : Heap} {c : Cp} {BT : Addr}
abbrev sName : Stmt := top 16
theorem scName : FnScope ["thing"] ["thing"] (defScope sName) := ⟨rfl, rfl, rfl, by decide +kernel, rfl, by decide +kernel, by decide +kernel⟩
theorem ok_nameD {f : Addr} {fd : FuncData} (F : Fun K "is_name" "is_name" sName f fd) (T : TxP K mg c BT) : FnOk P w K mg base CX0 1 f fd ["thing"] spNameD := by
  have sc := scName
  refine F.ok sc (fun vs H Q E h => ?_) (fun cdv A outer s H vs Q E hr h => ?_)
  · obtain ⟨v, d, rfl, _⟩ := h
    rfl
  obtain ⟨v, d, rfl, hd, q⟩ := h
  refine of_XB (xbc (xif (xnotT (xvalT (xcB call_isT T.n_isinstance rfl (xac (xv 0) (xac (xty (T := "str") T.n_str rfl) xa0))))) (xb1 (xret xbl)) xb0)
    (xbc (xif (xor (xcmpT op_lt (xcB call_len_str T.n_len PySem.boot_len (xac (xv 0) xa0)) xint (nomark _)) (xor1 (xcmpT op_gt (xcB call_len_str T.n_len PySem.boot_len (xac (xv 0) xa0)) (xgI T.g_LONGEST_NAME) (nomark _)))).xt (xb1 (xret xbl)) xb0)
    (xb1 (xret (xcB (call_all rfl) T.n_all rfl (xac (xlc (cl := []) (own := ["sign"]) (fr := []) (N' := ["sign"]) rfl (compN (xs := []) trivial trivial (by decide +kernel)) (by decide +kernel) (by decide +kernel) (by with_unfolding_all rfl)
    (xis (xv 0))
    (fun _ _ _ _ => xgn (i := 0) (show (["sign"] : List Str).Nodup by decide +kernel) rfl (Or.inl rfl)) (fun _ _ _ _ => xq0) (fun _ _ _ _ => (xcmp op_in_str (xv 0) (xgS T.g_NAME_SIGNS) (by with_unfolding_all rfl)))) xa0)))))) ?_
  have hk := (kit_D K d).1
  rcases Dn.strCase hd with ⟨x, rfl, rfl, g⟩ | ⟨h1, h2⟩
  rotate_left
  · rw [h1] at hk
    refine s_yes (t_not false (t_isT (ev_v rfl) hd hk)) fun H1 s1 => ?_
    have : (isNmD d) = false := by cases d <;> first | rfl | exact absurd rfl (h2 _)
    rw [this] at q
    exact q H1 s1
  obtain ⟨l, hl0⟩ : ∃ l : List Nat, x = S l := ⟨x.cps.toList, (S_of x).symm⟩
  subst hl0
  have hl : l.length ≤ 1000000 := by have := g.2; rw [S_len] at this; omega
  have q : ∀ H', Same H H' → Q (.bl (isNameC l)) H' := fun H' s' => by have := q H' s'; rw [isNm_S] at this; exact this
  refine ⟨_, rfl, _, _, _, true, rfl, .str _, kit_same _ _, _, rfl, ?_⟩
  refine ite2 (fun c => absurd c (by decide)) (fun _ => ?_)
  refine ⟨_, rfl, _, rfl, bigS hl, _, _, rfl, rfl, _, rfl, ?_⟩
  refine ite2 (fun c => ?_) (fun c => ?_)
  · refine ite2 (fun _ => ?_) (fun c => absurd rfl c)
    have e : isNameC l = false := by
      have := of_decide_eq_true c
      rw [S_len] at this
      unfold isNameC
      rw [decide_eq_false (show ¬ 1 ≤ l.length by omega)]; rfl
    rw [e] at q
    exact q H (Same.refl H)
  refine ⟨_, rfl, _, rfl, bigS hl, _, _, rfl, rfl, _, rfl, ?_⟩
  have h1 : 1 ≤ l.length := by
    have := of_decide_eq_false (Bool.eq_false_iff.mpr c)
    rw [S_len] at this
    omega
  refine ite2 (fun d => ?_) (fun d => ?_)
  · have e : isNameC l = false := by
      have := of_decide_eq_true d
      rw [S_len] at this
      unfold isNameC
      rw [decide_eq_false (show ¬ l.length ≤ 12 by omega), Bool.and_false]; rfl
    rw [e] at q
    exact q H (Same.refl H)
  have h2 : l.length ≤ 12 := by
    have := of_decide_eq_false (Bool.eq_false_iff.mpr d)
    rw [S_len] at this
    omega
  refine ⟨_, rfl, _, rfl, ?_⟩
  refine lc_str (fun _ => true) inNames (bigS hl) ?_ ?_
  · intro c hc H' sm C N hC hN
    refine ⟨(nfLe.refl _ _ _).set (by decide) _, ?_⟩
    refine ⟨_, rfl, _, _, rfl, rfl, ?_⟩
    have := hC H' (Same.refl H') rfl
    have e : inNames (.str ⟨#[c]⟩) = .bl (!(Builtin.Str.occurrences (S nameSigns) (S [c]) 0 (S nameSigns).length 1).isEmpty) := by
      rw [contains_S]
      show V.bl ([c].all nameSigns.contains) = _
      simp
    rw [e] at this
    exact this
  intro D H' hD sm eD
  refine ⟨D, l.map nameSigns.contains, rfl, SqL.of ?_, ?_⟩
  · rw [eD, S_list, List.filter_eq_self.mpr (fun _ _ => rfl), List.map_map, List.map_map]
    congr 2
    refine List.map_congr_left fun c _ => ?_
    show V.bl ([c].all nameSigns.contains) = _
    simp
  · have e : isNameC l = (l.map nameSigns.contains).all id := by
      unfold isNameC
      rw [decide_eq_true h1, decide_eq_true h2, List.all_map]
      simp
    rw [← e]
    exact q H' sm
abbrev sNameOf : Stmt := top 17
theorem scNameOf : FnScope ["thing"] ["thing"] (defScope sNameOf) := ⟨rfl, rfl, rfl, by decide +kernel, rfl, by decide +kernel, by decide +kernel⟩
theorem ok_nameOf {f : Addr} {fd : FuncData} (F : Fun K "name_of" "name_of" sNameOf f fd) (T : TxP K mg c BT) (D_is_name : Def P w K mg base 1 "is_name" ["thing"] spNameD) : FnOk P w K mg base CX0 2 f fd ["thing"] spNameOf := by
  have sc := scNameOf
  refine F.ok sc (fun vs H Q E h => ?_) (fun cdv A outer s H vs Q E hr h => ?_)
  · obtain ⟨l, rfl, _⟩ := h
    rfl
  obtain ⟨l, rfl, hl, hn, q⟩ := h
  have hl12 : l.length ≤ 12 := by unfold isNameC at hn; rw [Bool.and_eq_true, Bool.and_eq_true] at hn; exact of_decide_eq_true hn.1.2
  refine of_XB (xbc (xif (xnotT (xvalT (xcD D_is_name (hr.mono (by omega)) (xac (xv 0) xa0)))) (xb1 xnever) xb0)
    (xb1 (xret (xm0 PySem.F.plainAttrs_str PySem.F.slot_str_lower PySem.F.type_str_lower mt_lower (xv 0))))) ?_
  refine ⟨_, rfl, vS l, .str (S l), rfl, .str _ (strOk_S (name_asc hn)) (by rw [S_len]; omega), fun H' sm => ⟨_, rfl, ?_⟩⟩
  rw [isNm_S]
  refine ite2 (fun c => by rw [hn] at c; cases c) (fun _ => ?_)
  refine ⟨_, rfl, rfl, _, rfl, rfl, by rw [S_len]; exact hl, ?_⟩
  rw [lower_S l (name_asc hn)]
  exact q H' sm
end
end K4

set_option Elab.async false
set_option linter.all false
set_option maxRecDepth 100000
/-! Parts read out of a text, as functions of lists of codes (no heap). -/
namespace Lw
open PySem L2 Lm
/-- the signs that a \ takes -/
def takenC : List Nat := [92, 42, 96, 91, 93, 124, 45, 43, 61, 62, 126, 58, 94]
/-- the text begins with a \ and a sign that it takes -/
def takesC : List Nat → Bool
  | 92 :: c :: _ => takenC.contains c
  | _ => false
/-- how far the first ] is that no \ takes -/
def nxtC : List Nat → Option Nat
  | [] => none
  | [x] => if x = 93 then some 0 else none
  | x :: y :: r => if x = 92 ∧ takenC.contains y = true then (nxtC r).map (· + 2) else if x = 93 then some 0 else (nxtC (y :: r)).map (· + 1)
/-- the words of a link without their \ -/
def freeC : List Nat → List Nat
  | [] => []
  | [x] => [x]
  | x :: y :: r => if x = 92 ∧ takenC.contains y = true then y :: freeC r else x :: freeC (y :: r)
inductive Pc where
  | sign (c : Nat)
  | star
  | code (l : List Nat)
  | note (n : List Nat)
  | link (w n : List Nat)
/-- up to the first c, and what stands behind it -/
def cutAt (c : Nat) : List Nat → Option (List Nat × List Nat)
  | [] => none
  | x :: r => if x = c then some ([], r) else (cutAt c r).map fun (a, b) => (x :: a, b)
/-- a name up to c: of 1 to 12 signs -/
def nameAt (c : Nat) (l : List Nat) : Option (List Nat × List Nat) := match cutAt c (l.take 13) with
  | some (a, _) => if isNameC a then some (smallC a, l.drop (a.length + 1)) else none
  | none => none
/-- what a [ begins -/
def markC (r : List Nat) : Option (Pc × List Nat) := match r with
  | 94 :: r => (nameAt 93 r).map fun (n, r) => (.note n, r)
  | _ => none
def linkC (r : List Nat) : Option (Pc × List Nat) := match nxtC r with
  | some (k + 1) => match r.drop (k + 2) with
    | 40 :: r2 => (nameAt 41 r2).map fun (n, r3) => (.link (freeC (r.take (k + 1))) n, r3)
    | _ => none
  | _ => none
def codeC (r : List Nat) : Option (Pc × List Nat) := match cutAt 96 r with
  | some (x :: a, b) => some (.code (x :: a), b)
  | _ => none
/-- one step -/
def stepC : List Nat → Option (Pc × List Nat)
  | [] => none
  | x :: r =>
    if takesC (x :: r) then some (.sign (r.headD 0), r.tail)
    else if x = 42 then some (.star, r)
    else if x = 96 then some ((codeC r).getD (.sign 96, r))
    else if x = 91 then some (((markC r).or (linkC r)).getD (.sign 91, r))
    else some (.sign x, r)
theorem cutAt_eq {c : Nat} : ∀ {l a b : List Nat}, cutAt c l = some (a, b) → l = a ++ c :: b ∧ c ∉ a
  | [], a, b, h => by cases h
  | x :: r, a, b, h => by
    unfold cutAt at h
    split at h
    · rename_i e
      cases h
      subst e
      exact ⟨rfl, fun z => nomatch z⟩
    · rename_i e
      cases hr : cutAt c r with
      | none => rw [hr] at h; cases h
      | some p =>
        obtain ⟨a', b'⟩ := p
        rw [hr] at h
        cases h
        obtain ⟨h1, h2⟩ := cutAt_eq hr
        exact ⟨by rw [h1]; rfl, fun z => by
          rcases List.mem_cons.mp z with z | z
          · exact e z.symm
          · exact h2 z⟩
theorem cutAt_none {c : Nat} : ∀ {l : List Nat}, cutAt c l = none ↔ c ∉ l
  | [] => ⟨(fun _ z => nomatch z), fun _ => rfl⟩
  | x :: r => by
    unfold cutAt
    by_cases e : x = c
    · rw [if_pos e]
      exact ⟨(fun z => nomatch z), fun z => absurd (by rw [e]; exact List.mem_cons_self) z⟩
    · rw [if_neg e]
      have ih := cutAt_none (c := c) (l := r)
      cases hr : cutAt c r with
      | none =>
        refine ⟨fun _ z => ?_, fun _ => rfl⟩
        rcases List.mem_cons.mp z with z | z
        · exact e z.symm
        · exact ih.mp hr z
      | some p =>
        refine ⟨(fun z => nomatch z), fun z => ?_⟩
        have : c ∉ r := fun m => z (List.mem_cons_of_mem _ m)
        rw [ih.mpr this] at hr
        cases hr
theorem cutAt_app {c : Nat} : ∀ {a b : List Nat}, c ∉ a → cutAt c (a ++ c :: b) = some (a, b)
  | [], b, _ => by show (if c = c then _ else _) = _; rw [if_pos rfl]
  | x :: a, b, h => by
    show cutAt c (x :: (a ++ c :: b)) = _
    unfold cutAt
    rw [if_neg (fun e => h (by rw [e]; exact List.mem_cons_self)), cutAt_app (fun m => h (List.mem_cons_of_mem _ m))]
    rfl
theorem nameAt_lt {c : Nat} {l n r : List Nat} (h : nameAt c l = some (n, r)) : r.length < l.length := by
  unfold nameAt at h
  split at h
  · rename_i a b hc
    split at h
    · cases h
      obtain ⟨h1, _⟩ := cutAt_eq hc
      have := congrArg List.length h1
      rw [List.length_take, List.length_append, List.length_cons] at this
      rw [List.length_drop]
      omega
    · cases h
  · cases h
theorem step_lt {s r : List Nat} {p : Pc} (h : stepC s = some (p, r)) : r.length < s.length := by
  cases s with
  | nil => cases h
  | cons x t =>
    rw [List.length_cons]
    have h : (if takesC (x :: t) then some (Pc.sign (t.headD 0), t.tail) else if x = 42 then some (Pc.star, t) else if x = 96 then some ((codeC t).getD (.sign 96, t)) else if x = 91 then some (((markC t).or (linkC t)).getD (.sign 91, t)) else some (Pc.sign x, t)) = some (p, r) := h
    split at h
    · cases h
      have : t.tail.length ≤ t.length := by rw [List.length_tail]; omega
      omega
    · split at h
      · cases h; omega
      · split at h
        · cases hc : codeC t with
          | none => rw [hc] at h; cases h; omega
          | some q =>
            rw [hc] at h
            cases h
            unfold codeC at hc
            split at hc
            · rename_i y a b he
              cases hc
              have := congrArg List.length (cutAt_eq he).1
              rw [List.length_append, List.length_cons, List.length_cons] at this
              omega
            · cases hc
        · split at h
          · cases hm : markC t with
            | some q =>
              rw [hm] at h
              cases h
              unfold markC at hm
              split at hm
              · cases hn : nameAt 93 _ with
                | none => rw [hn] at hm; cases hm
                | some q =>
                  rw [hn] at hm
                  cases hm
                  have := nameAt_lt hn
                  rw [List.length_cons]
                  omega
              · cases hm
            | none =>
              rw [hm] at h
              cases hl : linkC t with
              | none => rw [hl] at h; cases h; omega
              | some q =>
                rw [hl] at h
                cases h
                unfold linkC at hl
                split at hl
                · split at hl
                  · rename_i r2 hd
                    cases hn : nameAt 41 r2 with
                    | none => rw [hn] at hl; cases hl
                    | some q =>
                      rw [hn] at hl
                      cases hl
                      have h1 := nameAt_lt hn
                      have h2 := congrArg List.length hd
                      rw [List.length_drop, List.length_cons] at h2
                      omega
                  · cases hl
                · cases hl
          · cases h; omega
/-- the pieces of a text -/
def piecesC (s : List Nat) : List Pc := match h : stepC s with
  | none => []
  | some (p, r) => p :: piecesC r
termination_by s.length
decreasing_by exact step_lt h
theorem pieces_nil : piecesC [] = [] := by
  unfold piecesC
  rfl
theorem pieces_step {s r : List Nat} {p : Pc} (h : stepC s = some (p, r)) : piecesC s = p :: piecesC r := by
  rw [piecesC]
  split
  · rename_i e; rw [h] at e; cases e
  · rename_i e; rw [h] at e; cases e; rfl
/-! ### where the next ] stands -/
def toPos (o : Nat) : Option Nat → Int
  | none => -1
  | some k => ((o + k : Nat) : Int)
/-- for each sign of s, which stands at o, where the next ] stands that no \ takes -/
def clGo (o : Nat) : List Nat → List Int
  | [] => []
  | [_] => [-1]
  | x :: y :: r => if x = 92 ∧ takenC.contains y = true then toPos (o + 2) (nxtC r) :: toPos (o + 2) (nxtC r) :: clGo (o + 2) r else toPos (o + 1) (nxtC (y :: r)) :: clGo (o + 1) (y :: r)
theorem takes_iff {x y : Nat} {r : List Nat} : takesC (x :: y :: r) = true ↔ x = 92 ∧ takenC.contains y = true := by
  by_cases e : x = 92
  · subst e; exact ⟨fun h => ⟨rfl, h⟩, fun h => h.2⟩
  · refine ⟨fun h => ?_, fun h => absurd h.1 e⟩
    exfalso
    unfold takesC at h
    split at h
    · rename_i z; exact e (List.cons.inj z).1
    · cases h
theorem cl_take {o x y : Nat} {r : List Nat} (h : takesC (x :: y :: r) = true) : clGo o (x :: y :: r) = toPos (o + 2) (nxtC r) :: toPos (o + 2) (nxtC r) :: clGo (o + 2) r := by
  show (if x = 92 ∧ takenC.contains y = true then _ else _) = _
  rw [if_pos (takes_iff.mp h)]
theorem cl_one {o x : Nat} {r : List Nat} (h : takesC (x :: r) = false) : clGo o (x :: r) = toPos (o + 1) (nxtC r) :: clGo (o + 1) r := by
  cases r with
  | nil => rfl
  | cons y r =>
    show (if x = 92 ∧ takenC.contains y = true then _ else _) = _
    rw [if_neg fun z => by rw [takes_iff.mpr z] at h; cases h]
theorem nxt_take {x y : Nat} {r : List Nat} (h : takesC (x :: y :: r) = true) : nxtC (x :: y :: r) = (nxtC r).map (· + 2) := by
  show (if x = 92 ∧ takenC.contains y = true then _ else _) = _
  rw [if_pos (takes_iff.mp h)]
theorem nxt_bar {r : List Nat} : nxtC (93 :: r) = some 0 := by
  cases r with
  | nil => rfl
  | cons y r =>
    show (if (93 : Nat) = 92 ∧ takenC.contains y = true then _ else if (93 : Nat) = 93 then some 0 else _) = _
    rw [if_neg fun z => absurd z.1 (by decide), if_pos rfl]
theorem nxt_one {x : Nat} {r : List Nat} (h : takesC (x :: r) = false) (hx : x ≠ 93) : nxtC (x :: r) = (nxtC r).map (· + 1) := by
  cases r with
  | nil =>
    show (if x = 93 then some 0 else none) = _
    rw [if_neg hx]; rfl
  | cons y r =>
    show (if x = 92 ∧ takenC.contains y = true then _ else if x = 93 then some 0 else _) = _
    rw [if_neg (fun z => by rw [takes_iff.mpr z] at h; cases h), if_neg hx]
theorem toPos_add (o k : Nat) (v : Option Nat) : toPos o (v.map (· + k)) = toPos (o + k) v := by
  cases v with
  | none => rfl
  | some j => show ((o + (j + k) : Nat) : Int) = ((o + k + j : Nat) : Int); omega
/-- the state of the walk at p: the entries ahead of p, of which the first n are told, and the rest waits for the next ] -/
structure ClAt (t : List Nat) (p n : Nat) (pre : List Int) : Prop where
  eq : clGo 0 t = pre ++ clGo p (t.drop p)
  len : pre.length = p
  le : n ≤ p
  wait : ∀ v ∈ pre.drop n, v = toPos p (nxtC (t.drop p))
theorem ClAt.start (t : List Nat) : ClAt t 0 0 [] := ⟨rfl, rfl, Nat.le_refl 0, fun _ z => nomatch z⟩
theorem ClAt.take {t : List Nat} {p n : Nat} {pre : List Int} (h : ClAt t p n pre) (hk : takesC (t.drop p) = true) : ∃ pre', ClAt t (p + 2) n pre' ∧ pre'.take n = pre.take n ∧ p + 2 ≤ t.length := by
  obtain ⟨y, r, hy⟩ : ∃ y r, t.drop p = 92 :: y :: r := by
    unfold takesC at hk
    split at hk
    · rename_i e; exact ⟨_, _, e⟩
    · cases hk
  have hr : t.drop (p + 2) = r := by rw [← List.drop_drop, hy]; rfl
  have hl : p + 2 ≤ t.length := by
    have := congrArg List.length hy
    rw [List.length_drop, List.length_cons, List.length_cons] at this
    omega
  rw [hy] at hk
  have hle := h.le
  refine ⟨pre ++ [toPos (p + 2) (nxtC r), toPos (p + 2) (nxtC r)], ⟨?_, by rw [List.length_append, h.len]; rfl, by omega, fun v hv => ?_⟩, ?_, hl⟩
  · rw [h.eq, hy, cl_take hk, hr, List.append_assoc]; rfl
  · rw [hr]
    rw [List.drop_append_of_le_length (by rw [h.len]; exact h.le)] at hv
    rcases List.mem_append.mp hv with z | z
    · rw [h.wait v z, hy, nxt_take hk, toPos_add]
    · simp only [List.mem_cons, List.not_mem_nil, or_false] at z
      rcases z with z | z <;> exact z
  · rw [List.take_append_of_le_length (by rw [h.len]; exact h.le)]
theorem ClAt.one {t : List Nat} {p n : Nat} {pre : List Int} (h : ClAt t p n pre) (hp : p < t.length) (hk : takesC (t.drop p) = false) (hx : t.getD p 0 ≠ 93) : ∃ pre', ClAt t (p + 1) n pre' ∧ pre'.take n = pre.take n := by
  have hd := List.drop_eq_getElem_cons hp
  have hg : t.getD p 0 = t[p] := by rw [List.getD_eq_getElem?_getD, List.getElem?_eq_getElem hp]; rfl
  rw [hg] at hx
  rw [hd] at hk
  have hle := h.le
  refine ⟨pre ++ [toPos (p + 1) (nxtC (t.drop (p + 1)))], ⟨?_, by rw [List.length_append, h.len]; rfl, by omega, fun v hv => ?_⟩, ?_⟩
  · rw [h.eq, hd, cl_one hk, List.append_assoc]; rfl
  · rw [List.drop_append_of_le_length (by rw [h.len]; exact h.le)] at hv
    rcases List.mem_append.mp hv with z | z
    · rw [h.wait v z, hd, nxt_one hk hx, toPos_add]
    · exact List.mem_singleton.mp z
  · rw [List.take_append_of_le_length (by rw [h.len]; exact h.le)]
theorem ClAt.bar {t : List Nat} {p n : Nat} {pre : List Int} (h : ClAt t p n pre) (hp : p < t.length) (hk : takesC (t.drop p) = false) (hx : t.getD p 0 = 93) : ∃ pre', ClAt t (p + 1) p pre' ∧ pre'.take p = pre.take n ++ List.replicate (p - n) (p : Int) := by
  have hd := List.drop_eq_getElem_cons hp
  have hg : t.getD p 0 = t[p] := by rw [List.getD_eq_getElem?_getD, List.getElem?_eq_getElem hp]; rfl
  rw [hg] at hx
  rw [hd] at hk
  refine ⟨pre ++ [toPos (p + 1) (nxtC (t.drop (p + 1)))], ⟨?_, by rw [List.length_append, h.len]; rfl, by omega, fun v hv => ?_⟩, ?_⟩
  · rw [h.eq, hd, cl_one hk, List.append_assoc]; rfl
  · rw [List.drop_append_of_le_length (by rw [h.len]; exact Nat.le_refl _), List.drop_of_length_le (by rw [h.len]; exact Nat.le_refl _)] at hv
    exact List.mem_singleton.mp hv
  · rw [List.take_append_of_le_length (by rw [h.len]; exact Nat.le_refl _), List.take_of_length_le (by rw [h.len]; exact Nat.le_refl _)]
    have hw : pre.drop n = List.replicate (p - n) (p : Int) := by
      rw [List.eq_replicate_iff]
      refine ⟨by rw [List.length_drop, h.len], fun v hv => ?_⟩
      rw [h.wait v hv, hd, hx, nxt_bar]
      rfl
    rw [← hw, List.take_append_drop]
theorem ClAt.fin {t : List Nat} {n : Nat} {pre : List Int} (h : ClAt t t.length n pre) : clGo 0 t = pre.take n ++ List.replicate (t.length - n) (-1) := by
  have e : clGo 0 t = pre := by rw [h.eq, List.drop_length]; exact List.append_nil pre
  have hw : pre.drop n = List.replicate (t.length - n) (-1) := by
    rw [List.eq_replicate_iff]
    refine ⟨by rw [List.length_drop, h.len], fun v hv => ?_⟩
    rw [h.wait v hv, List.drop_length]
    rfl
  rw [e, ← hw, List.take_append_drop]
end Lw

set_option Elab.async false
set_option linter.all false
set_option maxRecDepth 100000
/-! text.find and text.startswith with places. -/
namespace L2
open PySem PySem.Spec PyProof.Rows
open Builtin Builtin.Str
theorem occ_in (x y : Str) (lo hi : Nat) :
    (occurrences x y lo hi 1 = [] ∧ ∀ i, lo ≤ i → ¬ StrLaws.At x y hi i) ∨
    ∃ i r, occurrences x y lo hi 1 = i :: r ∧ lo ≤ i ∧ StrLaws.At x y hi i ∧ ∀ k, lo ≤ k → k < i → ¬ StrLaws.At x y hi k := by
  rw [StrLaws.occ_eq]
  rcases StrLaws.occ_first x y hi 1 (Nat.le_refl 1) (List.range' lo (hi + 1 - lo)) lo (fun i hi => by have := List.mem_range'_1.mp hi; omega) with ⟨h0, hn⟩ | ⟨pre, a, post, e, h0, ha, hn⟩
  · refine .inl ⟨by rw [h0], fun i hlo hi => ?_⟩
    exact hn i (by have := hi.1; rw [List.mem_range'_1]; omega) hi
  · have hs := StrLaws.range'_split_from e
    refine .inr ⟨a, ((forIn (List.range' lo (hi + 1 - lo)) ((#[] : Array Nat), lo) (StrLaws.occBody x y hi 1)).run.fst.toList).tail, ?_, hs.1, ha, fun k hk0 hk => hn k (hs.2 k hk0 hk)⟩
    generalize (forIn (List.range' lo (hi + 1 - lo)) ((#[] : Array Nat), lo) (StrLaws.occBody x y hi 1)).run.fst = arr at h0
    have h1 : arr.toList[0]? = some a := by simpa using h0
    cases hL : arr.toList with
    | nil => rw [hL] at h1; cases h1
    | cons b t => rw [hL] at h1; simp at h1; rw [h1]; rfl
theorem gives_find4 (x y : Str) (i j : Int) (t u v v' : Tok) : Gives («str.find» ⟨[.str x t, .str y u, .int i v, .int j v'], []⟩) (.int (match occurrences x y (fromIndex x.length i) (min (fromIndex x.length j) x.length) 1 with | k :: _ => (k : Int) | [] => -1)) := by
  show Gives (match occurrences x y (fromIndex x.length i) (min (fromIndex x.length j) x.length) 1 with | k :: _ => retInt k | [] => (do rule "str.find.not-found"; retInt (-1))) _
  cases occurrences x y (fromIndex x.length i) (min (fromIndex x.length j) x.length) 1 with
  | nil => exact .rule (.of_eq rfl)
  | cons k _ => exact .of_eq rfl
end L2
namespace Lm
open PySem L2 Lw Builtin Builtin.Str
/-- the first c of l from lo on, ahead of hi -/
def fndC (c : Nat) (l : List Nat) (lo hi : Nat) : Int := match Lw.cutAt c ((l.take hi).drop lo) with
  | some (a, _) => ((lo + a.length : Nat) : Int)
  | none => -1
theorem at_one (l : List Nat) (c hi i : Nat) (hh : hi ≤ l.length) : StrLaws.At (S l) (S [c]) hi i ↔ (l.take hi)[i]? = some c := by
  unfold StrLaws.At
  rw [subAt_S, S_len, decide_eq_true_eq, List.getElem?_take]
  show i + 1 ≤ hi ∧ (l.drop i).take 1 = [c] ↔ _
  constructor
  · rintro ⟨h1, h2⟩
    rw [if_pos (by omega)]
    have : (l.drop i)[0]? = some c := by
      have h3 := congrArg (fun z : List Nat => z[0]?) h2
      simpa [List.getElem?_take] using h3
    rw [List.getElem?_drop] at this
    exact this
  · intro h
    split at h
    · rename_i hlt
      refine ⟨by omega, ?_⟩
      have hl : i < l.length := by omega
      rw [List.drop_eq_getElem_cons hl]
      rw [List.getElem?_eq_getElem hl] at h
      rw [Option.some.inj h]
      rfl
    · cases h
theorem occ_fnd (l : List Nat) (c lo hi : Nat) (hh : hi ≤ l.length) : (match occurrences (S l) (S [c]) lo hi 1 with | k :: _ => (k : Int) | [] => -1) = fndC c l lo hi := by
  have hg : ∀ i, lo ≤ i → ((l.take hi)[i]? = ((l.take hi).drop lo)[i - lo]?) := fun i h => by
    rw [List.getElem?_drop]
    congr 1
    omega
  unfold fndC
  rcases occ_in (S l) (S [c]) lo hi with ⟨e, hn⟩ | ⟨i, r, e, hlo, hi', hn⟩
  · rw [e]
    have : Lw.cutAt c ((l.take hi).drop lo) = none := by
      rw [Lw.cutAt_none]
      intro z
      obtain ⟨k, hk⟩ := List.mem_iff_getElem?.mp z
      rw [List.getElem?_drop] at hk
      exact hn (lo + k) (by omega) ((at_one l c hi _ hh).mpr hk)
    rw [this]
  · rw [e]
    have h1 := (at_one l c hi i hh).mp hi'
    rw [hg i hlo] at h1
    cases hc : Lw.cutAt c ((l.take hi).drop lo) with
    | none => exact absurd (List.mem_of_getElem? h1) (Lw.cutAt_none.mp hc)
    | some p =>
      obtain ⟨a, b⟩ := p
      obtain ⟨he, ha⟩ := Lw.cutAt_eq hc
      show (i : Int) = ((lo + a.length : Nat) : Int)
      congr 1
      rw [he] at h1
      rcases Nat.lt_trichotomy (i - lo) a.length with q | q | q
      · rw [List.getElem?_append_left q] at h1
        exact absurd (List.mem_of_getElem? h1) ha
      · omega
      · exfalso
        refine hn (lo + a.length) (by omega) (by omega) ((at_one l c hi _ hh).mpr ?_)
        rw [hg _ (by omega), he, show lo + a.length - lo = a.length by omega, List.getElem?_append_right (Nat.le_refl _), Nat.sub_self]
        rfl
theorem from_nat (n k : Nat) : fromIndex n (k : Int) = k := by
  unfold fromIndex
  rw [if_neg (by omega)]
  omega
section
variable {X : Cx}
def rFind3 : V → List V → Hp → VK → Prop := fun x vs H Q => ∃ (l : List Nat) (c lo : Nat), x = vS l ∧ vs = [vS [c], .int (lo : Int)] ∧ Q (.int (fndC c l lo l.length)) H
def rFind4 : V → List V → Hp → VK → Prop := fun x vs H Q => ∃ (l : List Nat) (c lo hi : Nat), x = vS l ∧ vs = [vS [c], .int (lo : Int), .int (hi : Int)] ∧ Q (.int (fndC c l lo (min hi l.length))) H
def rStartsAt : V → List V → Hp → VK → Prop := fun x vs H Q => ∃ (l y : List Nat) (i : Nat), x = vS l ∧ vs = [vS y, .int (i : Int)] ∧ y ≠ [] ∧ Q (.bl (y.isPrefixOf (l.drop i))) H
theorem mt_find3 : MtR X "str.find" rFind3 := by
  intro pins s σ H x vs v us Q I rx rv h
  obtain ⟨l, c, lo, rfl, rfl, q⟩ := h
  obtain ⟨t, rfl⟩ := rx
  cases rv with | cons r1 rv =>
  cases rv with | cons r2 rv =>
  cases rv
  obtain ⟨t1, rfl⟩ := r1
  obtain ⟨t2, rfl⟩ := r2
  refine SC.find3 ?_
  have e : Txt.find3 (S l) (S [c]) (lo : Int) = fndC c l lo l.length := by
    unfold Txt.find3
    rw [from_nat, S_len]
    exact occ_fnd l c lo l.length (Nat.le_refl _)
  rw [e]
  exact ⟨.int _, H, I.tok _, ⟨_, rfl⟩, q⟩
theorem mt_find4 : MtR X "str.find" rFind4 := by
  intro pins s σ H x vs v us Q I rx rv h
  obtain ⟨l, c, lo, hi, rfl, rfl, q⟩ := h
  obtain ⟨t, rfl⟩ := rx
  cases rv with | cons r1 rv =>
  cases rv with | cons r2 rv =>
  cases rv with | cons r3 rv =>
  cases rv
  obtain ⟨t1, rfl⟩ := r1
  obtain ⟨t2, rfl⟩ := r2
  obtain ⟨t3, rfl⟩ := r3
  refine call_gives F.slot_str_find (typeIs_str _ _ _) F.entry_str_find (F.args_str_find_4 _ _ _ _) (gives_find4 _ _ _ _ _ _ _ _) ?_
  rw [from_nat, from_nat, S_len, occ_fnd l c lo (min hi l.length) (Nat.min_le_right _ _)]
  exact ⟨.int _, H, I.tok _, ⟨_, rfl⟩, q⟩
theorem mt_startsAt : MtR X "str.startswith" rStartsAt := by
  intro pins s σ H x vs v us Q I rx rv h
  obtain ⟨l, y, i, rfl, rfl, hy, q⟩ := h
  obtain ⟨t, rfl⟩ := rx
  cases rv with | cons r1 rv =>
  cases rv with | cons r2 rv =>
  cases rv
  obtain ⟨t1, rfl⟩ := r1
  obtain ⟨t2, rfl⟩ := r2
  refine SC.startswith3 ?_
  have e : Txt.startswith3 (S l) (S y) (i : Int) = y.isPrefixOf (l.drop i) := by
    unfold Txt.startswith3
    rw [from_nat, subAt_S, S_len, S_len, Bool.eq_iff_iff]
    simp only [Bool.and_eq_true, decide_eq_true_eq, List.isPrefixOf_iff_prefix]
    constructor
    · rintro ⟨_, h⟩
      exact List.prefix_iff_eq_take.mpr h.symm
    · intro h
      have h1 := h.length_le
      rw [List.length_drop] at h1
      have h2 : 0 < y.length := by cases y with | nil => exact absurd rfl hy | cons _ _ => simp
      exact ⟨by omega, (List.prefix_iff_eq_take.mp h).symm⟩
  rw [e]
  exact ⟨.bl _, H, I, rfl, q⟩
end
end Lm

set_option Elab.async false
set_option linter.all false
set_option maxRecDepth 100000
/-! The pieces of a text and the parts made of them: as functions of codes, and in the heap. -/
namespace Lw
open PySem L2 Lm
/-! ### in the heap -/
def PcAt (c : Cp) (H : Hp) (v : V) : Pc → Prop
  | .sign x => v = vS [x]
  | .star => v = .non
  | .code l => ∃ a, v = .ref a ∧ P1At c H a (.code (S l))
  | .note n => ∃ a, v = .ref a ∧ P1At c H a (.note (S n))
  | .link w n => ∃ a, v = .ref a ∧ P1At c H a (.link (S w) (S n))
theorem PcAt.same {c : Cp} {H H' : Hp} {v : V} (s : Same H H') : ∀ {p : Pc}, PcAt c H v p → PcAt c H' v p
  | .sign _, h => h
  | .star, h => h
  | .code _, ⟨a, e, h⟩ => ⟨a, e, h.same s⟩
  | .note _, ⟨a, e, h⟩ => ⟨a, e, h.same s⟩
  | .link _ _, ⟨a, e, h⟩ => ⟨a, e, h.same s⟩
def PcsAt (c : Cp) (H : Hp) : List V → List Pc → Prop
  | [], [] => True
  | v :: vs, p :: ps => PcAt c H v p ∧ PcsAt c H vs ps
  | _, _ => False
theorem PcsAt.same {c : Cp} {H H' : Hp} (s : Same H H') : ∀ {vs : List V} {ps : List Pc}, PcsAt c H vs ps → PcsAt c H' vs ps
  | [], [], _ => trivial
  | _ :: _, _ :: _, ⟨a, b⟩ => ⟨a.same s, b.same s⟩
theorem PcsAt.len {c : Cp} {H : Hp} : ∀ {vs : List V} {ps : List Pc}, PcsAt c H vs ps → vs.length = ps.length
  | [], [], _ => rfl
  | _ :: _, _ :: _, ⟨_, b⟩ => by rw [List.length_cons, List.length_cons, b.len]
theorem PcsAt.snoc {c : Cp} {H : Hp} : ∀ {vs : List V} {ps : List Pc} {v : V} {p : Pc}, PcsAt c H vs ps → PcAt c H v p → PcsAt c H (vs ++ [v]) (ps ++ [p])
  | [], [], _, _, _, h => ⟨h, trivial⟩
  | _ :: _, _ :: _, _, _, ⟨a, b⟩, h => ⟨a, b.snoc h⟩
theorem PcsAt.get {c : Cp} {H : Hp} : ∀ {vs : List V} {ps : List Pc} {i : Nat} {v : V}, PcsAt c H vs ps → vs[i]? = some v → ∃ p, ps[i]? = some p ∧ PcAt c H v p
  | [], [], _, _, _, e => by simp at e
  | _ :: _, _ :: _, 0, _, ⟨h, _⟩, e => by cases e; exact ⟨_, rfl, h⟩
  | _ :: _, _ :: _, i + 1, _, ⟨_, b⟩, e => by
    obtain ⟨p, h1, h2⟩ := b.get (i := i) (by simpa using e)
    exact ⟨p, by simpa using h1, h2⟩
/-- what is told of a place of a text of n signs: none, or the piece and the place behind it -/
def Fnd (c : Cp) (n : Nat) (H : Hp) (Q : VK) : Option (Pc × List Nat) → Prop
  | none => ∀ H', Same H H' → Q .non H'
  | some (pc, r) => ∀ tp v H', Same H H' → H' tp = some (.tup [v, .int ((n - r.length : Nat) : Int)]) → PcAt c (dif H H') v pc → Q (.ref tp) H'
/-! ### names -/
theorem nameAt_eq {c : Nat} {l n r : List Nat} (h : nameAt c l = some (n, r)) : ∃ a b, cutAt c (l.take 13) = some (a, b) ∧ l = a ++ c :: r ∧ isNameC a = true ∧ n = smallC a := by
  unfold nameAt at h
  split at h
  · rename_i a b hc
    split at h
    · rename_i hn
      cases h
      refine ⟨a, b, hc, ?_, hn, rfl⟩
      obtain ⟨h1, _⟩ := cutAt_eq hc
      have h2 : l = a ++ c :: (b ++ l.drop 13) := by
        conv => lhs; rw [← List.take_append_drop 13 l, h1]
        rw [List.append_assoc]; rfl
      have h3 : l.drop (a.length + 1) = b ++ l.drop 13 := by
        conv => lhs; rw [h2]
        rw [← List.drop_drop, List.drop_left]
        rfl
      rw [h3]
      exact h2
    · cases h
  · cases h
theorem nxt_at : ∀ {r : List Nat} {k : Nat}, nxtC r = some k → ∃ u v, r = u ++ 93 :: v ∧ u.length = k
  | [], k, h => by cases h
  | [x], k, h => by
    have h : (if x = 93 then some 0 else none) = some k := h
    split at h
    · rename_i e; cases h; subst e; exact ⟨[], [], rfl, rfl⟩
    · cases h
  | x :: y :: r, k, h => by
    have h : (if x = 92 ∧ takenC.contains y = true then (nxtC r).map (· + 2) else if x = 93 then some 0 else (nxtC (y :: r)).map (· + 1)) = some k := h
    split at h
    · cases hr : nxtC r with
      | none => rw [hr] at h; cases h
      | some j =>
        rw [hr] at h
        cases h
        obtain ⟨u, v, e, hl⟩ := nxt_at hr
        exact ⟨x :: y :: u, v, by rw [e]; rfl, by rw [List.length_cons, List.length_cons, hl]⟩
    · split at h
      · rename_i e; cases h; subst e; exact ⟨[], _, rfl, rfl⟩
      · cases hr : nxtC (y :: r) with
        | none => rw [hr] at h; cases h
        | some j =>
          rw [hr] at h
          cases h
          obtain ⟨u, v, e, hl⟩ := nxt_at hr
          exact ⟨x :: u, v, by rw [e]; rfl, by rw [List.length_cons, hl]⟩
/-! ### the places where a piece begins -/
def Al (t : List Nat) (p : Nat) : Prop := ∃ pre, clGo 0 t = pre ++ clGo p (t.drop p) ∧ pre.length = p
theorem Al.zero (t : List Nat) : Al t 0 := ⟨[], rfl, rfl⟩
theorem takes_form {s : List Nat} (h : takesC s = true) : ∃ y r, s = 92 :: y :: r := by
  unfold takesC at h
  split at h
  · exact ⟨_, _, rfl⟩
  · cases h
theorem Al.take {t : List Nat} {p : Nat} (h : Al t p) (hk : takesC (t.drop p) = true) : Al t (p + 2) := by
  obtain ⟨pre, e, hl⟩ := h
  obtain ⟨y, r, hy⟩ := takes_form hk
  have hr : t.drop (p + 2) = r := by rw [← List.drop_drop, hy]; rfl
  rw [hy] at hk
  refine ⟨pre ++ [toPos (p + 2) (nxtC r), toPos (p + 2) (nxtC r)], ?_, by rw [List.length_append, hl]; rfl⟩
  rw [e, hy, cl_take hk, hr, List.append_assoc]; rfl
theorem Al.one {t : List Nat} {p : Nat} (h : Al t p) (hp : p < t.length) (hk : takesC (t.drop p) = false) : Al t (p + 1) := by
  obtain ⟨pre, e, hl⟩ := h
  have hd := List.drop_eq_getElem_cons hp
  rw [hd] at hk
  refine ⟨pre ++ [toPos (p + 1) (nxtC (t.drop (p + 1)))], ?_, by rw [List.length_append, hl]; rfl⟩
  rw [e, hd, cl_one hk, List.append_assoc]; rfl
theorem Al.get {t r : List Nat} {p : Nat} (h : Al t p) (hr : t.drop p = 91 :: r) : (clGo 0 t)[p]? = some (toPos (p + 1) (nxtC r)) := by
  obtain ⟨pre, e, hl⟩ := h
  rw [e, hr, cl_one (by rfl), List.getElem?_append_right (by omega), hl, Nat.sub_self]
  rfl
theorem Al.to {t : List Nat} {q : Nat} (hq : q ≤ t.length) (hz : t.getD (q - 1) 0 ≠ 92) : ∀ (m p : Nat), q - p ≤ m → p ≤ q → Al t p → Al t q
  | m, p, hm, hpq, h => by
    by_cases e : p = q
    · subst e; exact h
    · have hp : p < t.length := by omega
      cases hk : takesC (t.drop p) with
      | true =>
        have hne : p + 1 ≠ q := fun z => by
          obtain ⟨y, r, hy⟩ := takes_form hk
          have : (t.drop p)[0]? = some 92 := by rw [hy]; rfl
          rw [List.getElem?_drop, Nat.add_zero] at this
          exact hz (by rw [← z, Nat.add_sub_cancel, List.getD_eq_getElem?_getD, this]; rfl)
        match m, hm with
        | m + 1, hm => exact Al.to hq hz m (p + 2) (by omega) (by omega) (h.take hk)
        | 0, hm => omega
      | false =>
        match m, hm with
        | m + 1, hm => exact Al.to hq hz m (p + 1) (by omega) (by omega) (h.one hp hk)
        | 0, hm => omega
/-- what a step takes off -/
theorem step_form {s r : List Nat} {p : Pc} (h : stepC s = some (p, r)) : (takesC s = true ∧ ∃ x y, s = x :: y :: r) ∨ (takesC s = false ∧ ∃ x, s = x :: r) ∨ ∃ u z, s = u ++ z :: r ∧ z ≠ 92 := by
  cases s with
  | nil => cases h
  | cons x t =>
    have h : (if takesC (x :: t) then some (Pc.sign (t.headD 0), t.tail) else if x = 42 then some (Pc.star, t) else if x = 96 then some ((codeC t).getD (.sign 96, t)) else if x = 91 then some (((markC t).or (linkC t)).getD (.sign 91, t)) else some (Pc.sign x, t)) = some (p, r) := h
    split at h
    · rename_i hk
      cases h
      obtain ⟨y, r, e⟩ := takes_form hk
      cases e
      exact .inl ⟨hk, _, _, rfl⟩
    · rename_i hk
      have hk := Bool.eq_false_iff.mpr hk
      split at h
      · cases h; exact .inr (.inl ⟨hk, _, rfl⟩)
      · split at h
        · cases hc : codeC t with
          | none => rw [hc] at h; cases h; exact .inr (.inl ⟨hk, _, rfl⟩)
          | some q =>
            rw [hc] at h
            cases h
            unfold codeC at hc
            split at hc
            · rename_i y a b he
              cases hc
              exact .inr (.inr ⟨x :: y :: a, 96, by rw [(cutAt_eq he).1]; rfl, by decide⟩)
            · cases hc
        · split at h
          · cases hm : markC t with
            | some q =>
              rw [hm] at h
              cases h
              unfold markC at hm
              split at hm
              · cases hn : nameAt 93 _ with
                | none => rw [hn] at hm; cases hm
                | some q =>
                  rw [hn] at hm
                  cases hm
                  obtain ⟨a, _, _, e, _⟩ := nameAt_eq hn
                  exact .inr (.inr ⟨x :: 94 :: a, 93, by rw [e]; rfl, by decide⟩)
              · cases hm
            | none =>
              rw [hm] at h
              cases hl : linkC t with
              | none => rw [hl] at h; cases h; exact .inr (.inl ⟨hk, _, rfl⟩)
              | some q =>
                rw [hl] at h
                cases h
                unfold linkC at hl
                split at hl
                · rename_i k hx
                  split at hl
                  · rename_i r2 hd
                    cases hn : nameAt 41 r2 with
                    | none => rw [hn] at hl; cases hl
                    | some q =>
                      rw [hn] at hl
                      cases hl
                      obtain ⟨a, _, _, e, _⟩ := nameAt_eq hn
                      refine .inr (.inr ⟨x :: (t.take (k + 2) ++ 40 :: a), 41, ?_, by decide⟩)
                      rw [List.cons_append, List.append_assoc, List.cons_append, ← e, ← hd, List.take_append_drop]
                  · cases hl
                · cases hl
          · cases h; exact .inr (.inl ⟨hk, _, rfl⟩)
theorem Al.step {t r : List Nat} {p : Nat} {pc : Pc} (h : Al t p) (hp : p < t.length) (hs : stepC (t.drop p) = some (pc, r)) : ∃ q, q = t.length - r.length ∧ p < q ∧ q ≤ t.length ∧ t.drop q = r ∧ Al t q := by
  have hlen : (t.drop p).length = t.length - p := List.length_drop
  rcases step_form hs with ⟨hk, x, y, e⟩ | ⟨hk, x, e⟩ | ⟨u, z, e, hz⟩
  · have hl := congrArg List.length e
    rw [hlen, List.length_cons, List.length_cons] at hl
    refine ⟨p + 2, by omega, by omega, by omega, ?_, h.take hk⟩
    rw [← List.drop_drop, e]; rfl
  · have hl := congrArg List.length e
    rw [hlen, List.length_cons] at hl
    refine ⟨p + 1, by omega, by omega, by omega, ?_, h.one hp hk⟩
    rw [← List.drop_drop, e]; rfl
  · have hl := congrArg List.length e
    rw [hlen, List.length_append, List.length_cons] at hl
    have hd : t.drop (p + (u.length + 1)) = r := by
      rw [← List.drop_drop, e, ← List.drop_drop, List.drop_left]; rfl
    refine ⟨p + (u.length + 1), by omega, by omega, by omega, hd, Al.to (by omega) ?_ _ p (Nat.le_refl _) (by omega) h⟩
    have : (t.drop p)[u.length]? = some z := by rw [e, List.getElem?_append_right (Nat.le_refl _), Nat.sub_self]; rfl
    rw [List.getElem?_drop] at this
    rw [show p + (u.length + 1) - 1 = p + u.length by omega, List.getD_eq_getElem?_getD, this]
    exact hz
theorem step_some {s : List Nat} (h : s ≠ []) : ∃ p r, stepC s = some (p, r) := by
  cases s with
  | nil => exact absurd rfl h
  | cons x t =>
    show ∃ p r, (if takesC (x :: t) then some (Pc.sign (t.headD 0), t.tail) else if x = 42 then some (Pc.star, t) else if x = 96 then some ((codeC t).getD (.sign 96, t)) else if x = 91 then some (((markC t).or (linkC t)).getD (.sign 91, t)) else some (Pc.sign x, t)) = some (p, r)
    split
    · exact ⟨_, _, rfl⟩
    · split
      · exact ⟨_, _, rfl⟩
      · split
        · exact ⟨_, _, rfl⟩
        · split <;> exact ⟨_, _, rfl⟩
theorem pieces_len : ∀ (n : Nat) (s : List Nat), s.length ≤ n → (piecesC s).length ≤ s.length
  | n, [], _ => by rw [pieces_nil]; exact Nat.le_refl 0
  | 0, x :: s, h => by simp at h
  | n + 1, x :: s, h => by
    obtain ⟨p, r, e⟩ := step_some (s := x :: s) (by simp)
    rw [pieces_step e, List.length_cons]
    have h1 := step_lt e
    have h2 := pieces_len n r (by omega)
    omega
/-! ### strong and plain -/
inductive Qc where
  | txt (l : List Nat)
  | part (p : PC)
def toQ : Pc → Qc
  | .sign x => .txt [x]
  | .star => .txt [42]
  | .code l => .part (.one (.code (S l)))
  | .note n => .part (.one (.note (S n)))
  | .link w n => .part (.one (.link (S w) (S n)))
def plainQ (sg : List (List Nat)) : List PC := if sg.isEmpty then [] else [.one (.plain (S sg.flatten))]
def mgGo (sg : List (List Nat)) : List Qc → List PC
  | [] => plainQ sg
  | .txt l :: r => mgGo (sg ++ [l]) r
  | .part p :: r => plainQ sg ++ p :: mgGo [] r
def strongQ (inn : List Qc) : Qc := if inn.isEmpty then .txt [42, 42] else .part (.strong (ones (mgGo [] inn)))
def wsGo : Option (List Qc) → List Pc → List Qc
  | none, [] => []
  | some inn, [] => .txt [42] :: inn
  | none, .star :: r => wsGo (some []) r
  | some inn, .star :: r => strongQ inn :: wsGo none r
  | none, p :: r => toQ p :: wsGo none r
  | some inn, p :: r => wsGo (some (inn ++ [toQ p])) r
def partsC (t : List Nat) : List PC := mgGo [] (wsGo none (piecesC t))
def QAt (c : Cp) (H : Hp) (v : V) : Qc → Prop
  | .txt l => v = vS l
  | .part p => ∃ a, v = .ref a ∧ PCAt c H a p
theorem QAt.same {c : Cp} {H H' : Hp} {v : V} (s : Same H H') : ∀ {p : Qc}, QAt c H v p → QAt c H' v p
  | .txt _, h => h
  | .part _, ⟨a, e, h⟩ => ⟨a, e, h.same s⟩
def QsAt (c : Cp) (H : Hp) : List V → List Qc → Prop
  | [], [] => True
  | v :: vs, p :: ps => QAt c H v p ∧ QsAt c H vs ps
  | _, _ => False
theorem QsAt.same {c : Cp} {H H' : Hp} (s : Same H H') : ∀ {vs : List V} {ps : List Qc}, QsAt c H vs ps → QsAt c H' vs ps
  | [], [], _ => trivial
  | _ :: _, _ :: _, ⟨a, b⟩ => ⟨a.same s, b.same s⟩
theorem QsAt.len {c : Cp} {H : Hp} : ∀ {vs : List V} {ps : List Qc}, QsAt c H vs ps → vs.length = ps.length
  | [], [], _ => rfl
  | _ :: _, _ :: _, ⟨_, b⟩ => by rw [List.length_cons, List.length_cons, b.len]
theorem QsAt.snoc {c : Cp} {H : Hp} : ∀ {vs : List V} {ps : List Qc} {v : V} {p : Qc}, QsAt c H vs ps → QAt c H v p → QsAt c H (vs ++ [v]) (ps ++ [p])
  | [], [], _, _, _, h => ⟨h, trivial⟩
  | _ :: _, _ :: _, _, _, ⟨a, b⟩, h => ⟨a, b.snoc h⟩
theorem QsAt.app {c : Cp} {H : Hp} : ∀ {vs us : List V} {ps qs : List Qc}, QsAt c H vs ps → QsAt c H us qs → QsAt c H (vs ++ us) (ps ++ qs)
  | [], _, [], _, _, h => h
  | _ :: _, _, _ :: _, _, ⟨a, b⟩, h => ⟨a, b.app h⟩
theorem QsAt.get {c : Cp} {H : Hp} : ∀ {vs : List V} {ps : List Qc} {i : Nat} {v : V}, QsAt c H vs ps → vs[i]? = some v → ∃ p, ps[i]? = some p ∧ QAt c H v p
  | [], [], _, _, _, e => by simp at e
  | _ :: _, _ :: _, 0, _, ⟨h, _⟩, e => by cases e; exact ⟨_, rfl, h⟩
  | _ :: _, _ :: _, i + 1, _, ⟨_, b⟩, e => by
    obtain ⟨p, h1, h2⟩ := b.get (i := i) (by simpa using e)
    exact ⟨p, by simpa using h1, h2⟩
theorem PcAt.toQ {c : Cp} {H : Hp} {v : V} : ∀ {p : Pc}, PcAt c H v p → p ≠ .star → QAt c H v (toQ p)
  | .sign _, h, _ => h
  | .star, _, z => absurd rfl z
  | .code _, h, _ => h
  | .note _, h, _ => h
  | .link _ _, h, _ => h
/-! sizes -/
def lenQ : List Qc → Nat
  | [] => 0
  | .txt l :: r => l.length + lenQ r
  | .part _ :: r => lenQ r
theorem lenQ_app : ∀ (a b : List Qc), lenQ (a ++ b) = lenQ a + lenQ b
  | [], b => by rw [List.nil_append]; show _ = 0 + _; omega
  | .txt l :: a, b => by rw [List.cons_append]; show l.length + lenQ (a ++ b) = l.length + lenQ a + lenQ b; rw [lenQ_app a b]; omega
  | .part _ :: a, b => by rw [List.cons_append]; show lenQ (a ++ b) = lenQ a + lenQ b; exact lenQ_app a b
def QOk (qs : List Qc) : Prop := ∀ l, Qc.txt l ∈ qs → Asc l ∧ l ≠ []
def PcOk (ps : List Pc) : Prop := ∀ x, Pc.sign x ∈ ps → x < 128
theorem lenQ_toQ (p : Pc) : lenQ [toQ p] ≤ 1 := by cases p <;> simp [toQ, lenQ]
theorem ws_none {p : Pc} (hp : p ≠ .star) {r : List Pc} (h : lenQ (wsGo none r) ≤ r.length + 0 ∧ (wsGo none r).length ≤ r.length + 0) : lenQ (wsGo none (p :: r)) ≤ (p :: r).length + 0 ∧ (wsGo none (p :: r)).length ≤ (p :: r).length + 0 := by
  obtain ⟨h1, h2⟩ := h
  have e : wsGo none (p :: r) = [toQ p] ++ wsGo none r := by cases p <;> first | rfl | exact absurd rfl hp
  have h3 := lenQ_toQ p
  rw [e, lenQ_app, List.length_append, List.length_cons, List.length_cons, List.length_nil]
  omega
theorem ws_some {p : Pc} (hp : p ≠ .star) {r : List Pc} {inn : List Qc} (h : lenQ (wsGo (some (inn ++ [toQ p])) r) ≤ r.length + (lenQ (inn ++ [toQ p]) + 1) ∧ (wsGo (some (inn ++ [toQ p])) r).length ≤ r.length + ((inn ++ [toQ p]).length + 1)) : lenQ (wsGo (some inn) (p :: r)) ≤ (p :: r).length + (lenQ inn + 1) ∧ (wsGo (some inn) (p :: r)).length ≤ (p :: r).length + (inn.length + 1) := by
  obtain ⟨h1, h2⟩ := h
  have e : wsGo (some inn) (p :: r) = wsGo (some (inn ++ [toQ p])) r := by cases p <;> first | rfl | exact absurd rfl hp
  have h3 := lenQ_toQ p
  rw [lenQ_app] at h1
  rw [List.length_append, List.length_cons, List.length_nil] at h2
  rw [e, List.length_cons]
  omega
theorem ws_size : ∀ (ps : List Pc) (o : Option (List Qc)), lenQ (wsGo o ps) ≤ ps.length + (match o with | none => 0 | some inn => lenQ inn + 1) ∧ (wsGo o ps).length ≤ ps.length + (match o with | none => 0 | some inn => inn.length + 1)
  | [], none => ⟨Nat.le_refl _, Nat.le_refl _⟩
  | [], some inn => by
    show 1 + lenQ inn ≤ 0 + (lenQ inn + 1) ∧ inn.length + 1 ≤ 0 + (inn.length + 1)
    omega
  | .star :: r, none => by
    have h := ws_size r (some [])
    have h1 : lenQ (wsGo (some []) r) ≤ r.length + (0 + 1) := h.1
    have h2 : (wsGo (some []) r).length ≤ r.length + (0 + 1) := h.2
    show lenQ (wsGo (some []) r) ≤ (r.length + 1) + 0 ∧ (wsGo (some []) r).length ≤ (r.length + 1) + 0
    omega
  | .star :: r, some inn => by
    have h := ws_size r none
    have h1 : lenQ (wsGo none r) ≤ r.length + 0 := h.1
    have h2 : (wsGo none r).length ≤ r.length + 0 := h.2
    have h3 : lenQ (strongQ inn :: wsGo none r) ≤ 2 + lenQ (wsGo none r) := by
      unfold strongQ
      split
      · show 2 + _ ≤ _; exact Nat.le_refl _
      · show lenQ (wsGo none r) ≤ 2 + lenQ (wsGo none r); omega
    show lenQ (strongQ inn :: wsGo none r) ≤ (r.length + 1) + (lenQ inn + 1) ∧ (wsGo none r).length + 1 ≤ (r.length + 1) + (inn.length + 1)
    omega
  | .sign x :: r, none => ws_none (by rintro ⟨⟩) (ws_size r none)
  | .code l :: r, none => ws_none (by rintro ⟨⟩) (ws_size r none)
  | .note l :: r, none => ws_none (by rintro ⟨⟩) (ws_size r none)
  | .link a b :: r, none => ws_none (by rintro ⟨⟩) (ws_size r none)
  | .sign x :: r, some inn => ws_some (by rintro ⟨⟩) (ws_size r (some (inn ++ [_])))
  | .code l :: r, some inn => ws_some (by rintro ⟨⟩) (ws_size r (some (inn ++ [_])))
  | .note l :: r, some inn => ws_some (by rintro ⟨⟩) (ws_size r (some (inn ++ [_])))
  | .link a b :: r, some inn => ws_some (by rintro ⟨⟩) (ws_size r (some (inn ++ [_])))
/-! ### places -/
theorem fnd_none {c lo hi : Nat} {l : List Nat} (h : cutAt c ((l.take hi).drop lo) = none) : fndC c l lo hi = -1 := by
  unfold fndC
  rw [h]
theorem fnd_some {c lo hi : Nat} {l a b : List Nat} (h : cutAt c ((l.take hi).drop lo) = some (a, b)) : fndC c l lo hi = ((lo + a.length : Nat) : Int) := by
  unfold fndC
  rw [h]
theorem win (t : List Nat) (m k : Nat) : (t.take (min (m + k) t.length)).drop m = (t.drop m).take k := by
  refine List.ext_getElem? fun i => ?_
  rw [List.getElem?_drop, List.getElem?_take, List.getElem?_take, List.getElem?_drop]
  by_cases h : i < k
  · rw [if_pos h]
    by_cases h2 : m + i < t.length
    · rw [if_pos (by omega)]
    · rw [if_neg (by omega), List.getElem?_eq_none (by omega)]
  · rw [if_neg h, if_neg (by omega)]
theorem t_startsAt {K : PySem.W.Frag} {te ti : TE} {σ : St} {H : Hp} {y : Str} {l z : List Nat} {i : Nat} (ey : y = S z) (hz : z ≠ []) (he : Ev te σ H (vS l)) (hi : Ev ti σ H (.int (i : Int))) :
    Tells (tB (tBM K "str" rStartsAt te (tCons (tC (.str y)) (tCons ti tNil)))) σ H (z.isPrefixOf (l.drop i)) := by
  intro R k
  subst ey
  exact he _ ⟨rfl, hi _ ⟨l, z, i, rfl, rfl, hz, _, rfl, k H (Same.refl H)⟩⟩
theorem mem_free : ∀ {t : List Nat} {c : Nat}, c ∈ freeC t → c ∈ t
  | [], _, h => h
  | [_], _, h => h
  | x :: y :: r, c, h => by
    have h : c ∈ (if x = 92 ∧ takenC.contains y = true then y :: freeC r else x :: freeC (y :: r)) := h
    split at h
    · rcases List.mem_cons.mp h with e | e
      · rw [e]; exact List.mem_cons_of_mem _ List.mem_cons_self
      · exact List.mem_cons_of_mem _ (List.mem_cons_of_mem _ (mem_free e))
    · rcases List.mem_cons.mp h with e | e
      · rw [e]; exact List.mem_cons_self
      · exact List.mem_cons_of_mem _ (mem_free e)
theorem strG_S {l : List Nat} (h : Asc l) (hl : l.length ≤ 100000) : StrG (S l) := ⟨strOk_S h, by rw [S_len]; exact hl⟩
/-! ### a thing made -/
theorem made1 {H H1 : Hp} {x dx C : Addr} {o : HO} (s : Same H H1) (hx : H1 x = none) (hdx : H1 dx = none) : Same H (upd (upd (upd H1 dx (.own x)) x (.ins C dx [])) x o) ∧ dif H (upd (upd (upd H1 dx (.own x)) x (.ins C dx [])) x o) x = some o :=
  ⟨same_grow (s.free hx) (same_grow (s.free hx) (same_grow (s.free hdx) s)), by rw [dif_at (s.free hx)]; exact upd_same⟩
theorem made2 {H H1 : Hp} {x dx C : Addr} {o1 o : HO} (s : Same H H1) (hx : H1 x = none) (hdx : H1 dx = none) : Same H (upd (upd (upd (upd H1 dx (.own x)) x (.ins C dx [])) x o1) x o) ∧ dif H (upd (upd (upd (upd H1 dx (.own x)) x (.ins C dx [])) x o1) x o) x = some o :=
  ⟨same_grow (s.free hx) (same_grow (s.free hx) (same_grow (s.free hx) (same_grow (s.free hdx) s))), by rw [dif_at (s.free hx)]; exact upd_same⟩
theorem dif_new {H H2 : Hp} {tp : Addr} (h : H2 tp = none) (o : HO) : Same (dif H H2) (dif H (upd H2 tp o)) := dif_grow (Same.refl _) (same_new h o)
/-! ### what is new, off some lists that are still written -/
def Mo (R : Hp → Prop) : Prop := ∀ G G', Same G G' → R G → R G'
def NewQ (H : Hp) (W : List Addr) (H' : Hp) (R : Hp → Prop) : Prop := ∃ G, Same G H' ∧ (∀ b ∈ W, G b = none) ∧ (∀ b, H b ≠ none → G b = none) ∧ R G
section
variable {H H' H3 H4 : Hp} {W : List Addr} {R R2 R' : Hp → Prop}
theorem NewQ.same (h : NewQ H W H' R) (s : Same H' H4) : NewQ H W H4 R := let ⟨G, a, b, d, e⟩ := h; ⟨G, a.trans s, b, d, e⟩
theorem NewQ.upd {p : Addr} {o : HO} (h : NewQ H W H' R) (hp : p ∈ W) : NewQ H W (L2.upd H' p o) R :=
  let ⟨G, a, b, d, e⟩ := h
  ⟨G, fun x u z => (upd_ne (fun y => by rw [y, b p hp] at z; cases z)).trans (a x u z), b, d, e⟩
theorem NewQ.wide {p : Addr} (h : NewQ H W H' R) (hp : H' p = none) : NewQ H (p :: W) H' R :=
  let ⟨G, a, b, d, e⟩ := h
  ⟨G, a, fun x hx => by
    rcases List.mem_cons.mp hx with z | z
    · rw [z]; exact a.free hp
    · exact b x z, d, e⟩
theorem NewQ.less {W' : List Addr} (h : NewQ H W H' R) (k : ∀ b ∈ W', b ∈ W) : NewQ H W' H' R := let ⟨G, a, b, d, e⟩ := h; ⟨G, a, fun x hx => b x (k x hx), d, e⟩
theorem NewQ.dif (h : NewQ H W H' R) (m : Mo R) : R (dif H H') :=
  let ⟨G, a, _, d, e⟩ := h
  m G _ (fun x u z => by
    have hx : H x = none := by
      cases q : H x with
      | none => rfl
      | some o => rw [d x (by rw [q]; simp)] at z; cases z
    rw [dif_at hx]
    exact a x u z) e
theorem NewQ.join (h : NewQ H W H' R) (h2 : NewQ H W H' R2) (m : Mo R) (m2 : Mo R2) (k : ∀ G, R G → R2 G → R' G) : NewQ H W H' R' :=
  let ⟨G, a, b, d, e⟩ := h
  let ⟨G2, a2, b2, d2, e2⟩ := h2
  ⟨both G G2, both_in a a2, fun x hx => by unfold both; rw [b x hx]; exact b2 x hx, fun x hx => by unfold both; rw [d x hx]; exact d2 x hx, k _ (m _ _ both_l e) (m2 _ _ (both_r a a2) e2)⟩
theorem NewQ.of (s : Same H H3) (hW : ∀ b ∈ W, H3 b ≠ none) (h : R (L2.dif H3 H4)) : NewQ H W H4 R := ⟨L2.dif H3 H4, dif_same, fun b hb => dif_none (hW b hb), fun b hb => dif_none (fun z => hb (s.free z)), h⟩
theorem NewQ.old (s : Same H3 H4) (hs : Same H H3) (hW : ∀ b ∈ W, H3 b = none) (h : R (L2.dif H H3)) : NewQ H W H4 R := ⟨L2.dif H H3, dif_same.trans s, fun b hb => by rw [dif_at (hs.free (hW b hb))]; exact hW b hb, fun b hb => dif_none hb, h⟩
theorem NewQ.triv (h : R fun _ => none) : NewQ H W H' R := ⟨fun _ => none, (fun _ _ z => nomatch z), (fun _ _ => rfl), (fun _ _ => rfl), h⟩
end
theorem mo_Pc {c : Cp} {v : V} {p : Pc} : Mo fun G => PcAt c G v p := fun _ _ s h => h.same s
theorem mo_Pcs {c : Cp} {vs : List V} {ps : List Pc} : Mo fun G => PcsAt c G vs ps := fun _ _ s h => h.same s
theorem mo_Q {c : Cp} {v : V} {p : Qc} : Mo fun G => QAt c G v p := fun _ _ s h => h.same s
theorem mo_Qs {c : Cp} {vs : List V} {ps : List Qc} : Mo fun G => QsAt c G vs ps := fun _ _ s h => h.same s
theorem mo_PC {c : Cp} {a : Addr} {p : PC} : Mo fun G => PCAt c G a p := fun _ _ s h => h.same s
theorem mo_PCs {c : Cp} {as : List Addr} {ps : List PC} : Mo fun G => PCs c G as ps := fun _ _ s h => h.same s
theorem NewQ.map {H H' : Hp} {W : List Addr} {R R' : Hp → Prop} (h : NewQ H W H' R) (k : ∀ G, R G → R' G) : NewQ H W H' R' := let ⟨G, a, b, d, e⟩ := h; ⟨G, a, b, d, k G e⟩
/-! ### what the pieces are made of -/
theorem step_sign {s r : List Nat} {x : Nat} (h : stepC s = some (.sign x, r)) : x ∈ s := by
  cases s with
  | nil => cases h
  | cons y t =>
    have h : (if takesC (y :: t) then some (Pc.sign (t.headD 0), t.tail) else if y = 42 then some (Pc.star, t) else if y = 96 then some ((codeC t).getD (.sign 96, t)) else if y = 91 then some (((markC t).or (linkC t)).getD (.sign 91, t)) else some (Pc.sign y, t)) = some (.sign x, r) := h
    split at h
    · rename_i hk
      cases h
      obtain ⟨z, r', e⟩ := takes_form hk
      cases e
      exact List.mem_cons_of_mem _ List.mem_cons_self
    · split at h
      · cases h
      · split at h
        · rename_i e
          cases hc : codeC t with
          | none => rw [hc] at h; cases h; rw [e]; exact List.mem_cons_self
          | some q =>
            rw [hc] at h
            cases h
            unfold codeC at hc
            split at hc <;> cases hc
        · split at h
          · rename_i e
            cases hm : markC t with
            | some q =>
              rw [hm] at h
              cases h
              unfold markC at hm
              split at hm
              · cases hn : nameAt 93 _ with
                | none => rw [hn] at hm; cases hm
                | some q => rw [hn] at hm; cases hm
              · cases hm
            | none =>
              rw [hm] at h
              cases hl : linkC t with
              | none => rw [hl] at h; cases h; rw [e]; exact List.mem_cons_self
              | some q =>
                rw [hl] at h
                cases h
                unfold linkC at hl
                split at hl
                · split at hl
                  · cases hn : nameAt 41 _ with
                    | none => rw [hn] at hl; cases hl
                    | some q => rw [hn] at hl; cases hl
                  · cases hl
                · cases hl
          · cases h; exact List.mem_cons_self
theorem step_rest {s r : List Nat} {p : Pc} (h : stepC s = some (p, r)) : ∀ c ∈ r, c ∈ s := by
  rcases step_form h with ⟨_, x, y, e⟩ | ⟨_, x, e⟩ | ⟨u, z, e, _⟩ <;> intro c hc <;> rw [e]
  · exact List.mem_cons_of_mem _ (List.mem_cons_of_mem _ hc)
  · exact List.mem_cons_of_mem _ hc
  · exact List.mem_append_right _ (List.mem_cons_of_mem _ hc)
theorem pieces_ok : ∀ (n : Nat) (s : List Nat), s.length ≤ n → Asc s → PcOk (piecesC s)
  | n, [], _, _ => by rw [pieces_nil]; exact fun _ z => nomatch z
  | 0, x :: s, h, _ => by simp at h
  | n + 1, x :: s, h, ha => by
    obtain ⟨p, r, e⟩ := step_some (s := x :: s) (by simp)
    rw [pieces_step e]
    have h1 := step_lt e
    intro y hy
    rcases List.mem_cons.mp hy with z | z
    · subst z; exact ha y (step_sign e)
    · exact pieces_ok n r (by omega) (ha.sub (step_rest e)) y z
theorem ok_toQ {p : Pc} {l : List Nat} (hp : ∀ x, p = .sign x → x < 128) (h : Qc.txt l = toQ p) : Asc l ∧ l ≠ [] := by
  cases p with
  | sign x => cases h; exact ⟨fun c hc => by rw [List.mem_singleton.mp hc]; exact hp x rfl, by simp⟩
  | star => cases h; exact ⟨by unfold Asc; decide, by simp⟩
  | code l => cases h
  | note l => cases h
  | link a b => cases h
theorem QOk.app {a b : List Qc} (h : QOk a) (k : QOk b) : QOk (a ++ b) := fun l hl => by
  rcases List.mem_append.mp hl with z | z
  · exact h l z
  · exact k l z
theorem QOk.cons {a : Qc} {b : List Qc} (h : ∀ l, Qc.txt l = a → Asc l ∧ l ≠ []) (k : QOk b) : QOk (a :: b) := fun l hl => by
  rcases List.mem_cons.mp hl with z | z
  · exact h l z
  · exact k l z
theorem QOk.nil : QOk [] := fun _ z => nomatch z
theorem ok_strongQ (inn : List Qc) : ∀ l, Qc.txt l = strongQ inn → Asc l ∧ l ≠ [] := fun l h => by
  unfold strongQ at h
  split at h
  · cases h; exact ⟨by unfold Asc; decide, by simp⟩
  · cases h
theorem ws_ok : ∀ (ps : List Pc) (o : Option (List Qc)), PcOk ps → (∀ inn, o = some inn → QOk inn) → QOk (wsGo o ps)
  | [], none, _, _ => QOk.nil
  | [], some inn, _, h => QOk.cons (fun l z => by cases z; exact ⟨by unfold Asc; decide, by simp⟩) (h inn rfl)
  | .star :: r, none, hp, h => ws_ok r (some []) (fun x hx => hp x (List.mem_cons_of_mem _ hx)) fun inn e => by cases e; exact QOk.nil
  | .star :: r, some inn, hp, h => QOk.cons (ok_strongQ inn) (ws_ok r none (fun x hx => hp x (List.mem_cons_of_mem _ hx)) fun inn e => nomatch e)
  | .sign x :: r, none, hp, h => QOk.cons (fun l z => ok_toQ (p := .sign x) (fun y e => by cases e; exact hp x List.mem_cons_self) z) (ws_ok r none (fun x hx => hp x (List.mem_cons_of_mem _ hx)) fun inn e => nomatch e)
  | .code x :: r, none, hp, h => QOk.cons (fun l z => nomatch z) (ws_ok r none (fun x hx => hp x (List.mem_cons_of_mem _ hx)) fun inn e => nomatch e)
  | .note x :: r, none, hp, h => QOk.cons (fun l z => nomatch z) (ws_ok r none (fun x hx => hp x (List.mem_cons_of_mem _ hx)) fun inn e => nomatch e)
  | .link x y :: r, none, hp, h => QOk.cons (fun l z => nomatch z) (ws_ok r none (fun x hx => hp x (List.mem_cons_of_mem _ hx)) fun inn e => nomatch e)
  | .sign x :: r, some inn, hp, h => ws_ok r (some (inn ++ [toQ (.sign x)])) (fun x hx => hp x (List.mem_cons_of_mem _ hx)) fun _ e => by cases e; exact (h inn rfl).app (QOk.cons (fun l z => ok_toQ (p := .sign x) (fun y e => by cases e; exact hp x List.mem_cons_self) z) QOk.nil)
  | .code x :: r, some inn, hp, h => ws_ok r (some (inn ++ [toQ (.code x)])) (fun x hx => hp x (List.mem_cons_of_mem _ hx)) fun _ e => by cases e; exact (h inn rfl).app (QOk.cons (fun l z => nomatch z) QOk.nil)
  | .note x :: r, some inn, hp, h => ws_ok r (some (inn ++ [toQ (.note x)])) (fun x hx => hp x (List.mem_cons_of_mem _ hx)) fun _ e => by cases e; exact (h inn rfl).app (QOk.cons (fun l z => nomatch z) QOk.nil)
  | .link x y :: r, some inn, hp, h => ws_ok r (some (inn ++ [toQ (.link x y)])) (fun x hx => hp x (List.mem_cons_of_mem _ hx)) fun _ e => by cases e; exact (h inn rfl).app (QOk.cons (fun l z => nomatch z) QOk.nil)
theorem ws_none_one {p : Pc} (hp : p ≠ .star) (r : List Pc) : wsGo none (p :: r) = toQ p :: wsGo none r := by cases p <;> first | rfl | exact absurd rfl hp
theorem ws_some_one {p : Pc} (hp : p ≠ .star) (r : List Pc) (inn : List Qc) : wsGo (some inn) (p :: r) = wsGo (some (inn ++ [toQ p])) r := by cases p <;> first | rfl | exact absurd rfl hp
/-- of simple parts alone -/
def OneQ (qs : List Qc) : Prop := ∀ p, Qc.part p ∈ qs → one? p ≠ none
theorem OneQ.snoc {qs : List Qc} (h : OneQ qs) (p : Pc) : OneQ (qs ++ [toQ p]) := fun q hq => by
  rcases List.mem_append.mp hq with z | z
  · exact h q z
  · have z := List.mem_singleton.mp z
    cases p <;> cases z <;> exact fun e => nomatch e
theorem plain_ones (sg : List (List Nat)) : ∀ p ∈ plainQ sg, one? p ≠ none := fun p hp => by
  unfold plainQ at hp
  split at hp
  · cases hp
  · rw [List.mem_singleton.mp hp]; exact fun e => nomatch e
theorem mg_ones : ∀ (qs : List Qc) (sg : List (List Nat)), OneQ qs → ∀ p ∈ mgGo sg qs, one? p ≠ none
  | [], sg, _, p, hp => plain_ones sg p hp
  | .txt l :: r, sg, h, p, hp => mg_ones r (sg ++ [l]) (fun q hq => h q (List.mem_cons_of_mem _ hq)) p hp
  | .part q :: r, sg, h, p, hp => by
    have hp : p ∈ plainQ sg ++ q :: mgGo [] r := hp
    rcases List.mem_append.mp hp with z | z
    · exact plain_ones sg p z
    · rcases List.mem_cons.mp z with z | z
      · rw [z]; exact h q List.mem_cons_self
      · exact mg_ones r [] (fun q hq => h q (List.mem_cons_of_mem _ hq)) p z
theorem glue_flat : ∀ l : List (List Nat), glueC [] l = l.flatten
  | [] => rfl
  | [c] => by show c = c ++ []; rw [List.append_nil]
  | c :: d :: r => by
    have ih := glue_flat (d :: r)
    rw [glueC_cons _ _ _ (by simp), ih, List.append_nil]
    simp
theorem fit_join (l : List (List Nat)) (h : l.flatten.length ≤ 100000) : (((l.map S).map (·.length)).sum + (l.map S).length * (S []).length) ≤ sizeLine := by
  have e : ((l.map S).map (·.length)).sum = l.flatten.length := by
    clear h
    induction l with
    | nil => rfl
    | cons x l ih => rw [List.map_cons, List.map_cons, List.sum_cons, ih, S_len, List.flatten_cons, List.length_append]
  rw [e, S_len, sizeLine_eq]
  simp only [List.length_nil, Nat.mul_zero]
  omega
theorem lenQ_drop {qs : List Qc} {i : Nat} {q : Qc} (h : qs[i]? = some q) : lenQ (qs.drop i) = lenQ [q] + lenQ (qs.drop (i + 1)) := by
  obtain ⟨hi, he⟩ := List.getElem?_eq_some_iff.mp h
  rw [List.drop_eq_getElem_cons hi, he, ← lenQ_app]
  rfl
theorem s_asgC {v : V} {i : Nat} {u : TS} {D : Ends} {σ : St} {H : Hp} (h : u D (σ.set i (some v)) H) : tSeq (tAsg (tC v) (gName i)) u D σ H := h
end Lw

set_option Elab.async false
set_option linter.all false
set_option maxRecDepth 100000
set_option maxHeartbeats 2000000
namespace K4
open PySem L2 Lm Lw
structure TxI (K : PySem.W.Frag) (mg : Str → Option Value) (c : Cp) (BT : Addr) : Prop extends TxP K mg c BT where
  g_TAKEN : ∃ t, mg "TAKEN" = some (.str (S takenC) t)
  s_Plain : PySem.W.kitOne K (.ref c.Plain) (.type "str") = some false
  s_Code : PySem.W.kitOne K (.ref c.Code) (.type "str") = some false
  s_Strong : PySem.W.kitOne K (.ref c.Strong) (.type "str") = some false
  s_Link : PySem.W.kitOne K (.ref c.Link) (.type "str") = some false
  s_Mark : PySem.W.kitOne K (.ref c.Mark) (.type "str") = some false
theorem TxI.noStr {K : PySem.W.Frag} {mg : Str → Option Value} {c : Cp} {BT : Addr} (T : TxI K mg c BT) {H : Hp} {a : Addr} : ∀ {p : PC}, PCAt c H a p → ∃ t, TyOf K H (.ref a) t ∧ PySem.W.kitOne K t (.type "str") = some false
  | .one (.plain _), ⟨_, _, e⟩ => ⟨_, T.o_Plain.ty e, T.s_Plain⟩
  | .one (.code _), ⟨_, _, e⟩ => ⟨_, T.o_Code.ty e, T.s_Code⟩
  | .one (.link _ _), ⟨_, _, _, e⟩ => ⟨_, T.o_Link.ty e, T.s_Link⟩
  | .one (.note _), ⟨_, _, e⟩ => ⟨_, T.o_Mark.ty e, T.s_Mark⟩
  | .strong _, ⟨_, _, _, e, _⟩ => ⟨_, T.o_Strong.ty e, T.s_Strong⟩
theorem takes_at {t : List Nat} {i : Nat} (h : i < t.length) : takesC (t.drop i) = (decide (t.getD i 0 = 92) && decide (i + 1 < t.length) && takenC.contains (t.getD (i + 1) 0)) := by
  rw [List.drop_eq_getElem_cons h]
  have e : t.getD i 0 = t[i] := by rw [List.getD_eq_getElem?_getD, List.getElem?_eq_getElem h]; rfl
  rw [e]
  by_cases h2 : i + 1 < t.length
  · rw [List.drop_eq_getElem_cons h2]
    have e2 : t.getD (i + 1) 0 = t[i + 1] := by rw [List.getD_eq_getElem?_getD, List.getElem?_eq_getElem h2]; rfl
    rw [e2, decide_eq_true h2, Bool.and_true]
    by_cases h3 : t[i] = 92
    · rw [h3]; rfl
    · rw [decide_eq_false h3, Bool.false_and]
      unfold takesC
      split
      · rename_i z; exact absurd (List.cons.inj z).1 h3
      · rfl
  · rw [decide_eq_false h2, Bool.and_false, Bool.false_and, List.drop_of_length_le (by omega)]
    unfold takesC
    split
    · rename_i z; exact absurd (List.cons.inj z).2 (fun y => nomatch y)
    · rfl
section
variable {P : Program} {w : World} {K : PySem.W.Frag} {mg : Str → Option Value} {base : Heap} {c : Cp} {BT : Addr}
abbrev sTakes : Stmt := top 23
theorem scTakes : FnScope ["text", "place"] ["text", "place"] (defScope sTakes) := ⟨rfl, rfl, rfl, by decide +kernel, rfl, by decide +kernel, by decide +kernel⟩
def spTakes : Sp := fun vs H Q _ => ∃ (t : List Nat) (i : Nat), vs = [vS t, .int (i : Int)] ∧ i < t.length ∧ t.length ≤ 1000000 ∧ ∀ H', Same H H' → Q (.bl (takesC (t.drop i))) H'
theorem ok_takes {f : Addr} {fd : FuncData} (F : Fun K "takes_next" "takes_next" sTakes f fd) (T : TxI K mg c BT) : FnOk P w K mg base CX0 1 f fd ["text", "place"] spTakes := by
  have sc := scTakes
  refine F.ok sc (fun vs H Q E h => ?_) (fun cdv A outer s H vs Q E hr h => ?_)
  · obtain ⟨t, i, rfl, _⟩ := h
    rfl
  obtain ⟨t, i, rfl, hi, hl, q⟩ := h
  refine of_XB (xbc (xif (xor (xcmpT op_ne (xix ix_str (xv 0) (xv 1) (fun _ _ => rfl)) xstr (nomark _)) (xor1 (xcmpT op_eq (xop op_add (xv 1) xint) (xcB call_len_str T.n_len PySem.boot_len (xac (xv 0) xa0)) (nomark _)))).xt (xb1 (xret xbl)) xb0)
    (xb1 (xret (xcmp op_in_str (xix ix_str (xv 0) (xop op_add (xv 1) xint) (fun _ _ => rfl)) (xgS T.g_TAKEN) (by with_unfolding_all rfl))))) ?_
  rw [show start ["text", "place"] [vS t, V.int (i : Int)] = [some (vS t), some (V.int (i : Int))] from rfl]
  have hix : ∀ H', Ev (tOp rIxS (tVar 0) (tVar 1)) [some (vS t), some (V.int (i : Int))] H' (vS [t.getD i 0]) := fun H' => by
    have := ev_ix (σ := [some (vS t), some (V.int (i : Int))]) (H := H') (ta := tVar 0) (tb := tVar 1) (l := t) (i := (i : Int)) hl (ev_v rfl) (ev_v rfl) (by omega) (by omega)
    rw [Int.toNat_natCast] at this
    exact this
  have hT : Tells (tOr (tTest (tOp rNe (tOp rIxS (tVar 0) (tVar 1)) (tC (.str "\\")))) (tTest (tOp rEq (tOp (rI0 fun i j => V.int (i + j)) (tVar 1) (tC (.int 1))) (tCB (fun xs H Q => ∃ z, xs = [.str z] ∧ z.length ≤ sizeLine ∧ Q (.int z.length) H) (tCons (tVar 0) tNil))))) [some (vS t), some (V.int (i : Int))] H (decide ([t.getD i 0] ≠ [92]) || decide (i + 1 = t.length)) := by
    refine t_or _ _ (t_ne _ [92] rfl (hix H)) fun _ H' _ R k => ⟨_, rfl, _, _, rfl, rfl, _, rfl, _, rfl, bigS hl, rfl, _, rfl, ?_⟩
    rw [S_len, show decide (V.int ((i : Int) + 1) = V.int (t.length : Nat)) = decide (i + 1 = t.length) by rw [decide_eq_decide]; exact ⟨fun z => by have := V.int.inj z; omega, fun z => by rw [← z]; rfl⟩]
    exact k _ (Same.refl _)
  by_cases hc : t.getD i 0 = 92 ∧ i + 1 < t.length
  · obtain ⟨h1, h2⟩ := hc
    refine s_no1 (hT.eq ?_) fun H1 s1 => ?_
    · rw [h1, Bool.or_eq_false_iff]
      exact ⟨decide_eq_false (fun z => z rfl), decide_eq_false (by omega)⟩
    · refine ⟨_, rfl, _, rfl, _, _, rfl, rfl, w_ixs hl (by omega) (by omega) ⟨S [t.getD (i + 1) 0], S takenC, ?_, rfl, ?_⟩⟩
      · rw [show ((i : Int) + 1).toNat = i + 1 by omega]
      · have hq := q H1 s1
        rw [takes_at hi, decide_eq_true h1, decide_eq_true h2, Bool.true_and, Bool.true_and] at hq
        rw [contains_S]
        exact hq
  · refine s_yes (hT.eq ?_) fun H1 s1 => ?_
    · rw [Bool.or_eq_true]
      by_cases h1 : t.getD i 0 = 92
      · exact .inr (decide_eq_true (by have : ¬ i + 1 < t.length := fun z => hc ⟨h1, z⟩; omega))
      · exact .inl (decide_eq_true fun z => h1 (List.cons.inj z).1)
    · have hq := q H1 s1
      rw [takes_at hi] at hq
      have : (decide (t.getD i 0 = 92) && decide (i + 1 < t.length)) = false := by
        rw [Bool.and_eq_false_iff]
        by_cases h1 : t.getD i 0 = 92
        · exact .inr (decide_eq_false fun z => hc ⟨h1, z⟩)
        · exact .inl (decide_eq_false h1)
      rw [this, Bool.false_and] at hq
      exact hq
theorem free_take {x y : Nat} {r : List Nat} (h : takesC (x :: y :: r) = true) : freeC (x :: y :: r) = y :: freeC r := by
  have hx : x = 92 ∧ takenC.contains y = true := by
    by_cases e : x = 92
    · subst e; exact ⟨rfl, h⟩
    · exfalso
      unfold takesC at h
      split at h
      · rename_i z; exact e (List.cons.inj z).1
      · cases h
  show (if x = 92 ∧ takenC.contains y = true then y :: freeC r else x :: freeC (y :: r)) = _
  rw [if_pos hx]
theorem free_one {x : Nat} {r : List Nat} (h : takesC (x :: r) = false) : freeC (x :: r) = x :: freeC r := by
  cases r with
  | nil => rfl
  | cons y r =>
    show (if x = 92 ∧ takenC.contains y = true then y :: freeC r else x :: freeC (y :: r)) = _
    rw [if_neg]
    rintro ⟨rfl, hy⟩
    rw [show takesC (92 :: y :: r) = takenC.contains y from rfl, hy] at h
    cases h
theorem takes_two {s : List Nat} (h : takesC s = true) : ∃ y r, s = 92 :: y :: r := by
  unfold takesC at h
  split at h
  · exact ⟨_, _, rfl⟩
  · cases h
theorem glue_ones : ∀ l : List Nat, glueC [] (l.map fun c => [c]) = l
  | [] => rfl
  | [c] => rfl
  | c :: d :: r => by
    have ih := glue_ones (d :: r)
    rw [List.map_cons, glueC_cons _ _ _ (by simp), ih]
    rfl
theorem free_len : ∀ t : List Nat, (freeC t).length ≤ t.length
  | [] => Nat.le_refl 0
  | [x] => Nat.le_refl 1
  | x :: y :: r => by
    show (if x = 92 ∧ takenC.contains y = true then y :: freeC r else x :: freeC (y :: r)).length ≤ _
    have h1 := free_len r
    have h2 := free_len (y :: r)
    split <;> simp only [List.length_cons] at * <;> omega
theorem ones_fit {l : List Nat} (h : l.length ≤ 1000000) : ((((l.map fun c => [c]).map S).map (·.length)).sum + ((l.map fun c => [c]).map S).length * (S []).length) ≤ sizeLine := by
  have e : (((l.map fun c => [c]).map S).map (·.length)).sum = l.length := by
    clear h
    induction l with
    | nil => rfl
    | cons x l ih => rw [List.map_cons, List.map_cons, List.map_cons, List.sum_cons, ih, S_len]; simp only [List.length_cons, List.length_nil]; omega
  rw [e, S_len, sizeLine_eq]
  simp only [List.length_nil, Nat.mul_zero]
  omega
abbrev sFreed : Stmt := top 28
theorem scFreed : FnScope ["text", "signs", "place"] ["text"] (defScope sFreed) := ⟨rfl, rfl, rfl, by decide +kernel, rfl, by decide +kernel, by decide +kernel⟩
def spFreed : Sp := fun vs H Q _ => ∃ t : List Nat, vs = [vS t] ∧ t.length ≤ 100000 ∧ ∀ H', Same H H' → Q (vS (freeC t)) H'
theorem ok_freed {f : Addr} {fd : FuncData} (F : Fun K "freed" "freed" sFreed f fd) (T : TxI K mg c BT) (D_takes_next : Def P w K mg base 1 "takes_next" ["text", "place"] spTakes) : FnOk P w K mg base CX0 2 f fd ["text"] spFreed := by
  have sc := scFreed
  refine F.ok sc (fun vs H Q E h => ?_) (fun cdv A outer s H vs Q E hr h => ?_)
  · obtain ⟨t, rfl, _⟩ := h
    rfl
  obtain ⟨t, rfl, hl, q⟩ := h
  refine of_XB (xbc (xset (i := 1) sc.nd rfl (Or.inl rfl) (xlst xa0))
    (xbc (xset (i := 2) sc.nd rfl (Or.inl rfl) xint)
    (xbc (xwhile PassesOwn.never (xcmpT op_lt (xv 2) (xcB call_len_str T.n_len PySem.boot_len (xac (xv 0) xa0)) (nomark _))
    (xbc (xif (xvalT (xcD D_takes_next (hr.mono (by omega)) (xac (xv 0) (xac (xv 2) xa0)))) (xb1 (xaug (i := 2) sc.nd rfl (Or.inl rfl) xint ip_add)) xb0)
    (xbc (xexpr (xm PySem.F.plainAttrs_list PySem.F.slot_list_append PySem.F.type_list_append mt_append (xv 1) (xac (xix ix_str (xv 0) (xv 2) (fun _ _ => rfl)) xa0)))
    (xb1 (xaug (i := 2) sc.nd rfl (Or.inl rfl) xint ip_add)))))
    (xb1 (xret (xm PySem.F.plainAttrs_str PySem.F.slot_str_join PySem.F.type_str_join mt_join xstr (xac (xv 1) xa0))))))) ?_
  have hs : sizeLine = 16777216 := sizeLine_eq
  rw [show start ["text", "signs", "place"] [vS t] = [some (vS t), none, none] from rfl]
  refine ⟨big (show (0 : Nat) ≤ 1000000 by decide), fun l hl0 => ?_⟩
  have s1 := same_new hl0 (.lst [])
  have e1 : upd H l (.lst []) l = some (.lst []) := upd_same
  dsimp only [gName, List.set_cons_succ, List.set_cons_zero]
  generalize upd H l (.lst []) = H1 at s1 e1 ⊢
  show tSeq (tWhile _ _) _ _ [some (vS t), some (.ref l), some (.int ((0 : Nat) : Int))] H1
  refine s_join (fun σ' H' => σ' = [some (vS t), some (.ref l), some (.int (t.length : Nat))] ∧ Same H H' ∧ H' l = some (.lst ((freeC t).map fun c => vS [c]))) (fun N hN => ?_) ?_
  · refine while_t (fun m σ' H' => ∃ (p : Nat) (dn : List Nat), σ' = [some (vS t), some (.ref l), some (.int (p : Nat))] ∧ Same H H' ∧ H' l = some (.lst (dn.map fun c => vS [c])) ∧ p ≤ t.length ∧ m = t.length - p ∧ dn ++ freeC (t.drop p) = freeC t) t.length ⟨0, [], rfl, s1, e1, Nat.zero_le _, rfl, rfl⟩ ?_
    rintro m σ' H2 ⟨p, dn, rfl, s2, e2, hp, rfl, hd⟩
    refine ⟨decide (p < t.length), fun R k => ⟨_, rfl, _, rfl, _, rfl, bigS (by omega), _, _, rfl, rfl, _, rfl, ?_⟩, fun hc H3 s3 => ?_, fun hc H3 s3 => ?_⟩
    · rw [S_len, show decide ((p : Int) < ((t.length : Nat) : Int)) = decide (p < t.length) by rw [decide_eq_decide]; omega]
      exact k _ (Same.refl _)
    · have hpl : p < t.length := of_decide_eq_true hc
      have hdl : (freeC t).length ≤ t.length := free_len t
      have dl : dn.length ≤ t.length := by
        have := congrArg List.length hd
        rw [List.length_append] at this
        omega
      have e3 := s3 _ _ e2
      have s23 := s2.trans s3
      refine ⟨_, rfl, _, rfl, t, p, rfl, hpl, by omega, fun H4 s4 => ⟨_, rfl, ?_⟩⟩
      have e4 := s4 _ _ e3
      have s24 := s23.trans s4
      have fit : (dn.map fun c => vS [c]).length < sizeLine := by rw [List.length_map, hs]; omega
      have new : ∀ j : Nat, j < t.length → (upd H4 l (.lst ((dn.map fun c => vS [c]) ++ [vS [t.getD j 0]]))) l = some (.lst ((dn ++ [t.getD j 0]).map fun c => vS [c])) := fun j _ => by rw [upd_same, List.map_append]; rfl
      have sG : ∀ o, Same H (upd H4 l o) := fun o => same_grow hl0 s24
      by_cases hk : takesC (t.drop p) = true
      · rw [hk]
        refine iteT ?_
        obtain ⟨y, r, hy⟩ := takes_two hk
        have hp1 : p + 1 < t.length := by
          have := congrArg List.length hy
          rw [List.length_drop, List.length_cons, List.length_cons] at this
          omega
        have hg : t.getD (p + 1) 0 = y := by
          have : (t.drop p)[1]? = some y := by rw [hy]; rfl
          rw [List.getElem?_drop] at this
          rw [List.getD_eq_getElem?_getD, this]; rfl
        have hr2 : t.drop (p + 2) = r := by
          rw [show p + 2 = p + 2 from rfl, ← List.drop_drop, hy]; rfl
        rw [hy] at hk
        have hf : freeC (t.drop p) = y :: freeC (t.drop (p + 2)) := by rw [hy, free_take hk, hr2]
        refine ⟨_, rfl, _, _, rfl, rfl, ?_⟩
        dsimp only [List.set_cons_succ, List.set_cons_zero]
        refine ⟨_, rfl, .inl ⟨rfl, _, SqL.of e4⟩, _, rfl, _, rfl, w_ixs (by omega) (by omega) (by omega) ⟨l, _, _, rfl, rfl, e4, fit, _, rfl, _, _, rfl, rfl, ?_⟩⟩
        dsimp only [List.set_cons_succ, List.set_cons_zero]
        rw [show ((p : Int) + 1).toNat = p + 1 by omega, show ((p : Int) + 1 + 1) = ((p + 2 : Nat) : Int) by omega]
        refine ⟨t.length - (p + 2), by omega, p + 2, dn ++ [t.getD (p + 1) 0], rfl, sG _, new (p + 1) hp1, by omega, rfl, ?_⟩
        rw [List.append_assoc, ← hd, hf, hg]; rfl
      · have hk' : takesC (t.drop p) = false := Bool.eq_false_iff.mpr hk
        rw [hk']
        refine iteF ?_
        have hdr := List.drop_eq_getElem_cons hpl
        rw [hdr] at hk'
        have hg : t.getD p 0 = t[p] := by rw [List.getD_eq_getElem?_getD, List.getElem?_eq_getElem hpl]; rfl
        have hf : freeC (t.drop p) = t[p] :: freeC (t.drop (p + 1)) := by rw [hdr, free_one hk']
        refine ⟨_, rfl, .inl ⟨rfl, _, SqL.of e4⟩, _, rfl, _, rfl, w_ixs (by omega) (by omega) (by omega) ⟨l, _, _, rfl, rfl, e4, fit, _, rfl, _, _, rfl, rfl, ?_⟩⟩
        dsimp only [List.set_cons_succ, List.set_cons_zero]
        rw [Int.toNat_natCast, show ((p : Int) + 1) = ((p + 1 : Nat) : Int) by omega]
        refine ⟨t.length - (p + 1), by omega, p + 1, dn ++ [t.getD p 0], rfl, sG _, new p hpl, by omega, rfl, ?_⟩
        rw [List.append_assoc, ← hd, hf, hg]; rfl
    · have hpl : p = t.length := by have := of_decide_eq_false hc; omega
      subst hpl
      rw [List.drop_length] at hd
      refine hN _ _ ⟨rfl, s2.trans s3, ?_⟩
      rw [← hd, show freeC [] = [] from rfl, List.append_nil]
      exact s3 _ _ e2
  · rintro σ' H2 ⟨rfl, s2, e2⟩
    have hdl := free_len t
    have em : ((freeC t).map fun c => [c]).map S = (freeC t).map fun c => S [c] := by rw [List.map_map]; rfl
    refine ⟨rfl, _, rfl, S [], l, ((freeC t).map fun c => [c]).map S, rfl, rfl, SqL.of ?_, ones_fit (by omega), ?_⟩
    · rw [e2, List.map_map, List.map_map]; rfl
    · rw [joinT_S, glue_ones]
      exact q H2 s2
end
end K4

set_option Elab.async false
set_option linter.all false
set_option maxRecDepth 100000
set_option maxHeartbeats 2000000
namespace K4
open PySem L2 Lm Lw
section
variable {P : Program} {w : World} {K : PySem.W.Frag} {mg : Str → Option Value} {base : Heap} {c : Cp} {BT : Addr}
abbrev sClosings : Stmt := top 24
theorem scClosings : FnScope ["text", "closings", "place"] ["text"] (defScope sClosings) := ⟨rfl, rfl, rfl, by decide +kernel, rfl, by decide +kernel, by decide +kernel⟩
def spClosings : Sp := fun vs H Q _ => ∃ t : List Nat, vs = [vS t] ∧ t.length ≤ 100000 ∧ ∀ r H', Same H H' → H r = none → H' r = some (.lst ((clGo 0 t).map V.int)) → Q (.ref r) H'
theorem flat_rep {α : Type} (x : α) : ∀ k : Nat, (List.replicate k [x]).flatten = List.replicate k x
  | 0 => rfl
  | k + 1 => by rw [List.replicate_succ, List.flatten_cons, flat_rep x k]; rfl
theorem ok_closings {f : Addr} {fd : FuncData} (F : Fun K "closings_of" "closings_of" sClosings f fd) (T : TxI K mg c BT) (D_takes_next : Def P w K mg base 1 "takes_next" ["text", "place"] spTakes) : FnOk P w K mg base CX0 2 f fd ["text"] spClosings := by
  have sc := scClosings
  refine F.ok sc (fun vs H Q E h => ?_) (fun cdv A outer s H vs Q E hr h => ?_)
  · obtain ⟨t, rfl, _⟩ := h
    rfl
  obtain ⟨t, rfl, hl, q⟩ := h
  refine of_XB (xbc (xset (i := 1) sc.nd rfl (Or.inl rfl) (xlst xa0))
    (xbc (xset (i := 2) sc.nd rfl (Or.inl rfl) xint)
    (xbc (xwhile PassesOwn.never (xcmpT op_lt (xv 2) (xcB call_len_str T.n_len PySem.boot_len (xac (xv 0) xa0)) (nomark _))
    (xbc (xif (xvalT (xcD D_takes_next (hr.mono (by omega)) (xac (xv 0) (xac (xv 2) xa0)))) (xbc (xaug (i := 2) sc.nd rfl (Or.inl rfl) xint ip_add)
    (xb1 xcont)) xb0)
    (xbc (xif (xcmpT op_eq (xix ix_str (xv 0) (xv 2) (fun _ _ => rfl)) xstr (nomark _)) (xb1 (xexpr (xm PySem.F.plainAttrs_list PySem.F.slot_list_extend PySem.F.type_list_extend mt_extend (xv 1) (xac (xop op_rep (xlst (xac (xv 2) xa0)) (xop op_sub (xv 2) (xcB call_len_seq T.n_len PySem.boot_len (xac (xv 1) xa0)))) xa0)))) xb0)
    (xb1 (xaug (i := 2) sc.nd rfl (Or.inl rfl) xint ip_add)))))
    (xb1 (xret (xop op_cat (xv 1) (xop op_rep (xlst (xac (xun un_neg xint) xa0)) (xop op_sub (xcB call_len_str T.n_len PySem.boot_len (xac (xv 0) xa0)) (xcB call_len_seq T.n_len PySem.boot_len (xac (xv 1) xa0)))))))))) ?_
  have hs : sizeLine = 16777216 := sizeLine_eq
  rw [show start ["text", "closings", "place"] [vS t] = [some (vS t), none, none] from rfl]
  refine ⟨big (show (0 : Nat) ≤ 1000000 by decide), fun l hl0 => ?_⟩
  have s1 := same_new hl0 (.lst [])
  have e1 : upd H l (.lst []) l = some (.lst []) := upd_same
  dsimp only [gName, List.set_cons_succ, List.set_cons_zero]
  generalize upd H l (.lst []) = H1 at s1 e1 ⊢
  show tSeq (tWhile _ _) _ _ [some (vS t), some (.ref l), some (.int ((0 : Nat) : Int))] H1
  refine s_join (fun σ' H' => σ' = [some (vS t), some (.ref l), some (.int (t.length : Nat))] ∧ Same H H' ∧ ∃ n pre, ClAt t t.length n pre ∧ H' l = some (.lst ((pre.take n).map V.int))) (fun N hN => ?_) ?_
  · refine while_t (fun m σ' H' => ∃ (p n : Nat) (pre : List Int), σ' = [some (vS t), some (.ref l), some (.int (p : Nat))] ∧ Same H H' ∧ H' l = some (.lst ((pre.take n).map V.int)) ∧ p ≤ t.length ∧ m = t.length - p ∧ ClAt t p n pre) t.length ⟨0, 0, [], rfl, s1, e1, Nat.zero_le _, rfl, .start t⟩ ?_
    rintro m σ' H2 ⟨p, n, pre, rfl, s2, e2, hp, rfl, hA⟩
    refine ⟨decide (p < t.length), fun R k => ⟨_, rfl, _, rfl, _, rfl, bigS (by omega), _, _, rfl, rfl, _, rfl, ?_⟩, fun hc H3 s3 => ?_, fun hc H3 s3 => ?_⟩
    · rw [S_len, show decide ((p : Int) < ((t.length : Nat) : Int)) = decide (p < t.length) by rw [decide_eq_decide]; omega]
      exact k _ (Same.refl _)
    · have hpl : p < t.length := of_decide_eq_true hc
      have e3 := s3 _ _ e2
      have s23 := s2.trans s3
      have hn := hA.le
      have hpn : (pre.take n).length = n := by rw [List.length_take, hA.len]; omega
      refine ⟨_, rfl, _, rfl, t, p, rfl, hpl, by omega, fun H4 s4 => ⟨_, rfl, ?_⟩⟩
      have e4 := s4 _ _ e3
      have s24 := s23.trans s4
      by_cases hk : takesC (t.drop p) = true
      · rw [hk]
        refine iteT ?_
        obtain ⟨pre', hA', hpre, hle⟩ := hA.take hk
        refine ⟨_, rfl, _, _, rfl, rfl, ?_⟩
        dsimp only [List.set_cons_succ, List.set_cons_zero]
        refine ⟨t.length - (p + 2), by omega, p + 2, n, pre', ?_, s24, by rw [hpre]; exact e4, hle, rfl, hA'⟩
        rw [show ((p : Int) + 2) = ((p + 2 : Nat) : Int) by omega]
      · have hk' : takesC (t.drop p) = false := Bool.eq_false_iff.mpr hk
        rw [hk']
        refine iteF ?_
        have hT : Tells (tTest (tOp rEq (tOp rIxS (tVar 0) (tVar 2)) (tC (.str "]")))) [some (vS t), some (V.ref l), some (V.int (p : Int))] H4 (decide ([t.getD p 0] = [93])) := t_eq _ [93] rfl fun R' r => by
          have := ev_ix (σ := [some (vS t), some (V.ref l), some (V.int (p : Int))]) (H := H4) (ta := tVar 0) (tb := tVar 2) (l := t) (i := (p : Int)) (by omega) (ev_v rfl) (ev_v rfl) (by omega) (by omega)
          rw [Int.toNat_natCast] at this
          exact this R' r
        by_cases hx : t.getD p 0 = 93
        · obtain ⟨pre', hA', hpre⟩ := hA.bar hpl hk' hx
          refine s_yes (hT.eq (decide_eq_true (by rw [hx]))) fun H5 s5 => ?_
          have e5 := s5 _ _ e4
          refine ⟨_, rfl, .inl ⟨rfl, _, SqL.of e5⟩, _, rfl, big (show (1 : Nat) ≤ 1000000 by decide), fun u hu => ?_⟩
          have s6 := same_new hu (.lst [.int (p : Int)])
          have e6 : upd H5 u (.lst [V.int (p : Int)]) u = some (.lst [.int (p : Int)]) := upd_same
          generalize upd H5 u (.lst [V.int (p : Int)]) = H6 at s6 e6 ⊢
          refine ⟨_, rfl, _, rfl, l, _, rfl, .inl (SqL.of (s6 _ _ e5)), _, _, rfl, rfl, u, (p : Int) - (n : Int), _, rfl, ?_, e6, by omega, by omega, ?_, fun v hv => ?_⟩
          · rw [List.length_map, hpn]
          · rw [hs]; show 1 * _ ≤ _; omega
          have tn : ((p : Int) - (n : Int)).toNat = p - n := by omega
          rw [tn, flat_rep]
          have s7 := same_new hv (.lst (List.replicate (p - n) (V.int (p : Int))))
          have e7 : upd H6 v (.lst (List.replicate (p - n) (V.int (p : Int)))) v = some (.lst (List.replicate (p - n) (V.int (p : Int)))) := upd_same
          generalize upd H6 v (.lst (List.replicate (p - n) (V.int (p : Int)))) = H7 at s7 e7 ⊢
          have s57 := s6.trans s7
          refine ⟨l, v, _, _, rfl, rfl, s57 _ _ e5, e7, ?_, ?_⟩
          · rw [List.length_map, hpn, List.length_replicate, hs]; omega
          refine ⟨_, rfl, _, _, rfl, rfl, ?_⟩
          dsimp only [List.set_cons_succ, List.set_cons_zero]
          refine ⟨t.length - (p + 1), by omega, p + 1, p, pre', ?_, same_grow hl0 ((s24.trans s5).trans s57), ?_, by omega, rfl, hA'⟩
          · rw [show ((p : Int) + 1) = ((p + 1 : Nat) : Int) by omega]
          · rw [upd_same, hpre, List.map_append, List.map_replicate]
        · obtain ⟨pre', hA', hpre⟩ := hA.one hpl hk' hx
          refine s_no1 (hT.eq (decide_eq_false fun z => hx (List.cons.inj z).1)) fun H5 s5 => ?_
          refine ⟨_, rfl, _, _, rfl, rfl, ?_⟩
          dsimp only [List.set_cons_succ, List.set_cons_zero]
          refine ⟨t.length - (p + 1), by omega, p + 1, n, pre', ?_, s24.trans s5, by rw [hpre]; exact s5 _ _ e4, by omega, rfl, hA'⟩
          rw [show ((p : Int) + 1) = ((p + 1 : Nat) : Int) by omega]
    · have hpl : p = t.length := by have := of_decide_eq_false hc; omega
      subst hpl
      exact hN _ _ ⟨rfl, s2.trans s3, n, pre, hA, s3 _ _ e2⟩
  · rintro σ' H2 ⟨rfl, s2, n, pre, hA, e2⟩
    have hn := hA.le
    have hpn : (pre.take n).length = n := by rw [List.length_take, hA.len]; omega
    refine ⟨_, rfl, 1, rfl, big (show (1 : Nat) ≤ 1000000 by decide), fun u hu => ?_⟩
    have s3 := same_new hu (.lst [.int (-1)])
    have e3 : upd H2 u (.lst [V.int (-1)]) u = some (.lst [.int (-1)]) := upd_same
    generalize upd H2 u (.lst [V.int (-1)]) = H3 at s3 e3 ⊢
    refine ⟨_, rfl, _, rfl, bigS (by omega), _, rfl, l, _, rfl, .inl (SqL.of (s3 _ _ e2)), _, _, rfl, rfl, u, (t.length : Int) - (n : Int), _, rfl, ?_, e3, by omega, by omega, ?_, fun v hv => ?_⟩
    · rw [List.length_map, hpn, S_len]
    · rw [hs]; show 1 * _ ≤ _; omega
    have tn : ((t.length : Int) - (n : Int)).toNat = t.length - n := by omega
    rw [tn, flat_rep]
    have s4 := same_new hv (.lst (List.replicate (t.length - n) (V.int (-1))))
    have e4 : upd H3 v (.lst (List.replicate (t.length - n) (V.int (-1)))) v = some (.lst (List.replicate (t.length - n) (V.int (-1)))) := upd_same
    generalize upd H3 v (.lst (List.replicate (t.length - n) (V.int (-1)))) = H4 at s4 e4 ⊢
    have s24 := (s2.trans s3).trans s4
    refine ⟨l, v, _, _, rfl, rfl, (s3.trans s4) _ _ e2, e4, ?_, fun r hr2 => ?_⟩
    · rw [List.length_map, hpn, List.length_replicate, hs]; omega
    refine q r _ (s24.trans (same_new hr2 _)) (s24.free hr2) ?_
    rw [upd_same, hA.fin, List.map_append, List.map_replicate]
end
end K4

set_option Elab.async false
set_option linter.all false
set_option maxRecDepth 100000
/-! Texts built of units: what their pieces are. -/
namespace Lw
open PySem L2 Lm
inductive Atm where
  | sg (c : Nat)
  | pt (p : PC)
def atQ : Qc → List Atm
  | .txt l => l.map .sg
  | .part p => [.pt p]
def atQs (qs : List Qc) : List Atm := qs.flatMap atQ
theorem atQs_app (a b : List Qc) : atQs (a ++ b) = atQs a ++ atQs b := List.flatMap_append
theorem atQs_cons (a : Qc) (b : List Qc) : atQs (a :: b) = atQ a ++ atQs b := List.flatMap_cons
def flA (acc : List Nat) : List PC := if acc.isEmpty then [] else [.one (.plain (S acc))]
def mgA (acc : List Nat) : List Atm → List PC
  | [] => flA acc
  | .sg c :: r => mgA (acc ++ [c]) r
  | .pt p :: r => flA acc ++ p :: mgA [] r
theorem mgA_text : ∀ (l acc : List Nat) (r : List Atm), mgA acc (l.map .sg ++ r) = mgA (acc ++ l) r
  | [], acc, r => by rw [List.append_nil]; rfl
  | c :: l, acc, r => by
    show mgA (acc ++ [c]) (l.map .sg ++ r) = _
    rw [mgA_text l, List.append_assoc]
    rfl
def NeQ (qs : List Qc) : Prop := ∀ l, Qc.txt l ∈ qs → l ≠ []
theorem QOk.ne {qs : List Qc} (h : QOk qs) : NeQ qs := fun l hl => (h l hl).2
theorem plain_fl {sg : List (List Nat)} (h : ∀ l ∈ sg, l ≠ []) : plainQ sg = flA sg.flatten := by
  unfold plainQ flA
  cases sg with
  | nil => rfl
  | cons x sg =>
    have hx := h x List.mem_cons_self
    rw [if_neg (by simp), if_neg]
    rw [List.flatten_cons]
    cases x with
    | nil => exact absurd rfl hx
    | cons _ _ => simp
theorem mg_at : ∀ (qs : List Qc) (sg : List (List Nat)), NeQ qs → (∀ l ∈ sg, l ≠ []) → mgGo sg qs = mgA sg.flatten (atQs qs)
  | [], sg, _, h => plain_fl h
  | .txt l :: r, sg, hq, h => by
    rw [atQs_cons]
    show mgGo (sg ++ [l]) r = mgA sg.flatten (l.map .sg ++ atQs r)
    rw [mgA_text, mg_at r (sg ++ [l]) (fun x hx => hq x (List.mem_cons_of_mem _ hx)) fun x hx => by
      rcases List.mem_append.mp hx with z | z
      · exact h x z
      · rw [List.mem_singleton.mp z]; exact hq l List.mem_cons_self]
    rw [List.flatten_append]
    show mgA (sg.flatten ++ (l ++ [])) _ = _
    rw [List.append_nil]
  | .part p :: r, sg, hq, h => by
    rw [atQs_cons]
    show plainQ sg ++ p :: mgGo [] r = flA sg.flatten ++ p :: mgA [] (atQs r)
    rw [plain_fl h, mg_at r [] (fun x hx => hq x (List.mem_cons_of_mem _ hx)) (fun _ z => nomatch z)]
    rfl
/-! ### the pieces of a unit -/
def plS (c : Nat) : Bool := decide (c ≠ 92) && decide (c ≠ 42) && decide (c ≠ 96) && decide (c ≠ 91)
theorem takes_no {c : Nat} {r : List Nat} (h : c ≠ 92) : takesC (c :: r) = false := by
  unfold takesC
  split
  · rename_i z; exact absurd (List.cons.inj z).1 h
  · rfl
theorem step_cons (x : Nat) (t : List Nat) : stepC (x :: t) = if takesC (x :: t) then some (Pc.sign (t.headD 0), t.tail) else if x = 42 then some (Pc.star, t) else if x = 96 then some ((codeC t).getD (.sign 96, t)) else if x = 91 then some (((markC t).or (linkC t)).getD (.sign 91, t)) else some (Pc.sign x, t) := rfl
theorem step_pl {c : Nat} {r : List Nat} (h : plS c = true) : stepC (c :: r) = some (.sign c, r) := by
  unfold plS at h
  simp only [Bool.and_eq_true, decide_eq_true_eq] at h
  obtain ⟨⟨⟨h1, h2⟩, h3⟩, h4⟩ := h
  rw [step_cons, if_neg (by rw [takes_no h1]; simp), if_neg h2, if_neg h3, if_neg h4]
theorem pieces_pl : ∀ (l rest : List Nat), (∀ c ∈ l, plS c = true) → piecesC (l ++ rest) = l.map .sign ++ piecesC rest
  | [], rest, _ => rfl
  | c :: l, rest, h => by
    rw [List.cons_append, pieces_step (step_pl (h c List.mem_cons_self)), pieces_pl l rest fun x hx => h x (List.mem_cons_of_mem _ hx)]
    rfl
theorem step_take {c : Nat} {r : List Nat} (h : takenC.contains c = true) : stepC (92 :: c :: r) = some (.sign c, r) := by
  rw [step_cons, if_pos (takes_iff.mpr ⟨rfl, h⟩)]
  rfl
theorem step_bs {c : Nat} {r : List Nat} (h : takenC.contains c = false) : stepC (92 :: c :: r) = some (.sign 92, c :: r) := by
  rw [step_cons, if_neg (fun z => by rw [(takes_iff.mp z).2] at h; cases h), if_neg (by decide), if_neg (by decide), if_neg (by decide)]
theorem step_code {s r : List Nat} (hs : 96 ∉ s) (hn : s ≠ []) : stepC (96 :: (s ++ 96 :: r)) = some (.code s, r) := by
  rw [step_cons, if_neg (by rw [takes_no (by decide)]; simp), if_neg (by decide), if_pos rfl]
  have : codeC (s ++ 96 :: r) = some (.code s, r) := by
    unfold codeC
    rw [cutAt_app hs]
    cases s with
    | nil => exact absurd rfl hn
    | cons x a => rfl
  rw [this]
  rfl
theorem nameAt_name {c : Nat} {name r : List Nat} (hn : isNameC name = true) (hc : c ∉ name) : nameAt c (name ++ c :: r) = some (smallC name, r) := by
  have hl : name.length ≤ 12 := by
    unfold isNameC at hn
    rw [Bool.and_eq_true, Bool.and_eq_true] at hn
    exact of_decide_eq_true hn.1.2
  unfold nameAt
  have e : (name ++ c :: r).take 13 = name ++ c :: r.take (12 - name.length) := by
    rw [List.take_append, List.take_of_length_le (by omega), show 13 - name.length = (12 - name.length) + 1 by omega]
    rfl
  rw [e, cutAt_app hc]
  show (if isNameC name = true then _ else none) = _
  rw [if_pos hn]
  congr 2
  rw [← List.drop_drop, List.drop_left]
  rfl
theorem step_open {r : List Nat} : stepC (91 :: r) = some (((markC r).or (linkC r)).getD (.sign 91, r)) := by
  rw [step_cons, if_neg (by rw [takes_no (by decide)]; simp), if_neg (by decide), if_neg (by decide), if_pos rfl]
theorem step_mark {name r : List Nat} (hn : isNameC name = true) (hc : 93 ∉ name) : stepC (91 :: 94 :: (name ++ 93 :: r)) = some (.note (smallC name), r) := by
  rw [step_open]
  show some (((nameAt 93 (name ++ 93 :: r)).map _ |>.or _).getD _) = _
  rw [nameAt_name hn hc]
  rfl
theorem mark_no {r : List Nat} (h : r.head? ≠ some 94) : markC r = none := by
  unfold markC
  split
  · exact absurd rfl h
  · rfl
theorem link_eq {r r2 : List Nat} {k : Nat} (h : nxtC r = some (k + 1)) (h2 : r.drop (k + 2) = 40 :: r2) : linkC r = (nameAt 41 r2).map fun (n, r3) => (Pc.link (freeC (r.take (k + 1))) n, r3) := by
  unfold linkC
  rw [h]
  dsimp only
  rw [h2]
  rfl
theorem step_link {raw words name r : List Nat} (h94 : raw.head? ≠ some 94) (hr : raw ≠ []) (hx : ∀ rest, nxtC (raw ++ 93 :: rest) = some raw.length) (hf : freeC raw = words) (hn : isNameC name = true) (hc : 41 ∉ name) :
    stepC (91 :: (raw ++ 93 :: 40 :: (name ++ 41 :: r))) = some (.link words (smallC name), r) := by
  rw [step_open]
  cases raw with
  | nil => exact absurd rfl hr
  | cons x raw =>
    rw [mark_no (by rw [List.cons_append]; exact h94)]
    have : linkC ((x :: raw) ++ 93 :: 40 :: (name ++ 41 :: r)) = some (.link words (smallC name), r) := by
      have e1 : ((x :: raw) ++ 93 :: 40 :: (name ++ 41 :: r)).drop (raw.length + 2) = 40 :: (name ++ 41 :: r) := by
        rw [show raw.length + 2 = (x :: raw).length + 1 by rw [List.length_cons], ← List.drop_drop, List.drop_left]
        rfl
      have e2 : ((x :: raw) ++ 93 :: 40 :: (name ++ 41 :: r)).take (raw.length + 1) = x :: raw := by
        rw [show raw.length + 1 = (x :: raw).length by rw [List.length_cons], List.take_left]
      rw [link_eq (hx _) e1, nameAt_name hn hc, e2, hf]
      rfl
    rw [this]
    rfl
theorem link_no {r : List Nat} {k : Nat} (h : nxtC r = some k) (h2 : (r.drop (k + 1)).head? ≠ some 40) : linkC r = none := by
  unfold linkC
  rw [h]
  cases k with
  | zero => rfl
  | succ k =>
    show (match r.drop (k + 2) with | 40 :: r2 => (nameAt 41 r2).map fun (n, r3) => (Pc.link (freeC (r.take (k + 1))) n, r3) | _ => none) = none
    split
    · rename_i e; rw [show k + 1 + 1 = k + 2 from rfl, e] at h2; exact absurd rfl h2
    · rfl
theorem step_no {r : List Nat} (h1 : markC r = none) (h2 : linkC r = none) : stepC (91 :: r) = some (.sign 91, r) := by
  rw [step_open, h1, h2]
  rfl
/-! ### the words of a link -/
def lkPairs : List (List Nat × List Nat) := [([97], [97]), ([92, 93], [93]), ([42], [42]), ([96], [96]), ([91], [91]), ([92, 92], [92]), ([92, 120], [92, 120]), ([32, 98], [32, 98]), ([92, 94], [94]), ([92, 45], [45]), ([81], [81]), ([40], [40]), ([92, 42], [42]), ([122, 58], [122, 58])]
theorem free_one' {x : Nat} {r : List Nat} (h : takesC (x :: r) = false) : freeC (x :: r) = x :: freeC r := by
  cases r with
  | nil => rfl
  | cons y r =>
    show (if x = 92 ∧ takenC.contains y = true then y :: freeC r else x :: freeC (y :: r)) = _
    rw [if_neg fun z => by rw [takes_iff.mpr z] at h; cases h]
theorem free_take' {x y : Nat} {r : List Nat} (h : takesC (x :: y :: r) = true) : freeC (x :: y :: r) = y :: freeC r := by
  show (if x = 92 ∧ takenC.contains y = true then y :: freeC r else x :: freeC (y :: r)) = _
  rw [if_pos (takes_iff.mp h)]
def LkP (p : List Nat × List Nat) : Prop := (∀ rest, nxtC (p.1 ++ rest) = (nxtC rest).map (· + p.1.length) ∧ freeC (p.1 ++ rest) = p.2 ++ freeC rest) ∧ p.1 ≠ [] ∧ p.1.head? ≠ some 94
theorem lk_one {c : Nat} (h : c ≠ 92) (h2 : c ≠ 93) (h3 : c ≠ 94) : LkP ([c], [c]) := ⟨fun rest => ⟨nxt_one (takes_no h) h2, free_one' (takes_no h)⟩, by simp, by simpa using h3⟩
theorem lk_take {c : Nat} (h : takenC.contains c = true) : LkP ([92, c], [c]) := ⟨fun rest => ⟨nxt_take (takes_iff.mpr ⟨rfl, h⟩), free_take' (takes_iff.mpr ⟨rfl, h⟩)⟩, by simp, by simp⟩
theorem map_add (o : Option Nat) (a b : Nat) : (o.map (· + a)).map (· + b) = o.map (· + (a + b)) := by
  cases o with
  | none => rfl
  | some x => show some (x + a + b) = some (x + (a + b)); rw [Nat.add_assoc]
theorem lk_two {c d : Nat} (hk : ∀ r, takesC (c :: d :: r) = false) (h2 : c ≠ 93) (h3 : c ≠ 94) (h4 : d ≠ 92) (h5 : d ≠ 93) : LkP ([c, d], [c, d]) := ⟨fun rest => by
  constructor
  · show nxtC (c :: d :: rest) = _
    rw [nxt_one (hk rest) h2, nxt_one (takes_no h4) h5, map_add]
    rfl
  · show freeC (c :: d :: rest) = _
    rw [free_one' (hk rest), free_one' (takes_no h4)]
    rfl, by simp, by simpa using h3⟩
theorem lk_all : ∀ p ∈ lkPairs, LkP p := by
  intro p hp
  unfold lkPairs at hp
  simp only [List.mem_cons, List.not_mem_nil, or_false] at hp
  rcases hp with rfl | rfl | rfl | rfl | rfl | rfl | rfl | rfl | rfl | rfl | rfl | rfl | rfl | rfl
  · exact lk_one (by decide) (by decide) (by decide)
  · exact lk_take (by decide)
  · exact lk_one (by decide) (by decide) (by decide)
  · exact lk_one (by decide) (by decide) (by decide)
  · exact lk_one (by decide) (by decide) (by decide)
  · exact lk_take (by decide)
  · exact lk_two (fun r => rfl) (by decide) (by decide) (by decide) (by decide)
  · exact lk_two (fun r => takes_no (by decide)) (by decide) (by decide) (by decide) (by decide)
  · exact lk_take (by decide)
  · exact lk_take (by decide)
  · exact lk_one (by decide) (by decide) (by decide)
  · exact lk_one (by decide) (by decide) (by decide)
  · exact lk_take (by decide)
  · exact lk_two (fun r => takes_no (by decide)) (by decide) (by decide) (by decide) (by decide)
theorem lk_flat : ∀ (l : List (List Nat × List Nat)), (∀ p ∈ l, LkP p) → ∀ rest, nxtC ((l.map (·.1)).flatten ++ rest) = (nxtC rest).map (· + (l.map (·.1)).flatten.length) ∧ freeC ((l.map (·.1)).flatten ++ rest) = (l.map (·.2)).flatten ++ freeC rest
  | [], _, rest => ⟨by show nxtC rest = (nxtC rest).map (· + 0); cases nxtC rest <;> rfl, rfl⟩
  | p :: l, h, rest => by
    have ih := lk_flat l (fun q hq => h q (List.mem_cons_of_mem _ hq)) rest
    have hp := (h p List.mem_cons_self).1 ((l.map (·.1)).flatten ++ rest)
    rw [List.map_cons, List.map_cons, List.flatten_cons, List.flatten_cons, List.append_assoc, List.append_assoc, hp.1, hp.2, ih.1, ih.2, map_add, List.length_append, Nat.add_comm]
    exact ⟨rfl, rfl⟩
theorem lk_raw {l : List (List Nat × List Nat)} (h : ∀ p ∈ l, LkP p) (hl : l ≠ []) : ((l.map (·.1)).flatten).head? ≠ some 94 ∧ (l.map (·.1)).flatten ≠ [] ∧ (∀ rest, nxtC ((l.map (·.1)).flatten ++ 93 :: rest) = some (l.map (·.1)).flatten.length) ∧ freeC (l.map (·.1)).flatten = (l.map (·.2)).flatten := by
  refine ⟨?_, ?_, fun rest => ?_, ?_⟩
  · cases l with
    | nil => exact absurd rfl hl
    | cons p l =>
      obtain ⟨_, h1, h2⟩ := h p List.mem_cons_self
      rw [List.map_cons, List.flatten_cons]
      cases he : p.1 with
      | nil => exact absurd he h1
      | cons x t => rw [he] at h2; exact h2
  · cases l with
    | nil => exact absurd rfl hl
    | cons p l =>
      obtain ⟨_, h1, _⟩ := h p List.mem_cons_self
      rw [List.map_cons, List.flatten_cons]
      simp [h1]
  · rw [(lk_flat l h (93 :: rest)).1, nxt_bar]
    show some (0 + _) = _
    rw [Nat.zero_add]
  · have := (lk_flat l h []).2
    rw [List.append_nil, show freeC [] = [] from rfl, List.append_nil] at this
    exact this
/-! ### units -/
structure Gd (raw : List Nat) (A : List Atm) : Prop where
  hd : ∃ c r, raw = c :: r ∧ c ≠ 40
  run : ∀ rest, rest.head? ≠ some 40 → ∃ pcs, piecesC (raw ++ rest) = pcs ++ piecesC rest ∧ (∀ p ∈ pcs, p ≠ Pc.star) ∧ atQs (pcs.map toQ) = A ∧ pcs ≠ []
theorem Gd.head {a : List Nat} {A : List Atm} (h : Gd a A) (rest : List Nat) : (a ++ rest).head? ≠ some 40 := by
  obtain ⟨c, r, rfl, hc⟩ := h.hd
  simpa using hc
theorem Gd.app {a b : List Nat} {A B : List Atm} (h : Gd a A) (k : Gd b B) : Gd (a ++ b) (A ++ B) := by
  refine ⟨?_, fun rest hr => ?_⟩
  · obtain ⟨c, r, rfl, hc⟩ := h.hd
    exact ⟨c, r ++ b, rfl, hc⟩
  · obtain ⟨p1, e1, n1, a1, m1⟩ := h.run (b ++ rest) (k.head rest)
    obtain ⟨p2, e2, n2, a2, m2⟩ := k.run rest hr
    refine ⟨p1 ++ p2, by rw [List.append_assoc, e1, e2, List.append_assoc], fun p hp => ?_, by rw [List.map_append, atQs_app, a1, a2], by simp [m1]⟩
    rcases List.mem_append.mp hp with z | z
    · exact n1 p z
    · exact n2 p z
theorem at_signs (l : List Nat) : atQs ((l.map Pc.sign).map toQ) = l.map .sg := by
  induction l with
  | nil => rfl
  | cons x l ih => rw [List.map_cons, List.map_cons, atQs_cons, ih]; rfl
theorem Gd.signs {l : List Nat} (h : ∀ c ∈ l, plS c = true) (hd : ∃ c r, l = c :: r ∧ c ≠ 40) : Gd l (l.map .sg) :=
  ⟨hd, fun rest _ => by
    refine ⟨l.map .sign, pieces_pl l rest h, fun p hp => ?_, at_signs l, ?_⟩
    · obtain ⟨x, _, rfl⟩ := List.mem_map.mp hp
      exact fun z => nomatch z
    · obtain ⟨c, r, rfl, _⟩ := hd
      simp⟩
/-- a first piece, then signs -/
theorem Gd.step {raw l : List Nat} {p : Pc} (hd : ∃ c r, raw = c :: r ∧ c ≠ 40) (hp : p ≠ .star) (hs : ∀ rest, rest.head? ≠ some 40 → stepC (raw ++ rest) = some (p, l ++ rest)) (h : ∀ c ∈ l, plS c = true) : Gd raw (atQ (toQ p) ++ l.map .sg) :=
  ⟨hd, fun rest hr => by
    refine ⟨p :: l.map .sign, by rw [pieces_step (hs rest hr), pieces_pl l rest h]; rfl, fun q hq => ?_, by rw [List.map_cons, atQs_cons, at_signs], by simp⟩
    rcases List.mem_cons.mp hq with z | z
    · rw [z]; exact hp
    · obtain ⟨x, _, rfl⟩ := List.mem_map.mp z
      exact fun z => nomatch z⟩
theorem gd_take {c : Nat} (h : takenC.contains c = true) : Gd [92, c] [.sg c] := Gd.step (l := []) (p := .sign c) ⟨92, _, rfl, by decide⟩ (fun z => nomatch z) (fun rest _ => step_take h) (fun _ z => nomatch z)
theorem gd_bs {c : Nat} (h : takenC.contains c = false) (hc : plS c = true) : Gd [92, c, 117] [.sg 92, .sg c, .sg 117] := Gd.step (l := [c, 117]) (p := .sign 92) ⟨92, _, rfl, by decide⟩ (fun z => nomatch z) (fun rest _ => step_bs h) (fun x hx => by
  simp only [List.mem_cons, List.not_mem_nil, or_false] at hx
  rcases hx with rfl | rfl
  · exact hc
  · rfl)
theorem gd_code {s : List Nat} (hs : 96 ∉ s) (hn : s ≠ []) : Gd (96 :: (s ++ [96])) [.pt (.one (.code (S s)))] := Gd.step (l := []) (p := .code s) ⟨96, _, rfl, by decide⟩ (fun z => nomatch z) (fun rest _ => by rw [List.cons_append, List.append_assoc]; exact step_code hs hn) (fun _ z => nomatch z)
theorem gd_mark {name l : List Nat} (hn : isNameC name = true) (hc : 93 ∉ name) (hl : ∀ c ∈ l, plS c = true) : Gd (91 :: 94 :: (name ++ 93 :: l)) (.pt (.one (.note (S (smallC name)))) :: l.map .sg) := Gd.step (l := l) (p := .note (smallC name)) ⟨91, _, rfl, by decide⟩ (fun z => nomatch z) (fun rest _ => by
  show stepC (91 :: 94 :: ((name ++ 93 :: l) ++ rest)) = _
  rw [List.append_assoc]
  exact step_mark hn hc) hl
theorem gd_link {ps : List (List Nat × List Nat)} {name : List Nat} (h : ∀ p ∈ ps, p ∈ lkPairs) (hl : ps ≠ []) (hn : isNameC name = true) (hc : 41 ∉ name) : Gd (91 :: ((ps.map (·.1)).flatten ++ 93 :: 40 :: (name ++ [41]))) [.pt (.one (.link (S (ps.map (·.2)).flatten) (S (smallC name))))] := by
  obtain ⟨h1, h2, h3, h4⟩ := lk_raw (fun p hp => lk_all p (h p hp)) hl
  refine Gd.step (l := []) (p := .link _ (smallC name)) ⟨91, _, rfl, by decide⟩ (fun z => nomatch z) (fun rest _ => ?_) (fun _ z => nomatch z)
  rw [show (91 :: ((ps.map (·.1)).flatten ++ 93 :: 40 :: (name ++ [41]))) ++ rest = 91 :: ((ps.map (·.1)).flatten ++ 93 :: 40 :: (name ++ 41 :: rest)) by simp]
  exact step_link h1 h2 h3 h4 hn hc
/-! ### nearly links and marks -/
theorem nxt_plain : ∀ (u rest : List Nat), (∀ c ∈ u, c ≠ 92 ∧ c ≠ 93) → nxtC (u ++ 93 :: rest) = some u.length
  | [], rest, _ => nxt_bar
  | x :: u, rest, h => by
    have hx := h x List.mem_cons_self
    rw [List.cons_append, nxt_one (takes_no hx.1) hx.2, nxt_plain u rest fun c hc => h c (List.mem_cons_of_mem _ hc)]
    rfl
theorem link_zero {r : List Nat} (h : nxtC r = some 0) : linkC r = none := by
  unfold linkC
  rw [h]
theorem link_name {r r2 : List Nat} {k : Nat} (h : nxtC r = some (k + 1)) (h2 : r.drop (k + 2) = 40 :: r2) (h3 : nameAt 41 r2 = none) : linkC r = none := by
  rw [link_eq h h2, h3]
  rfl
theorem nameAt_bad {c : Nat} {l a b : List Nat} (h : cutAt c (l.take 13) = some (a, b)) (hn : isNameC a = false) : nameAt c l = none := by
  unfold nameAt
  rw [h]
  show (if isNameC a = true then _ else none) = none
  rw [hn]
  rfl
theorem nameAt_far {c : Nat} {l : List Nat} (h : cutAt c (l.take 13) = none) : nameAt c l = none := by
  unfold nameAt
  rw [h]
theorem mark_bad {r : List Nat} (h : nameAt 93 r = none) : markC (94 :: r) = none := by
  show (nameAt 93 r).map _ = none
  rw [h]
  rfl
theorem gd_odd {l : List Nat} (hl : ∀ c ∈ l, plS c = true) (hm : ∀ rest : List Nat, rest.head? ≠ some 40 → markC (l ++ rest) = none ∧ linkC (l ++ rest) = none) : Gd (91 :: l) ((91 :: l).map .sg) :=
  Gd.step (l := l) (p := .sign 91) ⟨91, _, rfl, by decide⟩ (fun z => nomatch z) (fun rest hr => step_no (hm rest hr).1 (hm rest hr).2) hl
def oddL : List (List Nat) := [[91, 120, 93], [93], [91, 93, 40, 97, 98, 41], [91, 97, 93, 40, 98, 32, 99, 41], [91, 94, 97, 32, 98, 93], [91, 97, 93, 32, 40, 98, 41], [91, 94, 97, 98, 99, 100, 101, 102, 103, 104, 105, 106, 107, 108, 109, 93], [91, 97, 93, 40, 97, 98, 99, 100, 101, 102, 103, 104, 105, 106, 107, 108, 109, 41], [91, 97, 93, 40, 41], [91, 94, 93]]
theorem gd_odds : ∀ l ∈ oddL, Gd l (l.map .sg) := by
  intro l hl
  unfold oddL at hl
  simp only [List.mem_cons, List.not_mem_nil, or_false] at hl
  rcases hl with rfl | rfl | rfl | rfl | rfl | rfl | rfl | rfl | rfl | rfl
  · exact gd_odd (by decide) fun rest hr => ⟨mark_no (by simp), link_no (k := 1) (nxt_plain [120] rest (by decide)) hr⟩
  · exact Gd.signs (by decide) ⟨93, _, rfl, by decide⟩
  · exact gd_odd (by decide) fun rest hr => ⟨mark_no (by simp), link_zero nxt_bar⟩
  · exact gd_odd (by decide) fun rest hr => ⟨mark_no (by simp), link_name (k := 0) (nxt_plain [97] _ (by decide)) rfl (nameAt_bad (a := [98, 32, 99]) (b := rest.take 9) rfl (by decide))⟩
  · exact gd_odd (by decide) fun rest hr => ⟨mark_bad (nameAt_bad (a := [97, 32, 98]) (b := rest.take 9) rfl (by decide)), link_no (k := 4) (nxt_plain [94, 97, 32, 98] rest (by decide)) hr⟩
  · exact gd_odd (by decide) fun rest hr => ⟨mark_no (by simp), link_no (k := 1) (nxt_plain [97] _ (by decide)) (by simp)⟩
  · exact gd_odd (by decide) fun rest hr => ⟨mark_bad (nameAt_far rfl), link_no (k := 14) (nxt_plain [94, 97, 98, 99, 100, 101, 102, 103, 104, 105, 106, 107, 108, 109] rest (by decide)) hr⟩
  · exact gd_odd (by decide) fun rest hr => ⟨mark_no (by simp), link_name (k := 0) (nxt_plain [97] _ (by decide)) rfl (nameAt_far rfl)⟩
  · exact gd_odd (by decide) fun rest hr => ⟨mark_no (by simp), link_name (k := 0) (nxt_plain [97] _ (by decide)) rfl (nameAt_bad (a := []) (b := rest.take 12) rfl (by decide))⟩
  · exact gd_odd (by decide) fun rest hr => ⟨mark_bad (nameAt_bad (a := []) (b := rest.take 12) rfl (by decide)), link_no (k := 1) (nxt_plain [94] rest (by decide)) hr⟩
/-! ### blocks: units, and strong ones -/
theorem ws_no : ∀ (ps : List Pc) (r : List Pc), (∀ p ∈ ps, p ≠ Pc.star) → wsGo none (ps ++ r) = ps.map toQ ++ wsGo none r
  | [], _, _ => rfl
  | p :: ps, r, h => by rw [List.cons_append, ws_none_one (h p List.mem_cons_self), ws_no ps r fun q hq => h q (List.mem_cons_of_mem _ hq)]; rfl
theorem ws_in : ∀ (ps : List Pc) (r : List Pc) (inn : List Qc), (∀ p ∈ ps, p ≠ Pc.star) → wsGo (some inn) (ps ++ r) = wsGo (some (inn ++ ps.map toQ)) r
  | [], r, inn, _ => by rw [List.map_nil, List.append_nil]; rfl
  | p :: ps, r, inn, h => by rw [List.cons_append, ws_some_one (h p List.mem_cons_self), ws_in ps r _ fun q hq => h q (List.mem_cons_of_mem _ hq), List.append_assoc]; rfl
structure Bk (raw : List Nat) (A : List Atm) : Prop where
  hd : ∃ c r, raw = c :: r ∧ c ≠ 40
  run : ∀ rest : List Nat, rest.head? ≠ some 40 → ∃ pcs, piecesC (raw ++ rest) = pcs ++ piecesC rest ∧ ∀ r, ∃ qs, wsGo none (pcs ++ r) = qs ++ wsGo none r ∧ atQs qs = A
theorem Bk.head {a : List Nat} {A : List Atm} (h : Bk a A) (rest : List Nat) : (a ++ rest).head? ≠ some 40 := by
  obtain ⟨c, r, rfl, hc⟩ := h.hd
  simpa using hc
theorem Gd.bk {a : List Nat} {A : List Atm} (h : Gd a A) : Bk a A := ⟨h.hd, fun rest hr => by
  obtain ⟨pcs, e, n, ea, _⟩ := h.run rest hr
  exact ⟨pcs, e, fun r => ⟨pcs.map toQ, ws_no pcs r n, ea⟩⟩⟩
theorem Bk.app {a b : List Nat} {A B : List Atm} (h : Bk a A) (k : Bk b B) : Bk (a ++ b) (A ++ B) := by
  refine ⟨?_, fun rest hr => ?_⟩
  · obtain ⟨c, r, rfl, hc⟩ := h.hd
    exact ⟨c, r ++ b, rfl, hc⟩
  · obtain ⟨p1, e1, n1⟩ := h.run (b ++ rest) (k.head rest)
    obtain ⟨p2, e2, n2⟩ := k.run rest hr
    refine ⟨p1 ++ p2, by rw [List.append_assoc, e1, e2, List.append_assoc], fun r => ?_⟩
    obtain ⟨q1, f1, g1⟩ := n1 (p2 ++ r)
    obtain ⟨q2, f2, g2⟩ := n2 r
    exact ⟨q1 ++ q2, by rw [List.append_assoc, f1, f2, List.append_assoc], by rw [atQs_app, g1, g2]⟩
theorem step_star {r : List Nat} : stepC (42 :: r) = some (.star, r) := by
  rw [step_cons, if_neg (by rw [takes_no (by decide)]; simp), if_pos rfl]
theorem ne_toQ {ps : List Pc} : NeQ (ps.map toQ) := fun l hl => by
  obtain ⟨p, _, e⟩ := List.mem_map.mp hl
  cases p <;> cases e <;> simp
theorem Gd.strong {a : List Nat} {A : List Atm} (h : Gd a A) : Bk (42 :: (a ++ [42])) [.pt (.strong (ones (mgA [] A)))] := ⟨⟨42, _, rfl, by decide⟩, fun rest hr => by
  obtain ⟨pcs, e, n, ea, hne⟩ := h.run (42 :: rest) (by simp)
  refine ⟨.star :: (pcs ++ [.star]), ?_, fun r => ⟨[strongQ (pcs.map toQ)], ?_, ?_⟩⟩
  · rw [List.cons_append, List.append_assoc, pieces_step step_star]
    show _ = Pc.star :: ((pcs ++ [Pc.star]) ++ piecesC rest)
    rw [show ([42] ++ rest : List Nat) = 42 :: rest from rfl, e, pieces_step step_star, List.append_assoc]
    rfl
  · show wsGo (some []) ((pcs ++ [Pc.star]) ++ r) = _
    rw [List.append_assoc, ws_in pcs _ [] n]
    rfl
  · unfold strongQ
    rw [if_neg (by simp [hne])]
    show [Atm.pt (.strong (ones (mgGo [] (pcs.map toQ))))] ++ [] = _
    rw [mg_at _ [] ne_toQ (fun _ z => nomatch z), ea]
    rfl⟩
theorem bk_stars : Bk [42, 42] [.sg 42, .sg 42] := ⟨⟨42, _, rfl, by decide⟩, fun rest hr => ⟨[.star, .star], by
  show piecesC (42 :: 42 :: rest) = _
  rw [pieces_step step_star, pieces_step step_star]
  rfl, fun r => ⟨[.txt [42, 42]], rfl, rfl⟩⟩⟩
/-- what may stand last -/
def Lst (l : List Nat) : Prop := l.head? ≠ some 40 ∧ atQs (wsGo none (piecesC l)) = l.map .sg
theorem lst_nil : Lst [] := ⟨by simp, by rw [pieces_nil]; rfl⟩
theorem lst_signs {c : Nat} {l : List Nat} (hc : c ≠ 40) (h : stepC (c :: l) = some (.sign c, l)) (hl : ∀ x ∈ l, plS x = true) : Lst (c :: l) := ⟨by simpa using hc, by
  have e : piecesC (c :: l) = .sign c :: (l.map .sign ++ []) := by
    rw [pieces_step h]
    have := pieces_pl l [] hl
    rw [List.append_nil, pieces_nil] at this
    rw [this]
  rw [e]
  have : wsGo none (Pc.sign c :: (l.map .sign ++ [])) = (Pc.sign c :: l.map .sign).map toQ ++ wsGo none [] := ws_no (Pc.sign c :: l.map .sign) [] fun p hp => by
    rcases List.mem_cons.mp hp with z | z
    · rw [z]; exact fun y => nomatch y
    · obtain ⟨x, _, rfl⟩ := List.mem_map.mp z
      exact fun y => nomatch y
  rw [this]
  show atQs (((c :: l).map Pc.sign).map toQ ++ []) = _
  rw [List.append_nil, at_signs]⟩
def lastL : List (List Nat) := [[], [], [], [42], [96], [91], [92], [96, 96], [91, 97, 98], [91, 94, 97, 98], [91, 97, 93, 40, 98]]
theorem lst_all : ∀ l ∈ lastL, Lst l := by
  intro l hl
  unfold lastL at hl
  simp only [List.mem_cons, List.not_mem_nil, or_false] at hl
  rcases hl with rfl | rfl | rfl | rfl | rfl | rfl | rfl | rfl | rfl | rfl | rfl
  · exact lst_nil
  · exact lst_nil
  · exact lst_nil
  · exact ⟨by simp, by rw [pieces_step step_star, pieces_nil]; rfl⟩
  · exact lst_signs (by decide) rfl (by decide)
  · exact lst_signs (by decide) rfl (by decide)
  · exact lst_signs (by decide) rfl (by decide)
  · refine ⟨by simp, ?_⟩
    rw [pieces_step (p := .sign 96) (r := [96]) rfl, pieces_step (p := .sign 96) (r := []) rfl, pieces_nil]
    rfl
  · exact lst_signs (by decide) rfl (by decide)
  · exact lst_signs (by decide) rfl (by decide)
  · exact lst_signs (by decide) rfl (by decide)
theorem parts_built {t l : List Nat} {A : List Atm} (h : Bk t A) (hl : Lst l) (ha : Asc (t ++ l)) : partsC (t ++ l) = mgA [] (A ++ l.map .sg) := by
  obtain ⟨pcs, e, k⟩ := h.run l hl.1
  obtain ⟨qs, e2, hA⟩ := k (piecesC l)
  unfold partsC
  have hok := ws_ok (piecesC (t ++ l)) none (pieces_ok _ _ (Nat.le_refl _) ha) (fun _ z => nomatch z)
  rw [mg_at _ [] hok.ne (fun _ z => nomatch z), e, e2, atQs_app, hA, hl.2]
  rfl
end Lw

set_option Elab.async false
set_option linter.all false
set_option maxRecDepth 100000
set_option maxHeartbeats 2000000
namespace K4
open PySem L2 Lm Lw
section
variable {P : Program} {w : World} {K : PySem.W.Frag} {mg : Str → Option Value} {base : Heap} {c : Cp} {BT : Addr}
/-! code_at -/
abbrev sCodeAt : Stmt := top 25
theorem scCodeAt : FnScope ["text", "place", "end"] ["text", "place"] (defScope sCodeAt) := ⟨rfl, rfl, rfl, by decide +kernel, rfl, by decide +kernel, by decide +kernel⟩
def spCodeAt (c : Cp) : Sp := fun vs H Q _ => ∃ (t : List Nat) (p : Nat), vs = [vS t, .int (p : Int)] ∧ p < t.length ∧ t.length ≤ 100000 ∧ Asc t ∧ Fnd c t.length H Q (codeC (t.drop (p + 1)))
theorem ok_codeAt {f : Addr} {fd : FuncData} (F : Fun K "code_at" "code_at" sCodeAt f fd) (T : TxI K mg c BT) (D_Code : New P w K mg base 1 "Code" c.Code ["self", "signs"] (spInit1 c.Code "signs")) : FnOk P w K mg base CX0 3 f fd ["text", "place"] (spCodeAt c) := by
  have sc := scCodeAt
  refine F.ok sc (fun vs H Q E h => ?_) (fun cdv A outer s H vs Q E hr h => ?_)
  · obtain ⟨t, p, rfl, _⟩ := h
    rfl
  obtain ⟨t, p, rfl, hp, hl, ha, q⟩ := h
  refine of_XB (xbc (xset (i := 2) sc.nd rfl (Or.inl rfl) (xm PySem.F.plainAttrs_str PySem.F.slot_str_find PySem.F.type_str_find mt_find3 (xv 0) (xac xstr (xac (xop op_add (xv 1) xint) xa0))))
    (xbc (xif (xor (xcmpT op_lt (xv 2) xint (nomark _)) (xor1 (xcmpT op_eq (xv 2) (xop op_add (xv 1) xint) (nomark _)))).xt (xb1 (xret xnon)) xb0)
    (xb1 (xret (xtup (xac (xnew D_Code (hr.mono (by omega)) (xac (xsl sl_str (xv 0) (xo1 (xop op_add (xv 1) xint)) (xo1 (xv 2))) xa0)) (xac (xop op_add (xv 2) xint) xa0))))))) ?_
  rw [show start ["text", "place", "end"] [vS t, V.int (p : Int)] = [some (vS t), some (V.int (p : Int)), none] from rfl]
  refine ⟨_, rfl, rfl, _, rfl, _, _, rfl, rfl, t, 96, p + 1, rfl, rfl, ?_⟩
  dsimp only [gName, List.set_cons_succ, List.set_cons_zero]
  have tt : ∀ e : Int, Tells (tOr (tTest (tOp (rI0 fun i j => .bl (decide (i < j))) (tVar 2) (tC (.int 0)))) (tTest (tOp rEq (tVar 2) (tOp (rI0 fun i j => .int (i + j)) (tVar 1) (tC (.int 1)))))) [some (vS t), some (V.int (p : Int)), some (V.int e)] H (decide (e < 0) || decide (e = (p : Int) + 1)) := fun e => t_or _ _ (t_cmp (ev_v rfl) ev_c rfl) fun _ H1 _ => t_eqi (ev_v rfl) (ev_op (ev_v rfl) ev_c rfl)
  have hw : (t.take t.length).drop (p + 1) = t.drop (p + 1) := by rw [List.take_length]
  cases hc : cutAt 96 (t.drop (p + 1)) with
  | none =>
    rw [fnd_none (by rw [hw]; exact hc)]
    have e0 : codeC (t.drop (p + 1)) = none := by unfold codeC; rw [hc]
    rw [e0] at q
    exact s_yes ((tt _).eq (by rw [decide_eq_true (by decide)]; rfl)) fun H1 s1 => q H1 s1
  | some ab =>
    obtain ⟨a, b⟩ := ab
    rw [fnd_some (by rw [hw]; exact hc)]
    obtain ⟨he, _⟩ := cutAt_eq hc
    have hlen := congrArg List.length he
    rw [List.length_drop, List.length_append, List.length_cons] at hlen
    cases a with
    | nil =>
      have e0 : codeC (t.drop (p + 1)) = none := by unfold codeC; rw [hc]
      rw [e0] at q
      refine s_yes ((tt _).eq ?_) fun H1 s1 => q H1 s1
      rw [Bool.or_eq_true]
      exact .inr (decide_eq_true (by rw [List.length_nil]; omega))
    | cons x a =>
      have e0 : codeC (t.drop (p + 1)) = some (.code (x :: a), b) := by unfold codeC; rw [hc]
      rw [e0] at q
      have hal : 0 < (x :: a).length := by rw [List.length_cons]; omega
      have has : Asc (x :: a) := ((ha.drop (p + 1)).sub fun c hc => by rw [he]; exact List.mem_append_left _ hc)
      generalize x :: a = a at *
      refine s_no1 ((tt _).eq ?_) fun H1 s1 => ?_
      · rw [decide_eq_false (by omega), decide_eq_false (by omega)]; rfl
      refine ev_sl (l := t) (a := a) (by omega) (ev_v rfl) (evo_s (i := ((p + 1 : Nat) : Int)) (ev_op (ev_v rfl) ev_c rfl)) (evo_s (i := ((p + 1 + a.length : Nat) : Int)) (ev_v rfl)) ?_ _ ?_
      · rw [cut_any, he, show p + 1 + a.length - (p + 1) = a.length by omega, List.take_left]
      intro y dx hy hdx hne
      refine ⟨y, dx, _, rfl, upd_same, rfl, _, rfl, _, _, rfl, rfl, big (show (2 : Nat) ≤ 1000000 by decide), fun tp htp => ?_⟩
      obtain ⟨m1, m2⟩ := made1 (C := c.Code) (o := .ins c.Code dx [("signs", vS a)]) s1 hy hdx
      refine q tp (.ref y) _ (m1.trans (same_new htp _)) ?_ ⟨y, rfl, strG_S has (by omega), dx, dif_new htp _ _ _ m2⟩
      rw [upd_same]
      show some (HO.tup [V.ref y, V.int (((p + 1 + a.length : Nat) : Int) + 1)]) = _
      rw [show ((p + 1 + a.length : Nat) : Int) + 1 = ((t.length - b.length : Nat) : Int) by omega]
/-! mark_at -/
abbrev sMarkAt : Stmt := top 26
theorem scMarkAt : FnScope ["text", "place", "begin", "end"] ["text", "place"] (defScope sMarkAt) := ⟨rfl, rfl, rfl, by decide +kernel, rfl, by decide +kernel, by decide +kernel⟩
def spMarkAt (c : Cp) : Sp := fun vs H Q _ => ∃ (t : List Nat) (p : Nat) (r : List Nat), vs = [vS t, .int (p : Int)] ∧ t.drop p = 91 :: r ∧ t.length ≤ 100000 ∧ Asc t ∧ Fnd c t.length H Q (markC r)
theorem ok_markAt {f : Addr} {fd : FuncData} (F : Fun K "mark_at" "mark_at" sMarkAt f fd) (T : TxI K mg c BT) (D_Mark : New P w K mg base 1 "Mark" c.Mark ["self", "name"] (spInit1 c.Mark "name"))
    (D_is_name : Def P w K mg base 1 "is_name" ["thing"] spNameD) (D_name_of : Def P w K mg base 2 "name_of" ["thing"] spNameOf) : FnOk P w K mg base CX0 3 f fd ["text", "place"] (spMarkAt c) := by
  have sc := scMarkAt
  refine F.ok sc (fun vs H Q E h => ?_) (fun cdv A outer s H vs Q E hr h => ?_)
  · obtain ⟨t, p, r, rfl, _⟩ := h
    rfl
  obtain ⟨t, p, r, rfl, hd, hl, ha, q⟩ := h
  refine of_XB (xbc (xif (xnotT (xvalT (xm PySem.F.plainAttrs_str PySem.F.slot_str_startswith PySem.F.type_str_startswith mt_startsAt (xv 0) (xac xstr (xac (xv 1) xa0))))) (xb1 (xret xnon)) xb0)
    (xbc (xset (i := 2) sc.nd rfl (Or.inl rfl) (xop op_add (xv 1) xint))
    (xbc (xset (i := 3) sc.nd rfl (Or.inl rfl) (xm PySem.F.plainAttrs_str PySem.F.slot_str_find PySem.F.type_str_find mt_find4 (xv 0) (xac xstr (xac (xv 2) (xac (xop op_add (xop op_add (xv 2) (xgI T.g_LONGEST_NAME)) xint) xa0)))))
    (xbc (xif (xor (xcmpT op_lt (xv 3) xint (nomark _)) (xor1 (xnotT (xvalT (xcD D_is_name (hr.mono (by omega)) (xac (xsl sl_str (xv 0) (xo1 (xv 2)) (xo1 (xv 3))) xa0)))))).xt (xb1 (xret xnon)) xb0)
    (xb1 (xret (xtup (xac (xnew D_Mark (hr.mono (by omega)) (xac (xcD D_name_of (hr.mono (by omega)) (xac (xsl sl_str (xv 0) (xo1 (xv 2)) (xo1 (xv 3))) xa0)) xa0)) (xac (xop op_add (xv 3) xint) xa0))))))))) ?_
  rw [show start ["text", "place", "begin", "end"] [vS t, V.int (p : Int)] = [some (vS t), some (V.int (p : Int)), none, none] from rfl]
  have tS : Tells (tNot (tB (tBM K "str" rStartsAt (tVar 0) (tCons (tC (.str "[^")) (tCons (tVar 1) tNil))))) [some (vS t), some (V.int (p : Int)), none, none] H (!([91, 94] : List Nat).isPrefixOf (t.drop p)) := t_not _ (t_startsAt (z := [91, 94]) rfl (by simp) (ev_v rfl) (ev_v rfl))
  rw [hd] at tS
  by_cases hr : ∃ r', r = 94 :: r'
  rotate_left
  · have e0 : markC r = none := by
      unfold markC
      split
      · exact absurd ⟨_, rfl⟩ hr
      · rfl
    have e1 : ([91, 94] : List Nat).isPrefixOf (91 :: r) = false := by
      cases r with
      | nil => rfl
      | cons y r' =>
        rw [Bool.eq_false_iff]
        intro z
        simp [List.isPrefixOf] at z
        exact hr ⟨r', by rw [← z]⟩
    rw [e0] at q
    exact s_yes (tS.eq (by rw [e1]; rfl)) fun H1 s1 => q H1 s1
  obtain ⟨r, rfl⟩ := hr
  have hd2 : t.drop (p + 2) = r := by rw [← List.drop_drop, hd]; rfl
  have hlen := congrArg List.length hd
  rw [List.length_drop, List.length_cons, List.length_cons] at hlen
  refine s_no1 (tS.eq rfl) fun H1 s1 => ?_
  refine ⟨_, rfl, _, _, rfl, rfl, ?_⟩
  dsimp only [gName, List.set_cons_succ, List.set_cons_zero]
  refine ⟨_, rfl, rfl, _, rfl, _, rfl, _, _, rfl, rfl, _, _, rfl, rfl, t, 93, p + 2, p + 2 + 13, rfl, rfl, ?_⟩
  dsimp only [gName, List.set_cons_succ, List.set_cons_zero]
  have hw : cutAt 93 ((t.take (min (p + 2 + 13) t.length)).drop (p + 2)) = cutAt 93 (r.take 13) := by rw [win, hd2]
  cases hc : cutAt 93 (r.take 13) with
  | none =>
    rw [fnd_none (hw.trans hc)]
    have e0 : markC (94 :: r) = none := by
      show (Lw.nameAt 93 r).map _ = none
      unfold Lw.nameAt
      rw [hc]
      rfl
    rw [e0] at q
    exact s_yes (t_or true false (t_cmp (ev_v rfl) ev_c (by rfl)) (fun z => Bool.noConfusion z)) fun H2 s2 => q H2 (s1.trans s2)
  | some ab =>
    obtain ⟨a, b⟩ := ab
    rw [fnd_some (hw.trans hc)]
    obtain ⟨he, _⟩ := cutAt_eq hc
    have hal : a.length + 1 ≤ r.length ∧ a.length ≤ 12 := by
      have := congrArg List.length he
      rw [List.length_take, List.length_append, List.length_cons] at this
      omega
    have hta : r.take a.length = a := by
      have := congrArg (List.take a.length) he
      rw [List.take_take, List.take_left, Nat.min_eq_left (by omega)] at this
      exact this
    have has : Asc a := ((ha.drop (p + 2)).take a.length).sub fun c hc => by rw [hd2, hta]; exact hc
    have esl : ∀ H2, Ev (tSl rSlS (tVar 0) (tPart (tVar 2)) (tPart (tVar 3))) [some (vS t), some (V.int (p : Int)), some (V.int ((p : Int) + 2)), some (V.int ((p + 2 + a.length : Nat) : Int))] H2 (vS a) := fun H2 => by
      refine ev_sl (l := t) (a := a) (by omega) (ev_v rfl) (evo_s (i := ((p + 2 : Nat) : Int)) (ev_v rfl)) (evo_s (i := ((p + 2 + a.length : Nat) : Int)) (ev_v rfl)) ?_
      rw [cut_any, hd2, show p + 2 + a.length - (p + 2) = a.length by omega, hta]
    have tt : Tells (tOr (tTest (tOp (rI0 fun i j => .bl (decide (i < j))) (tVar 3) (tC (.int 0)))) (tNot (tB (tCall spNameD [] E0 (tCons (tSl rSlS (tVar 0) (tPart (tVar 2)) (tPart (tVar 3))) tNil))))) [some (vS t), some (V.int (p : Int)), some (V.int ((p : Int) + 2)), some (V.int ((p + 2 + a.length : Nat) : Int))] H1 (false || !isNameC a) := by
      refine t_or false _ (t_cmp (ev_v rfl) ev_c ?_) fun _ H2 s2 => t_not _ fun R k => esl H2 _ ⟨_, _, rfl, (strG_S has (by omega)).dn, fun H3 s3 => ⟨_, rfl, ?_⟩⟩
      · rw [decide_eq_false (by omega)]
      · rw [isNm_S]; exact k H3 s3
    by_cases hn : isNameC a = true
    rotate_left
    · have hn := Bool.eq_false_iff.mpr hn
      have e0 : markC (94 :: r) = none := by
        show (Lw.nameAt 93 r).map _ = none
        unfold Lw.nameAt
        rw [hc]
        show (if isNameC a = true then _ else none).map _ = none
        rw [hn]
        rfl
      rw [e0] at q
      exact s_yes (tt.eq (by rw [hn]; rfl)) fun H2 s2 => q H2 (s1.trans s2)
    have e0 : markC (94 :: r) = some (.note (smallC a), r.drop (a.length + 1)) := by
      show (Lw.nameAt 93 r).map _ = _
      unfold Lw.nameAt
      rw [hc]
      show (if isNameC a = true then _ else none).map _ = _
      rw [if_pos hn]
      rfl
    rw [e0] at q
    refine s_no1 (tt.eq (by rw [hn]; rfl)) fun H2 s2 => ?_
    refine esl H2 _ ⟨a, rfl, by omega, hn, fun H3 s3 y dx hy hdx hne => ?_⟩
    refine ⟨y, dx, _, rfl, upd_same, rfl, _, rfl, _, _, rfl, rfl, big (show (2 : Nat) ≤ 1000000 by decide), fun tp htp => ?_⟩
    obtain ⟨m1, m2⟩ := made1 (C := c.Mark) (o := .ins c.Mark dx [("name", vS (smallC a))]) ((s1.trans s2).trans s3) hy hdx
    refine q tp (.ref y) _ (m1.trans (same_new htp _)) ?_ ⟨y, rfl, strG_S has.small (by unfold smallC; rw [List.length_map]; omega), dx, dif_new htp _ _ _ m2⟩
    rw [upd_same, List.length_drop]
    show some (HO.tup [V.ref y, V.int (((p + 2 + a.length : Nat) : Int) + 1)]) = _
    rw [show ((p + 2 + a.length : Nat) : Int) + 1 = ((t.length - (r.length - (a.length + 1)) : Nat) : Int) by omega]
/-! link_at -/
abbrev sLinkAt : Stmt := top 27
theorem scLinkAt : FnScope ["text", "place", "closing", "begin", "end"] ["text", "place", "closing"] (defScope sLinkAt) := ⟨rfl, rfl, rfl, by decide +kernel, rfl, by decide +kernel, by decide +kernel⟩
def spLinkAt (c : Cp) : Sp := fun vs H Q _ => ∃ (t : List Nat) (p : Nat) (r : List Nat), vs = [vS t, .int (p : Int), .int (toPos (p + 1) (nxtC r))] ∧ t.drop p = 91 :: r ∧ t.length ≤ 100000 ∧ Asc t ∧ Fnd c t.length H Q (linkC r)
theorem ok_linkAt {f : Addr} {fd : FuncData} (F : Fun K "link_at" "link_at" sLinkAt f fd) (T : TxI K mg c BT) (D_Link : New P w K mg base 1 "Link" c.Link ["self", "words", "name"] (spInit2 c.Link "words" "name"))
    (D_freed : Def P w K mg base 2 "freed" ["text"] spFreed) (D_is_name : Def P w K mg base 1 "is_name" ["thing"] spNameD) (D_name_of : Def P w K mg base 2 "name_of" ["thing"] spNameOf) : FnOk P w K mg base CX0 3 f fd ["text", "place", "closing"] (spLinkAt c) := by
  have sc := scLinkAt
  refine F.ok sc (fun vs H Q E h => ?_) (fun cdv A outer s H vs Q E hr h => ?_)
  · obtain ⟨t, p, r, rfl, _⟩ := h
    rfl
  obtain ⟨t, p, r, rfl, hd, hl, ha, q⟩ := h
  refine of_XB (xbc (xif (xor (xcmpT op_le (xv 2) (xop op_add (xv 1) xint) (nomark _)) (xor1 (xnotT (xvalT (xm PySem.F.plainAttrs_str PySem.F.slot_str_startswith PySem.F.type_str_startswith mt_startsAt (xv 0) (xac xstr (xac (xv 2) xa0))))))).xt (xb1 (xret xnon)) xb0)
    (xbc (xset (i := 3) sc.nd rfl (Or.inl rfl) (xop op_add (xv 2) xint))
    (xbc (xset (i := 4) sc.nd rfl (Or.inl rfl) (xm PySem.F.plainAttrs_str PySem.F.slot_str_find PySem.F.type_str_find mt_find4 (xv 0) (xac xstr (xac (xv 3) (xac (xop op_add (xop op_add (xv 3) (xgI T.g_LONGEST_NAME)) xint) xa0)))))
    (xbc (xif (xor (xcmpT op_lt (xv 4) xint (nomark _)) (xor1 (xnotT (xvalT (xcD D_is_name (hr.mono (by omega)) (xac (xsl sl_str (xv 0) (xo1 (xv 3)) (xo1 (xv 4))) xa0)))))).xt (xb1 (xret xnon)) xb0)
    (xb1 (xret (xtup (xac (xnew D_Link (hr.mono (by omega)) (xac (xcD D_freed (hr.mono (by omega)) (xac (xsl sl_str (xv 0) (xo1 (xop op_add (xv 1) xint)) (xo1 (xv 2))) xa0)) (xac (xcD D_name_of (hr.mono (by omega)) (xac (xsl sl_str (xv 0) (xo1 (xv 3)) (xo1 (xv 4))) xa0)) xa0))) (xac (xop op_add (xv 4) xint) xa0))))))))) ?_
  rw [show start ["text", "place", "closing", "begin", "end"] [vS t, V.int (p : Int), V.int (toPos (p + 1) (nxtC r))] = [some (vS t), some (V.int (p : Int)), some (V.int (toPos (p + 1) (nxtC r))), none, none] from rfl]
  have hd1 : t.drop (p + 1) = r := by rw [← List.drop_drop, hd]; rfl
  have hlen := congrArg List.length hd
  rw [List.length_drop, List.length_cons] at hlen
  have early : ∀ v : Int, v ≤ (p : Int) + 1 → Tells (tOr (tTest (tOp (rI0 fun i j => .bl (decide (i ≤ j))) (tVar 2) (tOp (rI0 fun i j => .int (i + j)) (tVar 1) (tC (.int 1))))) (tNot (tB (tBM K "str" rStartsAt (tVar 0) (tCons (tC (.str "](")) (tCons (tVar 2) tNil)))))) [some (vS t), some (V.int (p : Int)), some (V.int v), none, none] H true := fun v hv => t_or true false (t_cmp (ev_v rfl) (ev_op (ev_v rfl) ev_c rfl) (by rw [decide_eq_true hv])) (fun z => Bool.noConfusion z)
  cases hx : nxtC r with
  | none =>
    have e0 : linkC r = none := by unfold linkC; rw [hx]
    rw [e0] at q
    exact s_yes (early (-1) (by omega)) fun H1 s1 => q H1 s1
  | some k =>
  show (tSeq _ _ : TS) _ [some (vS t), some (V.int (p : Int)), some (V.int ((p + 1 + k : Nat) : Int)), none, none] H
  cases k with
  | zero =>
    have e0 : linkC r = none := by unfold linkC; rw [hx]
    rw [e0] at q
    exact s_yes (early _ (by omega)) fun H1 s1 => q H1 s1
  | succ k =>
  obtain ⟨u, v, hu, hul⟩ := nxt_at hx
  have hrl := congrArg List.length hu
  rw [List.length_append, List.length_cons] at hrl
  have hdk : t.drop (p + 1 + (k + 1)) = 93 :: v := by
    rw [← List.drop_drop, hd1, hu, ← hul, List.drop_left]
  have hdv : r.drop (k + 2) = v := by
    rw [show k + 2 = k + 1 + 1 by omega, ← List.drop_drop, hu, ← hul, List.drop_left]
    rfl
  have tS : Tells (tOr (tTest (tOp (rI0 fun i j => .bl (decide (i ≤ j))) (tVar 2) (tOp (rI0 fun i j => .int (i + j)) (tVar 1) (tC (.int 1))))) (tNot (tB (tBM K "str" rStartsAt (tVar 0) (tCons (tC (.str "](")) (tCons (tVar 2) tNil)))))) [some (vS t), some (V.int (p : Int)), some (V.int ((p + 1 + (k + 1) : Nat) : Int)), none, none] H (false || !([93, 40] : List Nat).isPrefixOf (t.drop (p + 1 + (k + 1)))) :=
    t_or false _ (t_cmp (ev_v rfl) (ev_op (ev_v rfl) ev_c rfl) (by rw [decide_eq_false (by omega)])) fun _ H1 s1 => t_not _ (t_startsAt (z := [93, 40]) rfl (by simp) (ev_v rfl) (ev_v rfl))
  rw [hdk] at tS
  by_cases hr : ∃ r2, v = 40 :: r2
  rotate_left
  · have e0 : linkC r = none := by
      unfold linkC
      rw [hx]
      show (match r.drop (k + 2) with | 40 :: r2 => (Lw.nameAt 41 r2).map fun (n, r3) => (Pc.link (freeC (r.take (k + 1))) n, r3) | _ => none) = none
      rw [hdv]
      split
      · exact absurd ⟨_, rfl⟩ hr
      · rfl
    have e1 : ([93, 40] : List Nat).isPrefixOf (93 :: v) = false := by
      cases v with
      | nil => rfl
      | cons y r' =>
        rw [Bool.eq_false_iff]
        intro z
        simp [List.isPrefixOf] at z
        exact hr ⟨r', by rw [← z]⟩
    rw [e0] at q
    exact s_yes (tS.eq (by rw [e1]; rfl)) fun H1 s1 => q H1 s1
  obtain ⟨r2, rfl⟩ := hr
  rw [List.length_cons] at hrl
  have hd2 : t.drop (p + 1 + (k + 1) + 2) = r2 := by rw [← List.drop_drop, hdk]; rfl
  refine s_no1 (tS.eq rfl) fun H1 s1 => ?_
  refine ⟨_, rfl, _, _, rfl, rfl, ?_⟩
  dsimp only [gName, List.set_cons_succ, List.set_cons_zero]
  have hpos : ((p + 1 + (k + 1) : Nat) : Int) + 2 = ((p + 1 + (k + 1) + 2 : Nat) : Int) := rfl
  rw [hpos]
  have eL := link_eq hx hdv
  rw [eL] at q
  clear eL tS early
  generalize hb : p + 1 + (k + 1) + 2 = bg at *
  refine ⟨_, rfl, rfl, _, rfl, _, rfl, _, _, rfl, rfl, _, _, rfl, rfl, t, 41, bg, bg + 13, rfl, rfl, ?_⟩
  dsimp only [gName, List.set_cons_succ, List.set_cons_zero]
  have hw : cutAt 41 ((t.take (min (bg + 13) t.length)).drop bg) = cutAt 41 (r2.take 13) := by rw [win, hd2]
  cases hc : cutAt 41 (r2.take 13) with
  | none =>
    rw [fnd_none (hw.trans hc)]
    have e0 : Lw.nameAt 41 r2 = none := by unfold Lw.nameAt; rw [hc]
    rw [e0] at q
    exact s_yes (t_or true false (t_cmp (ev_v rfl) ev_c (by rfl)) (fun z => Bool.noConfusion z)) fun H2 s2 => q H2 (s1.trans s2)
  | some ab =>
    obtain ⟨a, b⟩ := ab
    rw [fnd_some (hw.trans hc)]
    obtain ⟨he, _⟩ := cutAt_eq hc
    have hal : a.length + 1 ≤ r2.length ∧ a.length ≤ 12 := by
      have := congrArg List.length he
      rw [List.length_take, List.length_append, List.length_cons] at this
      omega
    have hta : r2.take a.length = a := by
      have := congrArg (List.take a.length) he
      rw [List.take_take, List.take_left, Nat.min_eq_left (by omega)] at this
      exact this
    have has : Asc a := ((ha.drop bg).take a.length).sub fun c hc => by rw [hd2, hta]; exact hc
    have esl : ∀ H2, Ev (tSl rSlS (tVar 0) (tPart (tVar 3)) (tPart (tVar 4))) [some (vS t), some (V.int (p : Int)), some (V.int ((p + 1 + (k + 1) : Nat) : Int)), some (V.int (bg : Int)), some (V.int ((bg + a.length : Nat) : Int))] H2 (vS a) := fun H2 => by
      refine ev_sl (l := t) (a := a) (by omega) (ev_v rfl) (evo_s (i := (bg : Int)) (ev_v rfl)) (evo_s (i := ((bg + a.length : Nat) : Int)) (ev_v rfl)) ?_
      rw [cut_any, hd2, show bg + a.length - bg = a.length by omega, hta]
    have tt : Tells (tOr (tTest (tOp (rI0 fun i j => .bl (decide (i < j))) (tVar 4) (tC (.int 0)))) (tNot (tB (tCall spNameD [] E0 (tCons (tSl rSlS (tVar 0) (tPart (tVar 3)) (tPart (tVar 4))) tNil))))) [some (vS t), some (V.int (p : Int)), some (V.int ((p + 1 + (k + 1) : Nat) : Int)), some (V.int (bg : Int)), some (V.int ((bg + a.length : Nat) : Int))] H1 (false || !isNameC a) := by
      refine t_or false _ (t_cmp (ev_v rfl) ev_c ?_) fun _ H2 s2 => t_not _ fun R k => esl H2 _ ⟨_, _, rfl, (strG_S has (by omega)).dn, fun H3 s3 => ⟨_, rfl, ?_⟩⟩
      · rw [decide_eq_false (by omega)]
      · rw [isNm_S]; exact k H3 s3
    by_cases hn : isNameC a = true
    rotate_left
    · have hn := Bool.eq_false_iff.mpr hn
      have e0 : Lw.nameAt 41 r2 = none := by
        unfold Lw.nameAt
        rw [hc]
        show (if isNameC a = true then _ else none) = none
        rw [hn]
        rfl
      rw [e0] at q
      exact s_yes (tt.eq (by rw [hn]; rfl)) fun H2 s2 => q H2 (s1.trans s2)
    have e0 : Lw.nameAt 41 r2 = some (smallC a, r2.drop (a.length + 1)) := by
      unfold Lw.nameAt
      rw [hc]
      show (if isNameC a = true then _ else none) = _
      rw [if_pos hn]
    rw [e0] at q
    refine s_no1 (tt.eq (by rw [hn]; rfl)) fun H2 s2 => ?_
    have hwl : (r.take (k + 1)).length ≤ 100000 := by rw [List.length_take]; omega
    have haw : Asc (r.take (k + 1)) := ((ha.drop (p + 1)).sub fun c hc => by rw [hd1]; exact List.mem_of_mem_take hc)
    refine ev_sl (l := t) (a := r.take (k + 1)) (by omega) (ev_v rfl) (evo_s (i := ((p + 1 : Nat) : Int)) (ev_op (ev_v rfl) ev_c rfl)) (evo_s (i := ((p + 1 + (k + 1) : Nat) : Int)) (ev_v rfl)) ?_ _ ⟨_, rfl, hwl, fun H3 s3 => ?_⟩
    · rw [cut_any, hd1, show p + 1 + (k + 1) - (p + 1) = k + 1 by omega]
    refine esl H3 _ ⟨a, rfl, by omega, hn, fun H4 s4 y dx hy hdx hne => ?_⟩
    refine ⟨y, dx, _, _, rfl, upd_same, rfl, _, rfl, _, _, rfl, rfl, big (show (2 : Nat) ≤ 1000000 by decide), fun tp htp => ?_⟩
    have hfl := free_len (r.take (k + 1))
    obtain ⟨m1, m2⟩ := made2 (C := c.Link) (o1 := .ins c.Link dx [("words", vS (freeC (r.take (k + 1))))]) (o := .ins c.Link dx [("words", vS (freeC (r.take (k + 1)))), ("name", vS (smallC a))]) (((s1.trans s2).trans s3).trans s4) hy hdx
    refine q tp (.ref y) _ (m1.trans (same_new htp _)) ?_ ⟨y, rfl, strG_S (haw.sub fun c hc => mem_free hc) (by omega), strG_S has.small (by unfold smallC; rw [List.length_map]; omega), dx, dif_new htp _ _ _ m2⟩
    rw [upd_same, List.length_drop]
    show some (HO.tup [V.ref y, V.int (((bg + a.length : Nat) : Int) + 1)]) = _
    rw [show ((bg + a.length : Nat) : Int) + 1 = ((t.length - (r2.length - (a.length + 1)) : Nat) : Int) by omega]
end
end K4

set_option Elab.async false
set_option linter.all false
set_option maxRecDepth 100000
set_option maxHeartbeats 2000000
namespace K4
open PySem L2 Lm Lw
section
variable {P : Program} {w : World} {K : PySem.W.Frag} {mg : Str → Option Value} {base : Heap} {c : Cp} {BT : Addr}
/-! piece_at -/
abbrev sPieceAt : Stmt := top 22
theorem scPieceAt : FnScope ["text", "place", "closings", "sign", "found"] ["text", "place", "closings"] (defScope sPieceAt) := ⟨rfl, rfl, rfl, by decide +kernel, rfl, by decide +kernel, by decide +kernel⟩
def spPieceAt (c : Cp) : Sp := fun vs H Q _ => ∃ (t : List Nat) (p : Nat) (cl : Addr) (pc : Pc) (r : List Nat), vs = [vS t, .int (p : Int), .ref cl] ∧ H cl = some (.lst ((clGo 0 t).map V.int)) ∧ p < t.length ∧ t.length ≤ 100000 ∧ Asc t ∧ Al t p ∧ stepC (t.drop p) = some (pc, r) ∧ Fnd c t.length H Q (some (pc, r))
theorem ok_pieceAt {f : Addr} {fd : FuncData} (F : Fun K "piece_at" "piece_at" sPieceAt f fd) (T : TxI K mg c BT) (D_takes_next : Def P w K mg base 1 "takes_next" ["text", "place"] spTakes)
    (D_code_at : Def P w K mg base 3 "code_at" ["text", "place"] (spCodeAt c)) (D_mark_at : Def P w K mg base 3 "mark_at" ["text", "place"] (spMarkAt c)) (D_link_at : Def P w K mg base 3 "link_at" ["text", "place", "closing"] (spLinkAt c)) : FnOk P w K mg base CX0 4 f fd ["text", "place", "closings"] (spPieceAt c) := by
  have sc := scPieceAt
  refine F.ok sc (fun vs H Q E h => ?_) (fun cdv A outer s H vs Q E hr h => ?_)
  · obtain ⟨t, p, cl, pc, r, rfl, _⟩ := h
    rfl
  obtain ⟨t, p, cl, pc, r, rfl, ecl, hp, hl, ha, hal, hst, q⟩ := h
  refine of_XB (xbc (xset (i := 3) sc.nd rfl (Or.inl rfl) (xix ix_str (xv 0) (xv 1) (fun _ _ => rfl)))
    (xbc (xif (xvalT (xcD D_takes_next (hr.mono (by omega)) (xac (xv 0) (xac (xv 1) xa0)))) (xb1 (xret (xtup (xac (xix ix_str (xv 0) (xop op_add (xv 1) xint) (fun _ _ => rfl)) (xac (xop op_add (xv 1) xint) xa0))))) xb0)
    (xbc (xif (xcmpT op_eq (xv 3) xstr (nomark _)) (xb1 (xret (xtup (xac xnon (xac (xop op_add (xv 1) xint) xa0))))) xb0)
    (xbc (xset (i := 4) sc.nd rfl (Or.inl rfl) xnon)
    (xbc (xif (xcmpT op_eq (xv 3) xstr (nomark _)) (xb1 (xset (i := 4) sc.nd rfl (Or.inl rfl) (xcD D_code_at (hr.mono (by omega)) (xac (xv 0) (xac (xv 1) xa0))))) xb0)
    (xbc (xif (xcmpT op_eq (xv 3) xstr (nomark _)) (xbc (xset (i := 4) sc.nd rfl (Or.inl rfl) (xcD D_mark_at (hr.mono (by omega)) (xac (xv 0) (xac (xv 1) xa0))))
    (xb1 (xif (xcmpT op_isN (xv 4) xnon (nomark _)) (xb1 (xset (i := 4) sc.nd rfl (Or.inl rfl) (xcD D_link_at (hr.mono (by omega)) (xac (xv 0) (xac (xv 1) (xac (xix ix_list (xv 2) (xv 1) (fun _ _ => rfl)) xa0)))))) xb0))) xb0)
    (xb1 (xret (xifE (xcmpT op_isN (xv 4) xnon (nomark _)) (xtup (xac (xv 3) (xac (xop op_add (xv 1) xint) xa0))) (xv 4)))))))))) ?_
  rw [show start ["text", "place", "closings", "sign", "found"] [vS t, V.int (p : Int), V.ref cl] = [some (vS t), some (V.int (p : Int)), some (V.ref cl), none, none] from rfl]
  obtain ⟨x, r0, hd⟩ : ∃ x r0, t.drop p = x :: r0 := ⟨_, _, List.drop_eq_getElem_cons hp⟩
  have hlen := congrArg List.length hd
  rw [List.length_drop, List.length_cons] at hlen
  have hgx : t.getD p 0 = x := by
    have : (t.drop p)[0]? = some x := by rw [hd]; rfl
    rw [List.getElem?_drop, Nat.add_zero] at this
    rw [List.getD_eq_getElem?_getD, this]; rfl
  refine ⟨_, rfl, _, rfl, w_ixs (by omega) (by omega) (by omega) ?_⟩
  rw [Int.toNat_natCast, hgx]
  dsimp only [gName, List.set_cons_succ, List.set_cons_zero]
  refine ⟨_, rfl, _, rfl, t, p, rfl, hp, by omega, fun H1 s1 => ⟨_, rfl, ?_⟩⟩
  have hst' : (if takesC (x :: r0) then some (Pc.sign (r0.headD 0), r0.tail) else if x = 42 then some (Pc.star, r0) else if x = 96 then some ((codeC r0).getD (.sign 96, r0)) else if x = 91 then some (((markC r0).or (linkC r0)).getD (.sign 91, r0)) else some (Pc.sign x, r0)) = some (pc, r) := by rw [hd] at hst; exact hst
  have num : ∀ k : Nat, p + k ≤ t.length → ∀ r' : List Nat, r'.length + (p + k) = t.length → (p : Int) + (k : Int) = ((t.length - r'.length : Nat) : Int) := fun k _ r' _ => by omega
  by_cases hk : takesC (t.drop p) = true
  · rw [hk]
    refine iteT ?_
    obtain ⟨y, r2, hy⟩ := takes_form hk
    rw [hd] at hy hk
    cases hy
    rw [if_pos hk] at hst'
    cases hst'
    rw [List.length_cons] at hlen
    have hg1 : t.getD (p + 1) 0 = y := by
      have : (t.drop p)[1]? = some y := by rw [hd]; rfl
      rw [List.getElem?_drop] at this
      rw [List.getD_eq_getElem?_getD, this]; rfl
    refine ⟨_, rfl, _, rfl, _, _, rfl, rfl, w_ixs (by omega) (by omega) (by omega) ⟨_, rfl, _, _, rfl, rfl, big (show (2 : Nat) ≤ 1000000 by decide), fun tp htp => ?_⟩⟩
    refine q tp (vS [y]) _ (s1.trans (same_new htp _)) ?_ rfl
    rw [upd_same, show ((p : Int) + 1).toNat = p + 1 by omega, hg1]
    show some (HO.tup [vS [y], V.int ((p : Int) + 2)]) = some (HO.tup [vS [y], V.int ((t.length - r2.length : Nat) : Int)])
    rw [show (p : Int) + 2 = ((t.length - r2.length : Nat) : Int) by omega]
  have hk' : takesC (t.drop p) = false := Bool.eq_false_iff.mpr hk
  rw [hk']
  refine iteF ?_
  rw [hd] at hk'
  rw [if_neg (by rw [hk']; simp)] at hst'
  have tE : ∀ (y : Str) (z : Nat) (fv : Option V) (H' : Hp), y = S [z] → Tells (tTest (tOp rEq (tVar 3) (tC (.str y)))) [some (vS t), some (V.int (p : Int)), some (V.ref cl), some (vS [x]), fv] H' (decide ([x] = [z])) := fun y z fv H' e => t_eq [x] [z] e (ev_v rfl)
  have sg : ∀ z : Nat, [x] = [z] ↔ x = z := fun z => ⟨fun h => (List.cons.inj h).1, fun h => by rw [h]⟩
  by_cases h42 : x = 42
  · rw [if_pos h42] at hst'
    cases hst'
    refine s_yes ((tE "*" 42 none H1 rfl).eq (decide_eq_true ((sg _).mpr h42))) fun H2 s2 => ?_
    refine ⟨_, rfl, _, _, rfl, rfl, big (show (2 : Nat) ≤ 1000000 by decide), fun tp htp => ?_⟩
    refine q tp .non _ ((s1.trans s2).trans (same_new htp _)) ?_ rfl
    rw [upd_same]
    show some (HO.tup [V.non, V.int ((p : Int) + 1)]) = _
    rw [show (p : Int) + 1 = ((t.length - r.length : Nat) : Int) by omega]
  rw [if_neg h42] at hst'
  refine s_no1 ((tE "*" 42 none H1 rfl).eq (decide_eq_false fun z => h42 ((sg _).mp z))) fun H2 s2 => ?_
  refine s_asgC ?_
  dsimp only [List.set_cons_succ, List.set_cons_zero]
  have s12 := s1.trans s2
  -- the end: what was found, or the sign
  have fin : ∀ (v : V) (H3 : Hp), Same H H3 → ((v = .non ∧ pc = .sign x ∧ r = r0) ∨ ∃ tp u, v = .ref tp ∧ H3 tp = some (.tup [u, .int ((t.length - r.length : Nat) : Int)]) ∧ PcAt c (dif H H3) u pc) → ∀ Q', (∀ v' H', Q v' H' → Q' v' H') →
      tIf (tTest (tOp (fun x y H Q => y = .non ∧ Q (.bl (decide (x = .non))) H) (tVar 4) (tC .non))) (tTup (tCons (tVar 3) (tCons (tOp (rI0 fun i j => .int (i + j)) (tVar 1) (tC (.int 1))) tNil))) (tVar 4) [some (vS t), some (V.int (p : Int)), some (V.ref cl), some (vS [x]), some v] H3 Q' := by
    intro v H3 s3 h Q' kQ
    refine ⟨_, rfl, rfl, _, rfl, ?_⟩
    rcases h with ⟨rfl, rfl, rfl⟩ | ⟨tp, u, rfl, e3, hu⟩
    · refine ite2 (fun _ => ?_) (fun z => absurd (decide_eq_true rfl) z)
      refine ⟨_, rfl, _, rfl, _, _, rfl, rfl, big (show (2 : Nat) ≤ 1000000 by decide), fun tp htp => kQ _ _ (q tp (vS [x]) _ (s3.trans (same_new htp _)) ?_ rfl)⟩
      rw [upd_same]
      show some (HO.tup [vS [x], V.int ((p : Int) + 1)]) = _
      rw [show (p : Int) + 1 = ((t.length - r.length : Nat) : Int) by omega]
    · refine ite2 (fun z => nomatch of_decide_eq_true z) (fun _ => ⟨_, rfl, kQ _ _ (q tp u H3 s3 e3 hu)⟩)
  by_cases h96 : x = 96
  · subst h96
    rw [if_pos rfl] at hst'
    refine s_yes ((tE "`" 96 _ H2 rfl).eq (decide_eq_true rfl)) fun H3 s3 => ?_
    have s13 := s12.trans s3
    have hdr : t.drop (p + 1) = r0 := by rw [← List.drop_drop, hd]; rfl
    refine ⟨_, rfl, _, rfl, t, p, rfl, hp, hl, ha, ?_⟩
    rw [hdr]
    cases hc : codeC r0 with
    | none =>
      intro H4 s4
      rw [hc] at hst'
      cases hst'
      dsimp only [gName, List.set_cons_succ, List.set_cons_zero]
      refine s_no1 ((tE "[" 91 _ H4 rfl).eq (decide_eq_false (by decide))) fun H5 s5 => ?_
      exact fin .non H5 ((s13.trans s4).trans s5) (.inl ⟨rfl, rfl, rfl⟩) _ fun v' H' h => h
    | some qq =>
      obtain ⟨pc', r'⟩ := qq
      intro tp v H4 s4 e4 hv
      rw [hc] at hst'
      cases hst'
      dsimp only [gName, List.set_cons_succ, List.set_cons_zero]
      refine s_no1 ((tE "[" 91 _ H4 rfl).eq (decide_eq_false (by decide))) fun H5 s5 => ?_
      exact fin (.ref tp) H5 ((s13.trans s4).trans s5) (.inr ⟨tp, v, rfl, s5 _ _ e4, hv.same (dif_grow s13 s5)⟩) _ fun v' H' h => h
  rw [if_neg h96] at hst'
  refine s_no1 ((tE "`" 96 _ H2 rfl).eq (decide_eq_false fun z => h96 ((sg _).mp z))) fun H3 s3 => ?_
  have s13 := s12.trans s3
  by_cases h91 : x = 91
  · subst h91
    rw [if_pos rfl] at hst'
    refine s_yes ((tE "[" 91 _ H3 rfl).eq (decide_eq_true rfl)) fun H4 s4 => ?_
    have s14 := s13.trans s4
    refine ⟨_, rfl, _, rfl, t, p, r0, rfl, hd, hl, ha, ?_⟩
    cases hm : markC r0 with
    | some qq =>
      obtain ⟨pc', r'⟩ := qq
      intro tp v H5 s5 e5 hv
      rw [hm] at hst'
      cases hst'
      dsimp only [gName, List.set_cons_succ, List.set_cons_zero]
      refine ⟨_, rfl, rfl, _, rfl, ite2 (fun z => nomatch of_decide_eq_true z) (fun _ => ?_)⟩
      exact fin (.ref tp) H5 (s14.trans s5) (.inr ⟨tp, v, rfl, e5, hv.same (dif_grow s14 (Same.refl _))⟩) _ fun v' H' h => h
    | none =>
      intro H5 s5
      rw [hm] at hst'
      have s15 := s14.trans s5
      dsimp only [gName, List.set_cons_succ, List.set_cons_zero]
      refine ⟨_, rfl, rfl, _, rfl, ite2 (fun _ => ?_) (fun z => absurd (decide_eq_true rfl) z)⟩
      have hcl := hal.get hd
      refine ⟨_, rfl, _, rfl, _, rfl, _, rfl, cl, _, (p : Int), .int (toPos (p + 1) (nxtC r0)), rfl, rfl, SqL.of (s15 _ _ ecl), atI_nat (by rw [List.getElem?_map, hcl]; rfl), t, p, r0, rfl, hd, hl, ha, ?_⟩
      cases hk2 : linkC r0 with
      | none =>
        intro H6 s6
        rw [hk2] at hst'
        cases hst'
        dsimp only [gName, List.set_cons_succ, List.set_cons_zero]
        exact fin .non H6 (s15.trans s6) (.inl ⟨rfl, rfl, rfl⟩) _ fun v' H' h => h
      | some qq =>
        obtain ⟨pc', r'⟩ := qq
        intro tp v H6 s6 e6 hv
        rw [hk2] at hst'
        cases hst'
        dsimp only [gName, List.set_cons_succ, List.set_cons_zero]
        exact fin (.ref tp) H6 (s15.trans s6) (.inr ⟨tp, v, rfl, e6, hv.same (dif_grow s15 (Same.refl _))⟩) _ fun v' H' h => h
  · rw [if_neg h91] at hst'
    cases hst'
    refine s_no1 ((tE "[" 91 _ H3 rfl).eq (decide_eq_false fun z => h91 ((sg _).mp z))) fun H4 s4 => ?_
    exact fin .non H4 (s13.trans s4) (.inl ⟨rfl, rfl, rfl⟩) _ fun v' H' h => h
/-! pieces_of -/
abbrev sPieces : Stmt := top 21
theorem scPieces : FnScope ["text", "closings", "pieces", "place", "found"] ["text"] (defScope sPieces) := ⟨rfl, rfl, rfl, by decide +kernel, rfl, by decide +kernel, by decide +kernel⟩
def spPieces (c : Cp) : Sp := fun vs H Q _ => ∃ t : List Nat, vs = [vS t] ∧ t.length ≤ 100000 ∧ Asc t ∧ ∀ r us H', Same H H' → H r = none → H' r = some (.lst us) → PcsAt c (dif H H') us (piecesC t) → Q (.ref r) H'
theorem ok_pieces {f : Addr} {fd : FuncData} (F : Fun K "pieces_of" "pieces_of" sPieces f fd) (T : TxI K mg c BT) (D_closings_of : Def P w K mg base 2 "closings_of" ["text"] spClosings)
    (D_piece_at : Def P w K mg base 4 "piece_at" ["text", "place", "closings"] (spPieceAt c)) : FnOk P w K mg base CX0 5 f fd ["text"] (spPieces c) := by
  have sc := scPieces
  refine F.ok sc (fun vs H Q E h => ?_) (fun cdv A outer s H vs Q E hr h => ?_)
  · obtain ⟨t, rfl, _⟩ := h
    rfl
  obtain ⟨t, rfl, hl, ha, q⟩ := h
  refine of_XB (xbc (xset (i := 1) sc.nd rfl (Or.inl rfl) (xcD D_closings_of (hr.mono (by omega)) (xac (xv 0) xa0)))
    (xbc (xset (i := 2) sc.nd rfl (Or.inl rfl) (xlst xa0))
    (xbc (xset (i := 3) sc.nd rfl (Or.inl rfl) xint)
    (xbc (xwhile PassesOwn.never (xcmpT op_lt (xv 3) (xcB call_len_str T.n_len PySem.boot_len (xac (xv 0) xa0)) (nomark _))
    (xbc (xset (i := 4) sc.nd rfl (Or.inl rfl) (xcD D_piece_at (hr.mono (by omega)) (xac (xv 0) (xac (xv 3) (xac (xv 1) xa0)))))
    (xbc (xexpr (xm PySem.F.plainAttrs_list PySem.F.slot_list_append PySem.F.type_list_append mt_append (xv 2) (xac (xix ix_tup (xv 4) xint (fun _ _ => rfl)) xa0)))
    (xb1 (xset (i := 3) sc.nd rfl (Or.inl rfl) (xix ix_tup (xv 4) xint (fun _ _ => rfl)))))))
    (xb1 (xret (xv 2))))))) ?_
  have hs : sizeLine = 16777216 := sizeLine_eq
  rw [show start ["text", "closings", "pieces", "place", "found"] [vS t] = [some (vS t), none, none, none, none] from rfl]
  refine ⟨_, rfl, t, rfl, hl, fun cl H1 s1 hcl e1 => ?_⟩
  dsimp only [gName, List.set_cons_succ, List.set_cons_zero]
  refine ⟨big (show (0 : Nat) ≤ 1000000 by decide), fun l hl0 => ?_⟩
  have hl00 : H l = none := s1.free hl0
  have s2 := s1.trans (same_new hl0 (.lst []))
  have e2 : upd H1 l (.lst []) l = some (.lst []) := upd_same
  have ec2 := same_new hl0 (.lst []) _ _ e1
  have hne : cl ≠ l := fun z => by rw [z, hl0] at e1; cases e1
  dsimp only [gName, List.set_cons_succ, List.set_cons_zero]
  generalize upd H1 l (.lst []) = H2 at s2 e2 ec2 ⊢
  show tSeq (tWhile _ _) _ _ [some (vS t), some (.ref cl), some (.ref l), some (.int ((0 : Nat) : Int)), none] H2
  refine s_join (fun σ' H' => ∃ us x4, σ' = [some (vS t), some (.ref cl), some (.ref l), some (.int (t.length : Nat)), x4] ∧ Same H H' ∧ H' l = some (.lst us) ∧ NewQ H [l] H' fun G => PcsAt c G us (piecesC t)) (fun N hN => ?_) ?_
  · refine while_t (fun m σ' H' => ∃ (p : Nat) (us : List V) (dn : List Pc) (x4 : Option V), σ' = [some (vS t), some (.ref cl), some (.ref l), some (.int (p : Nat)), x4] ∧ Same H H' ∧ H' cl = some (.lst ((clGo 0 t).map V.int)) ∧ H' l = some (.lst us) ∧ (NewQ H [l] H' fun G => PcsAt c G us dn) ∧ p ≤ t.length ∧ m = t.length - p ∧ Al t p ∧ us.length ≤ p ∧ dn ++ piecesC (t.drop p) = piecesC t) t.length ⟨0, [], [], none, rfl, s2, ec2, e2, NewQ.triv trivial, Nat.zero_le _, rfl, .zero t, Nat.zero_le _, rfl⟩ ?_
    rintro m σ' H3 ⟨p, us, dn, x4, rfl, s3, ec3, e3, hn3, hp, rfl, hA, hul, hd⟩
    refine ⟨decide (p < t.length), fun R k => ⟨_, rfl, _, rfl, _, rfl, bigS (by omega), _, _, rfl, rfl, _, rfl, ?_⟩, fun hc H4 s4 => ?_, fun hc H4 s4 => ?_⟩
    · rw [S_len, show decide ((p : Int) < ((t.length : Nat) : Int)) = decide (p < t.length) by rw [decide_eq_decide]; omega]
      exact k _ (Same.refl _)
    · have hpl : p < t.length := of_decide_eq_true hc
      obtain ⟨pc, r, hst⟩ := step_some (s := t.drop p) (fun z => by have := congrArg List.length z; rw [List.length_drop, List.length_nil] at this; omega)
      obtain ⟨p', hp', hlt, hle, hdr, hA'⟩ := hA.step hpl hst
      have s34 := s3.trans s4
      have e4 := s4 _ _ e3
      refine ⟨_, rfl, _, rfl, _, rfl, t, p, cl, pc, r, rfl, s4 _ _ ec3, hpl, hl, ha, hA, hst, fun tp v H5 s5 e5 hv => ?_⟩
      rw [← hp'] at e5
      dsimp only [gName, List.set_cons_succ, List.set_cons_zero]
      have e5l := s5 _ _ e4
      refine ⟨_, rfl, .inl ⟨rfl, _, SqL.of e5l⟩, ?_⟩
      refine ev_ixT (ev_v rfl) ev_c (SqT.of e5) (atI_nat (j := 0) rfl) _ ⟨l, _, _, rfl, rfl, e5l, by rw [hs]; omega, ?_⟩
      have htl : tp ≠ l := fun z => by rw [z, e5l] at e5; cases e5
      refine ev_ixT (ev_v rfl) ev_c (SqT.of ((upd_ne htl).trans e5)) (atI_nat (j := 1) rfl) _ ?_
      dsimp only [gName, List.set_cons_succ, List.set_cons_zero]
      refine ⟨t.length - p', by omega, p', us ++ [v], dn ++ [pc], _, rfl, same_grow hl00 (s34.trans s5), (upd_ne hne).trans (s5 _ _ (s4 _ _ ec3)), upd_same, ?_, hle, rfl, hA', by rw [List.length_append, List.length_cons, List.length_nil]; omega, ?_⟩
      · refine NewQ.upd ?_ List.mem_cons_self
        refine NewQ.join ((hn3.same s4).same s5) (NewQ.of (R := fun G => PcAt c G v pc) s34 (fun b hb => by rw [List.mem_singleton.mp hb, e4]; simp) hv) mo_Pcs mo_Pc fun G h1 h2 => h1.snoc h2
      · rw [List.append_assoc, ← hd, pieces_step hst, hdr]
        rfl
    · have hpl : p = t.length := by have := of_decide_eq_false hc; omega
      subst hpl
      rw [List.drop_length, pieces_nil, List.append_nil] at hd
      subst hd
      exact hN _ _ ⟨us, x4, rfl, s3.trans s4, s4 _ _ e3, hn3.same s4⟩
  · rintro σ' H3 ⟨us, x4, rfl, s3, e3, hn3⟩
    exact ⟨_, rfl, q l us H3 s3 hl00 e3 (hn3.dif mo_Pcs)⟩
end
end K4

set_option Elab.async false
set_option linter.all false
set_option maxRecDepth 100000
set_option maxHeartbeats 2000000
namespace K4
open PySem L2 Lm Lw
section
variable {P : Program} {w : World} {K : PySem.W.Frag} {mg : Str → Option Value} {base : Heap} {c : Cp} {BT : Addr}
/-! merged -/
abbrev sMerged : Stmt := top 30
theorem scMerged : FnScope ["pieces", "parts", "signs", "piece"] ["pieces"] (defScope sMerged) := ⟨rfl, rfl, rfl, by decide +kernel, rfl, by decide +kernel, by decide +kernel⟩
def spMerged (c : Cp) : Sp := fun vs H Q _ => ∃ (G0 : Hp) (W : List Addr) (l : Addr) (us : List V) (qs : List Qc), vs = [.ref l] ∧ Same G0 H ∧ (∀ b ∈ W, H b ≠ none) ∧ H l = some (.lst us) ∧ (NewQ G0 W H fun G => QsAt c G us qs) ∧ QOk qs ∧ lenQ qs ≤ 100000 ∧ qs.length ≤ 100000 ∧
  ∀ r as H', Same H H' → H r = none → H' r = some (.lst (as.map V.ref)) → (NewQ G0 W H' fun G => PCs c G as (mgGo [] qs)) → Q (.ref r) H'
theorem ok_merged {f : Addr} {fd : FuncData} (F : Fun K "merged" "merged" sMerged f fd) (T : TxI K mg c BT) (D_Plain : New P w K mg base 1 "Plain" c.Plain ["self", "signs"] (spInit1 c.Plain "signs")) : FnOk P w K mg base CX0 3 f fd ["pieces"] (spMerged c) := by
  have sc := scMerged
  refine F.ok sc (fun vs H Q E h => ?_) (fun cdv A outer s H vs Q E hr h => ?_)
  · obtain ⟨G0, W, l, us, qs, rfl, _⟩ := h
    rfl
  obtain ⟨G0, W, l, us, qs, rfl, s0, hW, el, hin, hok, hlq, hql, q⟩ := h
  have hu : (A.deeper (PyProof.Rows.envOfC "merged" (defScope sMerged) s.heap.objs.size f cdv)).units + 64 < cLine := by
    have := hr.un
    omega
  refine of_XB (xbc (xset (i := 1) sc.nd rfl (Or.inl rfl) (xlst xa0))
    (xbc (xset (i := 2) sc.nd rfl (Or.inl rfl) (xlst xa0))
    (xbc (xfor PassesOwn.never rfl (xil (xv 0)) (xgn (i := 3) sc.nd rfl (Or.inl rfl))
    (xbc (xif (xvalT (xcB call_isT T.n_isinstance rfl (xac (xv 3) (xac (xty (T := "str") T.n_str rfl) xa0)))) (xbc (xexpr (xm PySem.F.plainAttrs_list PySem.F.slot_list_append PySem.F.type_list_append mt_append (xv 2) (xac (xv 3) xa0)))
    (xb1 xcont)) xb0)
    (xbc (xif (xcmpT (op_ne0 hu) (xv 2) (xlst xa0) (nomark _)) (xbc (xexpr (xm PySem.F.plainAttrs_list PySem.F.slot_list_append PySem.F.type_list_append mt_append (xv 1) (xac (xnew D_Plain (hr.mono (by omega)) (xac (xm PySem.F.plainAttrs_str PySem.F.slot_str_join PySem.F.type_str_join mt_join xstr (xac (xv 2) xa0)) xa0)) xa0)))
    (xb1 (xset (i := 2) sc.nd rfl (Or.inl rfl) (xlst xa0)))) xb0)
    (xb1 (xexpr (xm PySem.F.plainAttrs_list PySem.F.slot_list_append PySem.F.type_list_append mt_append (xv 1) (xac (xv 3) xa0)))))))
    (xbc (xif (xcmpT (op_ne0 hu) (xv 2) (xlst xa0) (nomark _)) (xb1 (xexpr (xm PySem.F.plainAttrs_list PySem.F.slot_list_append PySem.F.type_list_append mt_append (xv 1) (xac (xnew D_Plain (hr.mono (by omega)) (xac (xm PySem.F.plainAttrs_str PySem.F.slot_str_join PySem.F.type_str_join mt_join xstr (xac (xv 2) xa0)) xa0)) xa0)))) xb0)
    (xb1 (xret (xv 1))))))) ?_
  have hs : sizeLine = 16777216 := sizeLine_eq
  have hulen : us.length = qs.length := let ⟨_, _, _, _, e⟩ := hin; e.len
  rw [show start ["pieces", "parts", "signs", "piece"] [V.ref l] = [some (.ref l), none, none, none] from rfl]
  refine ⟨big (show (0 : Nat) ≤ 1000000 by decide), fun pr hpr => ?_⟩
  have s1 := same_new hpr (.lst [])
  have e1 : upd H pr (.lst []) pr = some (.lst []) := upd_same
  dsimp only [gName, List.set_cons_succ, List.set_cons_zero]
  generalize upd H pr (.lst []) = H1 at s1 e1 ⊢
  refine ⟨big (show (0 : Nat) ≤ 1000000 by decide), fun sg0 hsg0 => ?_⟩
  have s2 := s1.trans (same_new hsg0 (.lst []))
  have e2p := same_new hsg0 (.lst []) _ _ e1
  have e2s : upd H1 sg0 (.lst []) sg0 = some (.lst []) := upd_same
  have hsg00 : H sg0 = none := s1.free hsg0
  have hne0 : sg0 ≠ pr := fun z => by rw [z, e1] at hsg0; cases hsg0
  dsimp only [gName, List.set_cons_succ, List.set_cons_zero]
  generalize upd H1 sg0 (.lst []) = H2 at s2 e2p e2s ⊢
  refine ⟨_, rfl, l, rfl, ⟨_, SqL.of (s2 _ _ el)⟩, ?_⟩
  -- a plain part made of the signs so far
  have mk : ∀ {H3 : Hp} {sg : Addr} {sgs : List (List Nat)} {as : List Addr} {dn : List PC}, Same H H3 → H3 pr = some (.lst (as.map V.ref)) → H3 sg = some (.lst (sgs.map vS)) → sg ≠ pr → Asc sgs.flatten → sgs.flatten.length ≤ 100000 → sgs ≠ [] → as.length ≤ 300000 → (NewQ G0 (pr :: sg :: W) H3 fun G => PCs c G as dn) →
      ∀ {y dx : Addr}, H3 y = none → H3 dx = none → dx ≠ y → ∀ H4, H4 = upd (upd (upd H3 dx (.own y)) y (.ins c.Plain dx [])) y (.ins c.Plain dx [("signs", vS sgs.flatten)]) →
      Same H (upd H4 pr (.lst (as.map V.ref ++ [.ref y]))) ∧ H4 pr = some (.lst (as.map V.ref)) ∧ (upd H4 pr (.lst (as.map V.ref ++ [.ref y]))) pr = some (.lst ((as ++ [y]).map V.ref)) ∧ (NewQ G0 (pr :: sg :: W) (upd H4 pr (.lst (as.map V.ref ++ [.ref y]))) fun G => PCs c G (as ++ [y]) (dn ++ plainQ sgs)) := by
    intro H3 sg sgs as dn s3 ep es hne hasc hfl hne2 hal hn y dx hy hdx hyd H4 e4
    obtain ⟨m1, m2⟩ := made1 (H := H3) (C := c.Plain) (o := .ins c.Plain dx [("signs", vS sgs.flatten)]) (Same.refl H3) hy hdx
    rw [← e4] at m1 m2
    refine ⟨same_grow hpr (s3.trans m1), m1 _ _ ep, by rw [upd_same, List.map_append]; rfl, ?_⟩
    refine NewQ.upd ?_ List.mem_cons_self
    refine NewQ.join (hn.same m1) (NewQ.of (H3 := H3) (R := fun G => PCAt c G y (.one (.plain (S sgs.flatten)))) (s0.trans s3) (fun b hb => ?_) ⟨strG_S hasc hfl, dx, m2⟩) mo_PCs mo_PC fun G h1 h2 => ?_
    · rcases List.mem_cons.mp hb with z | hb
      · rw [z, ep]; simp
      · rcases List.mem_cons.mp hb with z | hb
        · rw [z, es]; simp
        · intro z
          exact hW b hb (s3.free z)
    · have : plainQ sgs = [.one (.plain (S sgs.flatten))] := by
        unfold plainQ
        rw [if_neg (by simp [hne2])]
      rw [this]
      exact h1.snoc h2
  refine for_list (xs := us) (fun i σ H' => ∃ (as : List Addr) (dn : List PC) (sg : Addr) (sgs : List (List Nat)) (x3 : Option V), σ = [some (.ref l), some (.ref pr), some (.ref sg), x3] ∧ Same H H' ∧ H' pr = some (.lst (as.map V.ref)) ∧ H' sg = some (.lst (sgs.map vS)) ∧ H sg = none ∧ sg ≠ pr ∧ (NewQ G0 (pr :: sg :: W) H' fun G => PCs c G as dn) ∧ as.length ≤ 2 * i ∧ sgs.length ≤ i ∧ Asc sgs.flatten ∧ sgs.flatten.length + lenQ (qs.drop i) ≤ 100000 ∧ dn ++ mgGo sgs (qs.drop i) = mgGo [] qs)
    ⟨[], [], sg0, [], none, rfl, s2, e2p, e2s, hsg00, hne0, NewQ.triv trivial, Nat.zero_le _, Nat.zero_le _, (fun _ z => nomatch z), by show 0 + lenQ qs ≤ _; omega, rfl⟩ ?_ ?_ ?_
  · rintro i σ H3 _ ⟨as, dn, sg, sgs, x3, _, s3, _⟩
    exact SqL.of (s3 _ _ el)
  · rintro i x σ H3 hx ⟨as, dn, sg, sgs, x3, rfl, s3, ep, es, hsg, hne, hn, hal, hsl, hasc, hfl, hrun⟩
    obtain ⟨hil, _⟩ := List.getElem?_eq_some_iff.mp hx
    obtain ⟨qc, hqc⟩ : ∃ qc, qs[i]? = some qc := ⟨_, List.getElem?_eq_getElem (by omega)⟩
    have hqi := (List.getElem?_eq_some_iff.mp hqc)
    have hin3 : NewQ G0 (pr :: sg :: W) H3 fun G => QAt c G x qc := (((hin.wide hsg).wide hpr).same s3).map fun G h => by
      obtain ⟨q', h1, h2⟩ := h.get hx
      rw [hqc] at h1
      cases h1
      exact h2
    have hqd : qs.drop i = qc :: qs.drop (i + 1) := by rw [List.drop_eq_getElem_cons hqi.1, hqi.2]
    have hqd2 := lenQ_drop hqc
    rw [hqd] at hrun
    dsimp only [gName, List.set_cons_succ, List.set_cons_zero]
    cases qc with
    | txt y =>
      obtain ⟨_, _, _, _, hxy⟩ := hin3
      have hxy : x = vS y := hxy
      subst hxy
      have hy := hok y (List.mem_of_getElem? hqc)
      have hqd2 : lenQ (qs.drop i) = (y.length + 0) + lenQ (qs.drop (i + 1)) := hqd2
      refine s_yes (fun R k => ⟨_, rfl, _, _, _, _, rfl, .str _, kit_same _ _, _, rfl, k _ (Same.refl _)⟩) fun H4 s4 => ?_
      have es4 := s4 _ _ es
      refine ⟨_, rfl, .inl ⟨rfl, _, SqL.of es4⟩, _, rfl, sg, _, _, rfl, rfl, es4, by rw [List.length_map, hs]; omega, ?_⟩
      refine ⟨as, dn, sg, sgs ++ [y], _, rfl, same_grow hsg (s3.trans s4), (upd_ne (Ne.symm hne)).trans (s4 _ _ ep), by rw [upd_same, List.map_append]; rfl, hsg, hne, ((hn.same s4).upd (List.mem_cons_of_mem _ List.mem_cons_self)), by omega, by rw [List.length_append, List.length_cons, List.length_nil]; omega, ?_, ?_, hrun⟩
      · rw [List.flatten_append]
        exact asc_app hasc (by show Asc (y ++ []); rw [List.append_nil]; exact hy.1)
      · rw [List.flatten_append, List.length_append]
        show _ + (y ++ []).length + _ ≤ _
        rw [List.append_nil]
        omega
    | part p =>
      obtain ⟨a, hxa⟩ : ∃ a, x = .ref a := let ⟨_, _, _, _, h⟩ := hin3; ⟨h.choose, h.choose_spec.1⟩
      subst hxa
      have hin3 : NewQ G0 (pr :: sg :: W) H3 fun G => PCAt c G a p := hin3.map fun G h => by
        obtain ⟨a', e, h⟩ := h
        cases e
        exact h
      have hqd2 : lenQ (qs.drop i) = 0 + lenQ (qs.drop (i + 1)) := hqd2
      have hpa : PCAt c H3 a p := let ⟨_, sG, _, _, h⟩ := hin3; h.same sG
      obtain ⟨ty, hty, hkt⟩ := T.noStr hpa
      refine s_no1 (fun R k => ⟨_, rfl, _, _, _, _, rfl, hty, hkt, _, rfl, k _ (Same.refl _)⟩) fun H4 s4 => ?_
      have s34 := s3.trans s4
      refine s_join (fun σ' H' => ∃ (as' : List Addr) (dn' : List PC) (sg' : Addr), σ' = [some (.ref l), some (.ref pr), some (.ref sg'), some (.ref a)] ∧ Same H H' ∧ H' pr = some (.lst (as'.map V.ref)) ∧ H' sg' = some (.lst []) ∧ H sg' = none ∧ sg' ≠ pr ∧ (NewQ G0 (pr :: sg' :: W) H' fun G => PCs c G as' dn') ∧ as'.length ≤ 2 * i + 1 ∧ dn' ++ p :: mgGo [] (qs.drop (i + 1)) = mgGo [] qs) (fun N hN => ?_) ?_
      · have tN := t_ne0 (K := K) (σ := [some (.ref l), some (.ref pr), some (.ref sg), some (.ref a)]) (ta := tVar 2) (ev_v rfl) (SqL.of (s4 _ _ es))
        refine s_if _ tN (fun H5 s5 hc => ?_) (fun H5 s5 hc => ?_)
        · have hz : sgs ≠ [] := fun z => by rw [z] at hc; cases hc
          have s35 := s34.trans s5
          have ep5 := s5 _ _ (s4 _ _ ep)
          have es5 := s5 _ _ (s4 _ _ es)
          refine ⟨_, rfl, .inl ⟨rfl, _, SqL.of ep5⟩, rfl, _, rfl, S [], sg, sgs.map S, rfl, rfl, SqL.of (by rw [es5, List.map_map]; rfl), fit_join sgs (by omega), ?_⟩
          rw [joinT_S, glue_flat]
          intro y dx hy hdx hyd
          obtain ⟨k1, k2, k3, k4⟩ := mk s35 ep5 es5 hne hasc (by omega) hz (by omega) ((hn.same s4).same s5) hy hdx hyd _ rfl
          refine ⟨y, dx, _, rfl, upd_same, rfl, pr, _, _, rfl, rfl, k2, by rw [List.length_map, hs]; omega, ?_⟩
          refine ⟨big (show (0 : Nat) ≤ 1000000 by decide), fun sg2 hsg2 => ?_⟩
          dsimp only [gName, List.set_cons_succ, List.set_cons_zero]
          have hsgH : H sg2 = none := k1.free hsg2
          have hne3 : sg2 ≠ pr := fun z => by rw [z, k3] at hsg2; cases hsg2
          refine hN _ _ ⟨as ++ [y], dn ++ plainQ sgs, sg2, rfl, k1.trans (same_new hsg2 _), same_new hsg2 _ _ _ k3, upd_same, hsgH, hne3, ?_, by rw [List.length_append, List.length_cons, List.length_nil]; omega, by rw [List.append_assoc]; exact hrun⟩
          exact (((k4.less (W' := pr :: W) fun b hb => by
            rcases List.mem_cons.mp hb with z | z
            · rw [z]; exact List.mem_cons_self
            · exact List.mem_cons_of_mem _ (List.mem_cons_of_mem _ z)).wide hsg2).less fun b hb => by
            rcases List.mem_cons.mp hb with z | z
            · rw [z]; exact List.mem_cons_of_mem _ List.mem_cons_self
            · rcases List.mem_cons.mp z with z | z
              · rw [z]; exact List.mem_cons_self
              · exact List.mem_cons_of_mem _ (List.mem_cons_of_mem _ z)).same (same_new hsg2 _)
        · have hz : sgs = [] := by
            cases sgs with
            | nil => rfl
            | cons _ _ => cases hc
          subst hz
          exact hN _ _ ⟨as, dn, sg, rfl, s34.trans s5, s5 _ _ (s4 _ _ ep), s5 _ _ (s4 _ _ es), hsg, hne, (hn.same s4).same s5, by omega, hrun⟩
      · rintro σ' H5 ⟨as', dn', sg', rfl, s5, ep5, es5, hsg', hne', hn5, hal', hrun'⟩
        refine ⟨_, rfl, .inl ⟨rfl, _, SqL.of ep5⟩, _, rfl, pr, _, _, rfl, rfl, ep5, by rw [List.length_map, hs]; omega, ?_⟩
        refine ⟨as' ++ [a], dn' ++ [p], sg', [], _, rfl, same_grow hpr s5, by rw [upd_same, List.map_append]; rfl, (upd_ne hne').trans es5, hsg', hne', ?_, by rw [List.length_append, List.length_cons, List.length_nil]; omega, Nat.zero_le _, (fun _ z => nomatch z), by show 0 + _ ≤ _; omega, by rw [List.append_assoc]; exact hrun'⟩
        refine NewQ.upd ?_ List.mem_cons_self
        have hin5 : NewQ G0 (pr :: sg' :: W) H5 fun G => PCAt c G a p := (((hin.wide hsg').wide hpr).same s5).map fun G h => by
          obtain ⟨q', h1, h2⟩ := h.get hx
          rw [hqc] at h1
          cases h1
          obtain ⟨a', e, h2⟩ := h2
          cases e
          exact h2
        exact NewQ.join hn5 hin5 mo_PCs mo_PC fun G h1 h2 => h1.snoc h2
  · rintro σ H3 ⟨as, dn, sg, sgs, x3, rfl, s3, ep, es, hsg, hne, hn, hal, hsl, hasc, hfl, hrun⟩
    rw [hulen, List.drop_length] at hrun hfl
    have fin : ∀ {as' : List Addr} {H5 : Hp}, Same H H5 → H5 pr = some (.lst (as'.map V.ref)) → (NewQ G0 (pr :: sg :: W) H5 fun G => PCs c G as' (mgGo [] qs)) → Q (.ref pr) H5 := fun s5 ep5 hn5 => q pr _ _ s5 hpr ep5 (hn5.less fun b hb => List.mem_cons_of_mem _ (List.mem_cons_of_mem _ hb))
    have tN := t_ne0 (K := K) (σ := [some (.ref l), some (.ref pr), some (.ref sg), x3]) (ta := tVar 2) (ev_v rfl) (SqL.of es)
    refine s_if _ tN (fun H5 s5 hc => ?_) (fun H5 s5 hc => ?_)
    · have hz : sgs ≠ [] := fun z => by rw [z] at hc; cases hc
      have s35 := s3.trans s5
      have ep5 := s5 _ _ ep
      have es5 := s5 _ _ es
      refine ⟨_, rfl, .inl ⟨rfl, _, SqL.of ep5⟩, rfl, _, rfl, S [], sg, sgs.map S, rfl, rfl, SqL.of (by rw [es5, List.map_map]; rfl), fit_join sgs (by omega), ?_⟩
      rw [joinT_S, glue_flat]
      intro y dx hy hdx hyd
      obtain ⟨k1, k2, k3, k4⟩ := mk s35 ep5 es5 hne hasc (by omega) hz (by omega) (hn.same s5) hy hdx hyd _ rfl
      refine ⟨y, dx, _, rfl, upd_same, rfl, pr, _, _, rfl, rfl, k2, by rw [List.length_map, hs]; omega, ?_⟩
      refine ⟨_, rfl, fin k1 k3 (k4.map fun G h => ?_)⟩
      rw [← hrun]
      exact h
    · have hz : sgs = [] := by
        cases sgs with
        | nil => rfl
        | cons _ _ => cases hc
      subst hz
      refine ⟨_, rfl, fin (s3.trans s5) (s5 _ _ ep) ((hn.same s5).map fun G h => ?_)⟩
      rw [← hrun]
      show PCs c G as (dn ++ [])
      rw [List.append_nil]
      exact h
end
end K4

set_option Elab.async false
set_option linter.all false
set_option maxRecDepth 100000
set_option maxHeartbeats 2000000
namespace K4
open PySem L2 Lm Lw
section
variable {P : Program} {w : World} {K : PySem.W.Frag} {mg : Str → Option Value} {base : Heap} {c : Cp} {BT : Addr}
/-! with_strong -/
abbrev sStrongs : Stmt := top 29
theorem scStrongs : FnScope ["pieces", "outer", "inner", "begun", "piece"] ["pieces"] (defScope sStrongs) := ⟨rfl, rfl, rfl, by decide +kernel, rfl, by decide +kernel, by decide +kernel⟩
def spStrongs (c : Cp) : Sp := fun vs H Q _ => ∃ (G0 : Hp) (l : Addr) (us : List V) (ps : List Pc), vs = [.ref l] ∧ Same G0 H ∧ H l = some (.lst us) ∧ PcsAt c (dif G0 H) us ps ∧ PcOk ps ∧ ps.length ≤ 100000 ∧
  ∀ r ws H', Same H H' → H r = none → H' r = some (.lst ws) → QsAt c (dif G0 H') ws (wsGo none ps) → Q (.ref r) H'
theorem ok_strongs {f : Addr} {fd : FuncData} (F : Fun K "with_strong" "with_strong" sStrongs f fd) (T : TxI K mg c BT) (D_Strong : New P w K mg base 1 "Strong" c.Strong ["self", "parts"] (spInitS c.Strong)) (D_merged : Def P w K mg base 3 "merged" ["pieces"] (spMerged c)) : FnOk P w K mg base CX0 4 f fd ["pieces"] (spStrongs c) := by
  have sc := scStrongs
  refine F.ok sc (fun vs H Q E h => ?_) (fun cdv A outer s H vs Q E hr h => ?_)
  · obtain ⟨G0, l, us, ps, rfl, _⟩ := h
    rfl
  obtain ⟨G0, l, us, ps, rfl, s0, el, hin, hok, hpl, q⟩ := h
  have hu : (A.deeper (PyProof.Rows.envOfC "with_strong" (defScope sStrongs) s.heap.objs.size f cdv)).units + 64 < cLine := by
    have := hr.un
    omega
  refine of_XB (xbc (xset (i := 1) sc.nd rfl (Or.inl rfl) (xlst xa0))
    (xbc (xset (i := 2) sc.nd rfl (Or.inl rfl) (xlst xa0))
    (xbc (xset (i := 3) sc.nd rfl (Or.inl rfl) xbl)
    (xbc (xfor PassesOwn.never rfl (xil (xv 0)) (xgn (i := 4) sc.nd rfl (Or.inl rfl))
    (xb1 (xif (xand (xcmpT op_notN (xv 4) xnon (nomark _)) (xand1 (xvalT (xv 3)))).xt (xb1 (xexpr (xm PySem.F.plainAttrs_list PySem.F.slot_list_append PySem.F.type_list_append mt_append (xv 2) (xac (xv 4) xa0)))) (xb1 (xif (xcmpT op_notN (xv 4) xnon (nomark _)) (xb1 (xexpr (xm PySem.F.plainAttrs_list PySem.F.slot_list_append PySem.F.type_list_append mt_append (xv 1) (xac (xv 4) xa0)))) (xb1 (xif (xnotT (xvalT (xv 3))) (xb1 (xset (i := 3) sc.nd rfl (Or.inl rfl) xbl)) (xbc (xexpr (xm PySem.F.plainAttrs_list PySem.F.slot_list_append PySem.F.type_list_append mt_append (xv 1) (xac (xifE (xcmpT (op_eq0 hu) (xv 2) (xlst xa0) (nomark _)) xstr (xnew D_Strong (hr.mono (by omega)) (xac (xcD D_merged (hr.mono (by omega)) (xac (xv 2) xa0)) xa0))) xa0)))
    (xbc (xset (i := 2) sc.nd rfl (Or.inl rfl) (xlst xa0))
    (xb1 (xset (i := 3) sc.nd rfl (Or.inl rfl) xbl)))))))))))
    (xbc (xif (xvalT (xv 3)) (xb1 (xexpr (xm PySem.F.plainAttrs_list PySem.F.slot_list_append PySem.F.type_list_append mt_append (xv 1) (xac xstr xa0)))) xb0)
    (xb1 (xret (xop op_cat (xv 1) (xv 2))))))))) ?_
  have hs : sizeLine = 16777216 := sizeLine_eq
  have hulen : us.length = ps.length := hin.len
  rw [show start ["pieces", "outer", "inner", "begun", "piece"] [V.ref l] = [some (.ref l), none, none, none, none] from rfl]
  refine ⟨big (show (0 : Nat) ≤ 1000000 by decide), fun ou hou => ?_⟩
  have s1 := same_new hou (.lst [])
  have e1 : upd H ou (.lst []) ou = some (.lst []) := upd_same
  dsimp only [gName, List.set_cons_succ, List.set_cons_zero]
  generalize upd H ou (.lst []) = H1 at s1 e1 ⊢
  refine ⟨big (show (0 : Nat) ≤ 1000000 by decide), fun in0 hin0 => ?_⟩
  have s2 := s1.trans (same_new hin0 (.lst []))
  have e2o := same_new hin0 (.lst []) _ _ e1
  have e2i : upd H1 in0 (.lst []) in0 = some (.lst []) := upd_same
  have hin00 : H in0 = none := s1.free hin0
  have hne0 : in0 ≠ ou := fun z => by rw [z, e1] at hin0; cases hin0
  dsimp only [gName, List.set_cons_succ, List.set_cons_zero]
  generalize upd H1 in0 (.lst []) = H2 at s2 e2o e2i ⊢
  refine ⟨_, rfl, l, rfl, ⟨_, SqL.of (s2 _ _ el)⟩, ?_⟩
  refine for_list (xs := us) (fun i σ H' => ∃ (ws ys : List V) (dn iq : List Qc) (nn : Addr) (bg : Bool) (x4 : Option V), σ = [some (.ref l), some (.ref ou), some (.ref nn), some (.bl bg), x4] ∧ Same H H' ∧ H' ou = some (.lst ws) ∧ H' nn = some (.lst ys) ∧ H nn = none ∧ nn ≠ ou ∧ (NewQ G0 [ou, nn] H' fun G => QsAt c G ws dn ∧ QsAt c G ys iq) ∧ ws.length ≤ i ∧ ys.length ≤ i ∧ lenQ iq ≤ i ∧ QOk iq ∧ OneQ iq ∧ (bg = false → iq = []) ∧ dn ++ wsGo (if bg then some iq else none) (ps.drop i) = wsGo none ps)
    ⟨[], [], [], [], in0, false, none, rfl, s2, e2o, e2i, hin00, hne0, NewQ.triv ⟨trivial, trivial⟩, Nat.zero_le _, Nat.zero_le _, Nat.zero_le _, QOk.nil, (fun _ z => nomatch z), fun _ => rfl, rfl⟩ ?_ ?_ ?_
  · rintro i σ H3 _ ⟨ws, ys, dn, iq, nn, bg, x4, _, s3, _⟩
    exact SqL.of (s3 _ _ el)
  · rintro i x σ H3 hx ⟨ws, ys, dn, iq, nn, bg, x4, rfl, s3, eo, en, hnn, hne, hn, hwl, hyl, hiq, hqo, hone, hbg, hrun⟩
    obtain ⟨hil, _⟩ := List.getElem?_eq_some_iff.mp hx
    obtain ⟨pc, hpc⟩ : ∃ pc, ps[i]? = some pc := ⟨_, List.getElem?_eq_getElem (by omega)⟩
    have hpi := (List.getElem?_eq_some_iff.mp hpc)
    have hpa : PcAt c (dif G0 H) x pc := by
      obtain ⟨p', h1, h2⟩ := hin.get hx
      rw [hpc] at h1
      cases h1
      exact h2
    have hpd : ps.drop i = pc :: ps.drop (i + 1) := by rw [List.drop_eq_getElem_cons hpi.1, hpi.2]
    rw [hpd] at hrun
    dsimp only [gName, List.set_cons_succ, List.set_cons_zero]
    by_cases hstar : pc = .star
    · subst hstar
      have hxn : x = .non := hpa
      subst hxn
      have tN : ∀ H', Tells (tTest (tOp (fun x y H Q => y = .non ∧ Q (.bl (!decide (x = .non))) H) (tVar 4) (tC .non))) [some (.ref l), some (.ref ou), some (.ref nn), some (.bl bg), some V.non] H' false := fun H' R k => ⟨_, rfl, rfl, _, rfl, by rw [show (!decide (V.non = V.non)) = false from rfl]; exact k H' (Same.refl _)⟩
      refine s_if false (t_and false false (tN H3) fun z => Bool.noConfusion z) (fun _ _ z => Bool.noConfusion z) fun H4 s4 _ => ?_
      refine s_if false (tN H4) (fun _ _ z => Bool.noConfusion z) fun H5 s5 _ => ?_
      have s35 := (s3.trans s4).trans s5
      have eo5 := s5 _ _ (s4 _ _ eo)
      have en5 := s5 _ _ (s4 _ _ en)
      have hn5 := (hn.same s4).same s5
      cases bg with
      | false =>
        have hz := hbg rfl
        subst hz
        have hyz : ys = [] := by
          obtain ⟨_, _, _, _, _, h⟩ := hn
          exact List.eq_nil_of_length_eq_zero h.len
        subst hyz
        refine s_if true (t_not false (t_bv (ev_v rfl))) (fun H6 s6 _ => ?_) fun _ _ z => Bool.noConfusion z
        exact ⟨ws, [], dn, [], nn, true, _, rfl, s35.trans s6, s6 _ _ eo5, s6 _ _ en5, hnn, hne, hn5.same s6, by omega, Nat.zero_le _, Nat.zero_le _, QOk.nil, hone, fun z => Bool.noConfusion z, hrun⟩
      | true =>
        refine s_if false (t_not true (t_bv (ev_v rfl))) (fun _ _ z => Bool.noConfusion z) fun H6 s6 _ => ?_
        have s36 := s35.trans s6
        have eo6 := s6 _ _ eo5
        have en6 := s6 _ _ en5
        have hn6 := hn5.same s6
        have hylen : ys.length = iq.length := let ⟨_, _, _, _, _, h⟩ := hn; h.len
        -- behind the append
        have rest : ∀ {H7 : Hp} {v : V}, Same H H7 → H7 ou = some (.lst ws) → H7 nn = some (.lst ys) → (NewQ G0 [ou, nn] H7 fun G => QsAt c G ws dn) → (NewQ G0 [ou, nn] H7 fun G => QAt c G v (strongQ iq)) → ∀ {in2 : Addr}, upd H7 ou (.lst (ws ++ [v])) in2 = none →
            ∃ (ws' ys' : List V) (dn' iq' : List Qc) (nn' : Addr) (bg' : Bool) (x4' : Option V), [some (V.ref l), some (V.ref ou), some (V.ref in2), some (V.bl false), some V.non] = [some (V.ref l), some (V.ref ou), some (V.ref nn'), some (V.bl bg'), x4'] ∧ Same H (upd (upd H7 ou (.lst (ws ++ [v]))) in2 (.lst [])) ∧ upd (upd H7 ou (.lst (ws ++ [v]))) in2 (.lst []) ou = some (.lst ws') ∧ upd (upd H7 ou (.lst (ws ++ [v]))) in2 (.lst []) nn' = some (.lst ys') ∧ H nn' = none ∧ nn' ≠ ou ∧ (NewQ G0 [ou, nn'] (upd (upd H7 ou (.lst (ws ++ [v]))) in2 (.lst [])) fun G => QsAt c G ws' dn' ∧ QsAt c G ys' iq') ∧ ws'.length ≤ i + 1 ∧ ys'.length ≤ i + 1 ∧ lenQ iq' ≤ i + 1 ∧ QOk iq' ∧ OneQ iq' ∧ (bg' = false → iq' = []) ∧ dn' ++ wsGo (if bg' then some iq' else none) (ps.drop (i + 1)) = wsGo none ps := by
          intro H7 v s7 eo7 en7 hd7 hv7 in2 hin2
          have s8 : Same H (upd H7 ou (.lst (ws ++ [v]))) := same_grow hou s7
          have e8 : upd H7 ou (.lst (ws ++ [v])) ou = some (.lst (ws ++ [v])) := upd_same
          have hne2 : in2 ≠ ou := fun z => by rw [z, e8] at hin2; cases hin2
          refine ⟨ws ++ [v], [], dn ++ [strongQ iq], [], in2, false, _, rfl, s8.trans (same_new hin2 _), same_new hin2 _ _ _ e8, upd_same, s8.free hin2, hne2, ?_, by rw [List.length_append, List.length_cons, List.length_nil]; omega, Nat.zero_le _, Nat.zero_le _, QOk.nil, (fun _ z => nomatch z), fun _ => rfl, by rw [List.append_assoc]; exact hrun⟩
          have j : NewQ G0 [ou, nn] (upd H7 ou (.lst (ws ++ [v]))) fun G => QsAt c G (ws ++ [v]) (dn ++ [strongQ iq]) ∧ QsAt c G [] [] := NewQ.upd (NewQ.join hd7 hv7 mo_Qs mo_Q fun G h1 h2 => ⟨h1.snoc h2, trivial⟩) List.mem_cons_self
          exact (((j.less (W' := [ou]) fun b hb => by rw [List.mem_singleton.mp hb]; exact List.mem_cons_self).wide hin2).less fun b hb => by
            rcases List.mem_cons.mp hb with z | z
            · rw [z]; exact List.mem_cons_of_mem _ List.mem_cons_self
            · rw [List.mem_singleton.mp z]; exact List.mem_cons_self).same (same_new hin2 _)
        refine ⟨_, rfl, .inl ⟨rfl, _, SqL.of eo6⟩, ?_⟩
        refine t_eq0 (K := K) (ta := tVar 2) (ev_v rfl) (SqL.of en6) _ fun H7 s7 => ?_
        have s37 := s36.trans s7
        have eo7 := s7 _ _ eo6
        have en7 := s7 _ _ en6
        have hn7 := hn6.same s7
        by_cases hyz : ys = []
        · subst hyz
          have hiz : iq = [] := List.eq_nil_of_length_eq_zero hylen.symm
          refine ite2 (fun _ => ?_) (fun z => absurd rfl z)
          refine ⟨ou, _, _, rfl, rfl, eo7, by rw [hs]; omega, big (show (0 : Nat) ≤ 1000000 by decide), fun in2 hin2 => ?_⟩
          dsimp only [gName, List.set_cons_succ, List.set_cons_zero]
          refine rest s37 eo7 en7 (hn7.map fun G h => h.1) (NewQ.triv ?_) hin2
          subst hiz
          rfl
        · refine ite2 (fun z => absurd (List.isEmpty_iff.mp z) hyz) (fun _ => ?_)
          refine ⟨_, rfl, G0, [ou, nn], nn, ys, iq, rfl, s0.trans s37, fun b hb => ?_, en7, hn7.map fun G h => h.2, hqo, by omega, by omega, fun r as H8 s8 hr0 er hPC => ?_⟩
          · rcases List.mem_cons.mp hb with z | z
            · rw [z, eo7]; simp
            · rw [List.mem_singleton.mp z, en7]; simp
          intro y dx hy hdx hyd
          have s38 := s37.trans s8
          have hry : r ≠ y := fun z => by rw [z, hy] at er; cases er
          have hrd : r ≠ dx := fun z => by rw [z, hdx] at er; cases er
          refine ⟨y, dx, r, _, rfl, upd_same, by rw [upd_ne hry, upd_ne hrd]; exact er, fun p hp => ⟨rfl, ?_⟩⟩
          have hpy : p ≠ y := fun z => by rw [z, upd_same] at hp; cases hp
          have s9 : Same H8 (upd (upd H8 dx (.own y)) y (.ins c.Strong dx [])) := same_grow hy (same_new hdx _)
          have hp8 : H8 p = none := s9.free hp
          generalize hH9 : upd (upd (upd (upd H8 dx (.own y)) y (.ins c.Strong dx [])) p (.lst (as.map V.ref))) y (.ins c.Strong dx [("parts", .ref p)]) = H9
          have s89 : Same H8 H9 := by rw [← hH9]; exact same_grow hy (s9.trans (same_new hp _))
          have e9y : H9 y = some (.ins c.Strong dx [("parts", .ref p)]) := by rw [← hH9]; exact upd_same
          have e9p : H9 p = some (.lst (as.map V.ref)) := by rw [← hH9, upd_ne hpy]; exact upd_same
          refine ⟨ou, _, _, rfl, rfl, s89 _ _ (s8 _ _ eo7), by rw [hs]; omega, big (show (0 : Nat) ≤ 1000000 by decide), fun in2 hin2 => ?_⟩
          dsimp only [gName, List.set_cons_succ, List.set_cons_zero]
          refine rest (s38.trans s89) (s89 _ _ (s8 _ _ eo7)) (s89 _ _ (s8 _ _ en7)) (((hn7.same s8).same s89).map fun G h => h.1) ?_ hin2
          refine NewQ.join (hPC.same s89) (NewQ.of (H3 := H8) (R := fun G => G y = some (.ins c.Strong dx [("parts", .ref p)]) ∧ G p = some (.lst (as.map V.ref))) (s0.trans s38) (fun b hb z => ?_) ⟨by rw [dif_at hy]; exact e9y, by rw [dif_at hp8]; exact e9p⟩) mo_PCs (fun G G' s h => ⟨s _ _ h.1, s _ _ h.2⟩) fun G h1 h2 => ?_
          · rcases List.mem_cons.mp hb with z2 | z2
            · rw [z2, s8 _ _ eo7] at z; cases z
            · rw [List.mem_singleton.mp z2, s8 _ _ en7] at z; cases z
          · have hiz : iq ≠ [] := fun z => hyz (List.eq_nil_of_length_eq_zero (by rw [hylen, z]; rfl))
            have : strongQ iq = .part (.strong (ones (mgGo [] iq))) := by
              unfold strongQ
              rw [if_neg (by simp [hiz])]
            rw [this]
            exact ⟨y, rfl, dx, p, as, h2.1, h2.2, h1.ones (mg_ones iq [] hone)⟩
    · have hxn : x ≠ .non := by
        intro z
        subst z
        cases pc with
        | star => exact hstar rfl
        | sign _ => exact nomatch hpa
        | code _ => obtain ⟨_, e, _⟩ := hpa; exact nomatch e
        | note _ => obtain ⟨_, e, _⟩ := hpa; exact nomatch e
        | link _ _ => obtain ⟨_, e, _⟩ := hpa; exact nomatch e
      have tN : ∀ H', Tells (tTest (tOp (fun x y H Q => y = .non ∧ Q (.bl (!decide (x = .non))) H) (tVar 4) (tC .non))) [some (.ref l), some (.ref ou), some (.ref nn), some (.bl bg), some x] H' true := fun H' R k => ⟨_, rfl, rfl, _, rfl, by rw [decide_eq_false hxn]; exact k H' (Same.refl _)⟩
      have hq3 : ∀ {H' : Hp}, Same H H' → NewQ G0 [ou, nn] H' fun G => QAt c G x (toQ pc) := fun s' => (NewQ.old (H3 := H) (R := fun G => PcAt c G x pc) s' s0 (fun b hb => by
        rcases List.mem_cons.mp hb with z | z
        · rw [z]; exact hou
        · rw [List.mem_singleton.mp z]; exact hnn) hpa).map fun G h => h.toQ hstar
      cases bg with
      | true =>
        refine s_if true (t_and true true (tN H3) fun _ H4 s4 => t_bv (ev_v rfl)) (fun H4 s4 _ => ?_) fun _ _ z => Bool.noConfusion z
        have en4 := s4 _ _ en
        have s34 := s3.trans s4
        refine ⟨_, rfl, .inl ⟨rfl, _, SqL.of en4⟩, _, rfl, nn, _, _, rfl, rfl, en4, by rw [hs]; omega, ?_⟩
        have hrun : dn ++ wsGo (some iq) (pc :: ps.drop (i + 1)) = wsGo none ps := hrun
        rw [ws_some_one hstar] at hrun
        refine ⟨ws, ys ++ [x], dn, iq ++ [toQ pc], nn, true, _, rfl, same_grow hnn s34, (upd_ne (Ne.symm hne)).trans (s4 _ _ eo), upd_same, hnn, hne, ?_, by omega, by rw [List.length_append, List.length_cons, List.length_nil]; omega, ?_, ?_, hone.snoc pc, fun z => Bool.noConfusion z, hrun⟩
        · refine NewQ.upd ?_ (List.mem_cons_of_mem _ List.mem_cons_self)
          exact NewQ.join (hn.same s4) (hq3 s34) (fun G G' s h => ⟨h.1.same s, h.2.same s⟩) mo_Q fun G h1 h2 => ⟨h1.1, h1.2.snoc h2⟩
        · have := lenQ_toQ pc
          rw [lenQ_app]
          omega
        · exact hqo.app (QOk.cons (fun l z => ok_toQ (fun y e => by subst e; exact hok y (List.mem_of_getElem? hpc)) z) QOk.nil)
      | false =>
        refine s_if false (t_and true false (tN H3) fun _ H4 s4 => t_bv (ev_v rfl)) (fun _ _ z => Bool.noConfusion z) fun H4 s4 _ => ?_
        refine s_if true (tN H4) (fun H5 s5 _ => ?_) fun _ _ z => Bool.noConfusion z
        have s45 := s4.trans s5
        have eo5 := s45 _ _ eo
        have s35 := s3.trans s45
        refine ⟨_, rfl, .inl ⟨rfl, _, SqL.of eo5⟩, _, rfl, ou, _, _, rfl, rfl, eo5, by rw [hs]; omega, ?_⟩
        have hrun : dn ++ wsGo none (pc :: ps.drop (i + 1)) = wsGo none ps := hrun
        rw [ws_none_one hstar] at hrun
        refine ⟨ws ++ [x], ys, dn ++ [toQ pc], iq, nn, false, _, rfl, same_grow hou s35, upd_same, (upd_ne hne).trans (s45 _ _ en), hnn, hne, ?_, by rw [List.length_append, List.length_cons, List.length_nil]; omega, by omega, by omega, hqo, hone, hbg, by rw [List.append_assoc]; exact hrun⟩
        refine NewQ.upd ?_ List.mem_cons_self
        exact NewQ.join (hn.same s45) (hq3 s35) (fun G G' s h => ⟨h.1.same s, h.2.same s⟩) mo_Q fun G h1 h2 => ⟨h1.1.snoc h2, h1.2⟩
  · rintro σ H3 ⟨ws, ys, dn, iq, nn, bg, x4, rfl, s3, eo, en, hnn, hne, hn, hwl, hyl, hiq, hqo, hone, hbg, hrun⟩
    rw [hulen, List.drop_length] at hrun
    have fin : ∀ {ws' : List V} {dn' : List Qc} {H5 : Hp}, Same H H5 → H5 ou = some (.lst ws') → H5 nn = some (.lst ys) → ws'.length ≤ us.length + 1 → (NewQ G0 [ou, nn] H5 fun G => QsAt c G ws' dn' ∧ QsAt c G ys iq) → dn' ++ iq = wsGo none ps → ∃ v, [some (V.ref l), some (V.ref ou), some (V.ref nn), some (V.bl bg), x4][1]? = some (some v) ∧ ∃ v2, [some (V.ref l), some (V.ref ou), some (V.ref nn), some (V.bl bg), x4][2]? = some (some v2) ∧ rCat v v2 H5 Q := fun {ws' dn' H5} s5 eo5 en5 hl5 hn5 e5 =>
      ⟨_, rfl, _, rfl, ou, nn, _, _, rfl, rfl, eo5, en5, by rw [hs]; omega, fun r hr0 => q r _ _ (s5.trans (same_new hr0 _)) (s5.free hr0) upd_same (by
        have h := (hn5.same (same_new hr0 (.lst (ws' ++ ys)))).dif (fun G G' s h => ⟨h.1.same s, h.2.same s⟩)
        rw [← e5]
        exact h.1.app h.2)⟩
    cases bg with
    | true =>
      refine s_if true (t_bv (ev_v rfl)) (fun H5 s5 _ => ?_) fun _ _ z => Bool.noConfusion z
      have eo5 := s5 _ _ eo
      refine ⟨_, rfl, .inl ⟨rfl, _, SqL.of eo5⟩, ou, _, _, rfl, rfl, eo5, by rw [hs]; omega, ?_⟩
      refine fin (same_grow hou (s3.trans s5)) upd_same ((upd_ne hne).trans (s5 _ _ en)) (by rw [List.length_append, List.length_cons, List.length_nil]; omega) (dn' := dn ++ [.txt [42]]) ?_ (by rw [List.append_assoc]; exact hrun)
      refine NewQ.upd ?_ List.mem_cons_self
      exact NewQ.join (hn.same s5) (NewQ.triv (R := fun G => QAt c G (V.str "*") (.txt [42])) rfl) (fun G G' s h => ⟨h.1.same s, h.2.same s⟩) mo_Q fun G h1 h2 => ⟨h1.1.snoc h2, h1.2⟩
    | false =>
      have hz := hbg rfl
      refine s_if false (t_bv (ev_v rfl)) (fun _ _ z => Bool.noConfusion z) fun H5 s5 _ => ?_
      refine fin (s3.trans s5) (s5 _ _ eo) (s5 _ _ en) (by omega) (hn.same s5) ?_
      rw [hz]
      exact hrun
/-! parts_of -/
abbrev sPartsOf : Stmt := top 20
theorem scPartsOf : FnScope ["text"] ["text"] (defScope sPartsOf) := ⟨rfl, rfl, rfl, by decide +kernel, rfl, by decide +kernel, by decide +kernel⟩
def spPartsOf (c : Cp) : Sp := fun vs H Q _ => ∃ t : List Nat, vs = [vS t] ∧ t.length ≤ 100000 ∧ Asc t ∧ ∀ r as H', Same H H' → H r = none → H' r = some (.lst (as.map V.ref)) → PCs c (dif H H') as (partsC t) → Q (.ref r) H'
theorem ok_partsOf {f : Addr} {fd : FuncData} (F : Fun K "parts_of" "parts_of" sPartsOf f fd) (T : TxI K mg c BT) (D_pieces_of : Def P w K mg base 5 "pieces_of" ["text"] (spPieces c)) (D_with_strong : Def P w K mg base 4 "with_strong" ["pieces"] (spStrongs c)) (D_merged : Def P w K mg base 3 "merged" ["pieces"] (spMerged c)) : FnOk P w K mg base CX0 6 f fd ["text"] (spPartsOf c) := by
  have sc := scPartsOf
  refine F.ok sc (fun vs H Q E h => ?_) (fun cdv A outer s H vs Q E hr h => ?_)
  · obtain ⟨t, rfl, _⟩ := h
    rfl
  obtain ⟨t, rfl, hl, ha, q⟩ := h
  refine of_XB (xb1 (xret (xcD D_merged (hr.mono (by omega)) (xac (xcD D_with_strong (hr.mono (by omega)) (xac (xcD D_pieces_of (hr.mono (by omega)) (xac (xv 0) xa0)) xa0)) xa0)))) ?_
  have hp := pieces_len _ t (Nat.le_refl _)
  have hok := pieces_ok _ t (Nat.le_refl _) ha
  have hsz := ws_size (piecesC t) none
  have h1 : lenQ (wsGo none (piecesC t)) ≤ (piecesC t).length + 0 := hsz.1
  have h2 : (wsGo none (piecesC t)).length ≤ (piecesC t).length + 0 := hsz.2
  refine ⟨_, rfl, t, rfl, hl, ha, fun r1 us H1 s1 hr1 e1 k1 => ?_⟩
  refine ⟨H, r1, us, piecesC t, rfl, s1, e1, k1, hok, by omega, fun r2 ws H2 s2 hr2 e2 k2 => ?_⟩
  have s12 := s1.trans s2
  refine ⟨H, [], r2, ws, wsGo none (piecesC t), rfl, s12, (fun _ z => nomatch z), e2, NewQ.of (H3 := H) (Same.refl _) (fun _ z => nomatch z) k2, ws_ok _ none hok (fun _ e => nomatch e), by omega, by omega, fun r as H3 s3 hr3 e3 k3 => ?_⟩
  exact q r as H3 (s12.trans s3) (s12.free hr3) e3 (k3.dif mo_PCs)
end
end K4

set_option Elab.async false
set_option linter.all false
set_option maxRecDepth 100000
/-! Parts said: by two functions that are handed in. -/
namespace L2
open PySem PySem.Spec PyProof.Rows
section
variable {X : Cx} {k : Nat} {scope : Scope} {cl : List (Str × Addr)} {C : Addr} {N' : List Str} {fp : List Addr} {s : Shared} {H : Hp} {o e : Expr} {ta : TE} {t : TA} {m : Str} {apos pos : Pos} {es : List Expr}
theorem xmVC {pl : Sem Bool} (he : XE (compX X scope cl C N' fp s H) o ta) (hr : Room k X.A) (ha : XA (compX X scope cl C N' fp s H) (e :: es) t) (hst : noStars (e :: es) = true := by rfl)
    (ht : eval (.Call (.Attribute o m apos) (e :: es) [] pos) (compX X scope cl C N' fp s H).env = (do
      let ov ← eval o (compX X scope cl C N' fp s H).env
      standAt apos.atName
      let (f, first) ← holding [ov] (getMethod ov m pl)
      callWith pos f first (backTo pos (starEach (e :: es) (compX X scope cl C N' fp s H).env)) (backToKw pos (keywordEach [] (compX X scope cl C N' fp s H).env))) := by rfl) :
    XE (compX X scope cl C N' fp s H) (.Call (.Attribute o m apos) (e :: es) [] pos) (tMethV X k m ta t) := xmV (X := compX X scope cl C N' fp s H) (pl := pl) he hr ha hst ht
end
end L2
namespace Lw
open PySem L2 Lm
def said1 (f g : List Nat → List Nat) : P1 → List Nat
  | .plain s => s.cps.toList
  | .code s => [39] ++ s.cps.toList ++ [39]
  | .link w n => w.cps.toList ++ [32, 40] ++ f n.cps.toList ++ [41]
  | .note n => [91] ++ g n.cps.toList ++ [93]
def saidC (f g : List Nat → List Nat) : PC → List Nat
  | .one p => said1 f g p
  | .strong ps => [42] ++ (ps.map (said1 f g)).flatten ++ [42]
def Asc1 : P1 → Prop
  | .plain s => Asc s.cps.toList
  | .code s => Asc s.cps.toList
  | .link w n => Asc w.cps.toList ∧ Asc n.cps.toList
  | .note n => Asc n.cps.toList
def AscC : PC → Prop
  | .one p => Asc1 p
  | .strong ps => ∀ p ∈ ps, Asc1 p
def SayOk (f : List Nat → List Nat) : Prop := ∀ n, Asc n → Asc (f n)
theorem asc_said1 {f g : List Nat → List Nat} (hf : SayOk f) (hg : SayOk g) : ∀ {p : P1}, Asc1 p → Asc (said1 f g p)
  | .plain _, h => h
  | .code _, h => asc_app (asc_app (by unfold Asc; decide) h) (by unfold Asc; decide)
  | .link _ _, h => asc_app (asc_app (asc_app h.1 (by unfold Asc; decide)) (hf _ h.2)) (by unfold Asc; decide)
  | .note _, h => asc_app (asc_app (by unfold Asc; decide) (hg _ h)) (by unfold Asc; decide)
theorem asc_flat {l : List (List Nat)} (h : ∀ x ∈ l, Asc x) : Asc l.flatten := fun c hc => by
  obtain ⟨x, hx, hcx⟩ := List.mem_flatten.mp hc
  exact h x hx c hcx
theorem asc_saidC {f g : List Nat → List Nat} (hf : SayOk f) (hg : SayOk g) : ∀ {p : PC}, AscC p → Asc (saidC f g p)
  | .one _, h => asc_said1 hf hg h
  | .strong _, h => asc_app (asc_app (by unfold Asc; decide) (asc_flat fun x hx => by
      obtain ⟨p, hp, rfl⟩ := List.mem_map.mp hx
      exact asc_said1 hf hg (h p hp))) (by unfold Asc; decide)
def spSay (f : List Nat → List Nat) : Sp := fun vs H Q _ => ∃ n : List Nat, vs = [vS n] ∧ n.length ≤ 100000 ∧ ∀ H', Same H H' → Q (vS (f n)) H'
def spSaid (c : Cp) (gl gn : Addr) (f g : List Nat → List Nat) (R : PC → Prop) : Sp := fun vs H Q _ => ∃ a p, vs = [.ref a, .ref gl, .ref gn] ∧ PCAt c H a p ∧ R p ∧ AscC p ∧ (saidC f g p).length ≤ 100000 ∧ ∀ H', Same H H' → Q (vS (saidC f g p)) H'
def spSaids (c : Cp) (gl gn : Addr) (f g : List Nat → List Nat) (R : PC → Prop) : Sp := fun vs H Q _ => ∃ (l : Addr) (as : List Addr) (ps : List PC), vs = [.ref l, .ref gl, .ref gn] ∧ H l = some (.lst (as.map V.ref)) ∧ PCs c H as ps ∧ (∀ p ∈ ps, R p ∧ AscC p) ∧ as.length ≤ 100000 ∧ ((ps.map (saidC f g)).flatten).length ≤ 100000 ∧ ∀ H', Same H H' → Q (vS ((ps.map (saidC f g)).flatten)) H'
def SaidV (P : Program) (w : World) (K : PySem.W.Frag) (mg : Str → Option Value) (base : Heap) (k : Nat) (c : Cp) (gl gn : Addr) (f g : List Nat → List Nat) (R : PC → Prop) : Prop :=
  ∀ p, R p → AscC p → (saidC f g p).length ≤ 100000 → ∀ H a, PCAt c H a p → ∃ C dx fs sp, H a = some (.ins C dx fs) ∧ fs.lookup ("said" : Str) = none ∧ MethV P w K mg base k C "said" ["self", "link", "note"] sp ∧ ∀ Q E, (∀ H', Same H H' → Q (vS (saidC f g p)) H') → sp [.ref a, .ref gl, .ref gn] H Q E
theorem flat_le {l : List (List Nat)} {x : List Nat} (h : x ∈ l) : x.length ≤ l.flatten.length := by
  induction l with
  | nil => cases h
  | cons y l ih =>
    rw [List.flatten_cons, List.length_append]
    rcases List.mem_cons.mp h with z | z
    · rw [z]; omega
    · have := ih z; omega
theorem dn_strs {H : Hp} : ∀ {vs : List V} {ls : List (List Nat)}, DnAll H vs (ls.map fun l => PyData.str (S l)) → vs = ls.map vS
  | _, [], .nil => rfl
  | _, l :: ls, .cons (.str _ _ _) r => by rw [dn_strs r]; rfl
theorem range_get {α β : Type} (ps : List α) (d : α) (f : α → β) : (List.range ps.length).map (fun i => f (ps.getD i d)) = ps.map f := by
  apply List.ext_getElem?
  intro i
  rw [List.getElem?_map, List.getElem?_map]
  by_cases hi : i < ps.length
  · rw [List.getElem?_range hi, List.getElem?_eq_getElem hi]
    simp only [Option.map_some, List.getD_eq_getElem?_getD, List.getElem?_eq_getElem hi, Option.getD_some]
  · rw [List.getElem?_eq_none (by rw [List.length_range]; omega), List.getElem?_eq_none (by omega)]
    rfl
end Lw

set_option Elab.async false
set_option linter.all false
set_option maxRecDepth 100000
set_option maxHeartbeats 2000000
namespace K4
open PySem L2 Lm Lw
section
variable {P : Program} {w : World} {K : PySem.W.Frag} {mg : Str → Option Value} {base : Heap} {c : Cp} {BT : Addr} {gl gn : Addr} {sf sg : List Nat → List Nat} {x1 x2 : Str}
abbrev sPlainSaid : Stmt := meth 6 3
abbrev sCodeSaid : Stmt := meth 7 3
abbrev sStrongSaid : Stmt := meth 8 3
abbrev sLinkSaid : Stmt := meth 9 3
abbrev sMarkSaid : Stmt := meth 10 3
theorem scPlainSaid : FnScope ["self", "link", "note"] ["self", "link", "note"] (defScope sPlainSaid) := ⟨rfl, rfl, rfl, by decide +kernel, rfl, by decide +kernel, by decide +kernel⟩
theorem scCodeSaid : FnScope ["self", "link", "note"] ["self", "link", "note"] (defScope sCodeSaid) := ⟨rfl, rfl, rfl, by decide +kernel, rfl, by decide +kernel, by decide +kernel⟩
theorem scStrongSaid : FnScope ["self", "link", "note"] ["self", "link", "note"] (defScope sStrongSaid) := ⟨rfl, rfl, rfl, by decide +kernel, rfl, by decide +kernel, by decide +kernel⟩
theorem scLinkSaid : FnScope ["self", "link", "note"] ["self", "link", "note"] (defScope sLinkSaid) := ⟨rfl, rfl, rfl, by decide +kernel, rfl, by decide +kernel, by decide +kernel⟩
theorem scMarkSaid : FnScope ["self", "link", "note"] ["self", "link", "note"] (defScope sMarkSaid) := ⟨rfl, rfl, rfl, by decide +kernel, rfl, by decide +kernel, by decide +kernel⟩
theorem sz {n : Nat} (h : n ≤ 100000) : n ≤ sizeLine := by rw [sizeLine_eq]; omega
theorem strLen (x : Str) : x.length = x.cps.toList.length := by conv => lhs; rw [← S_of x, S_len]
theorem appLen (x y : Str) : (x ++ y).length = x.length + y.length := by rw [← S_of x, ← S_of y, S_app, S_len, S_len, S_len, List.length_append]
theorem ok_PlainSaid {f : Addr} {fd : FuncData} (F : Fun K "said" "Plain.said" sPlainSaid f fd) (T : TxI K mg c BT) : FnOk P w K mg base CX0 3 f fd ["self", "link", "note"] (spSaid c gl gn sf sg fun p => ∃ s, p = .one (.plain s)) := by
  have sc := scPlainSaid
  refine F.ok sc (fun vs H Q E h => ?_) (fun cdv A outer s H vs Q E hr h => ?_)
  · obtain ⟨a, p, rfl, _⟩ := h
    rfl
  obtain ⟨a, p, rfl, ha, ⟨s, rfl⟩, _, hl, q⟩ := h
  obtain ⟨g, dx, e⟩ := ha
  refine of_XB (xb1 (xret (xfld (xv 0)))) ?_
  refine ⟨_, rfl, a, _, dx, _, _, rfl, e, T.o_Plain.cls, T.a_Plain, rfl, ?_⟩
  have h := q H (Same.refl H)
  rw [show vS (saidC sf sg (.one (.plain s))) = V.str s from congrArg V.str (S_of s)] at h
  exact h
theorem ok_CodeSaid {f : Addr} {fd : FuncData} (F : Fun K "said" "Code.said" sCodeSaid f fd) (T : TxI K mg c BT) : FnOk P w K mg base CX0 3 f fd ["self", "link", "note"] (spSaid c gl gn sf sg fun p => ∃ s, p = .one (.code s)) := by
  have sc := scCodeSaid
  refine F.ok sc (fun vs H Q E h => ?_) (fun cdv A outer s H vs Q E hr h => ?_)
  · obtain ⟨a, p, rfl, _⟩ := h
    rfl
  obtain ⟨a, p, rfl, ha, ⟨s, rfl⟩, _, hl, q⟩ := h
  obtain ⟨g, dx, e⟩ := ha
  refine of_XB (xb1 (xret (xop op_add_str (xop op_add_str xstr (xfld (xv 0))) xstr))) ?_
  have hl : ([39] ++ s.cps.toList ++ [39]).length ≤ 100000 := hl
  rw [List.length_append, List.length_append, ← strLen] at hl
  have h1 : (("'" : Str)).length = 1 := rfl
  refine ⟨_, rfl, a, _, dx, _, _, rfl, e, T.o_Code.cls, T.a_Code, rfl, _, _, rfl, rfl, sz (by rw [h1]; simp at hl; omega), _, _, rfl, rfl, sz (by rw [appLen, h1]; simp at hl; omega), ?_⟩
  have h := q H (Same.refl H)
  have e3 : vS (saidC sf sg (.one (.code s))) = V.str (("'" : Str) ++ s ++ "'") := by
    show V.str (S ([39] ++ s.cps.toList ++ [39])) = _
    rw [← S_app, ← S_app, S_of]
    rfl
  rw [e3] at h
  exact h
theorem ok_MarkSaid {f : Addr} {fd : FuncData} (F : Fun K "said" "Mark.said" sMarkSaid f fd) (T : TxI K mg c BT) (hV : FnV P w K mg base 2 gn [x2] (spSay sg)) : FnOk P w K mg base CX0 3 f fd ["self", "link", "note"] (spSaid c gl gn sf sg fun p => ∃ s, p = .one (.note s)) := by
  have sc := scMarkSaid
  refine F.ok sc (fun vs H Q E h => ?_) (fun cdv A outer s H vs Q E hr h => ?_)
  · obtain ⟨a, p, rfl, _⟩ := h
    rfl
  obtain ⟨a, p, rfl, ha, ⟨s, rfl⟩, _, hl, q⟩ := h
  obtain ⟨g, dx, e⟩ := ha
  refine of_XB (xb1 (xret (xop op_add_str (xop op_add_str xstr (xcV (i := 2) (k := 2) rfl (Or.inl rfl) (hr.mono (by omega)) (xac (xfld (xv 0)) xa0))) xstr))) ?_
  have hl : ([91] ++ sg s.cps.toList ++ [93]).length ≤ 100000 := hl
  rw [List.length_append, List.length_append] at hl
  have h1 : (("[" : Str)).length = 1 := rfl
  have h2 : (("]" : Str)).length = 1 := rfl
  refine ⟨gn, _, _, rfl, hV, _, rfl, a, _, dx, _, _, rfl, e, T.o_Mark.cls, T.a_Mark, rfl, s.cps.toList, by show [V.str s] = [V.str (S _)]; rw [S_of], by rw [← strLen]; exact g.2, fun H1 s1 => ?_⟩
  refine ⟨_, _, rfl, rfl, sz (by rw [h1, S_len]; simp at hl; omega), _, _, rfl, rfl, sz (by rw [appLen, h1, h2, S_len]; simp at hl; omega), ?_⟩
  have h := q H1 s1
  have e3 : vS (saidC sf sg (.one (.note s))) = V.str (("[" : Str) ++ S (sg s.cps.toList) ++ "]") := by
    show V.str (S ([91] ++ sg s.cps.toList ++ [93])) = _
    rw [← S_app, ← S_app]
    rfl
  rw [e3] at h
  exact h
theorem ok_LinkSaid {f : Addr} {fd : FuncData} (F : Fun K "said" "Link.said" sLinkSaid f fd) (T : TxI K mg c BT) (hV : FnV P w K mg base 2 gl [x1] (spSay sf)) : FnOk P w K mg base CX0 3 f fd ["self", "link", "note"] (spSaid c gl gn sf sg fun p => ∃ s n, p = .one (.link s n)) := by
  have sc := scLinkSaid
  refine F.ok sc (fun vs H Q E h => ?_) (fun cdv A outer s H vs Q E hr h => ?_)
  · obtain ⟨a, p, rfl, _⟩ := h
    rfl
  obtain ⟨a, p, rfl, ha, ⟨s, n, rfl⟩, _, hl, q⟩ := h
  obtain ⟨g, g2, dx, e⟩ := ha
  refine of_XB (xb1 (xret (xop op_add_str (xop op_add_str (xop op_add_str (xfld (xv 0)) xstr) (xcV (i := 1) (k := 2) rfl (Or.inl rfl) (hr.mono (by omega)) (xac (xfld (xv 0)) xa0))) xstr))) ?_
  have hl : (s.cps.toList ++ [32, 40] ++ sf n.cps.toList ++ [41]).length ≤ 100000 := hl
  rw [List.length_append, List.length_append, List.length_append, ← strLen] at hl
  simp at hl
  have h1 : ((" (" : Str)).length = 2 := rfl
  have h2 : ((")" : Str)).length = 1 := rfl
  refine ⟨_, rfl, a, _, dx, _, _, rfl, e, T.o_Link.cls, T.a_Linkw, rfl, _, _, rfl, rfl, sz (by rw [h1]; omega), ?_⟩
  refine ⟨gl, _, _, rfl, hV, _, rfl, a, _, dx, _, _, rfl, e, T.o_Link.cls, T.a_Linkn, rfl, n.cps.toList, by show [V.str n] = [V.str (S _)]; rw [S_of], by rw [← strLen]; exact g2.2, fun H1 s1 => ?_⟩
  refine ⟨_, _, rfl, rfl, sz (by rw [appLen, h1, S_len (sf n.cps.toList)]; omega), _, _, rfl, rfl, sz (by rw [appLen, appLen, h1, h2, S_len (sf n.cps.toList)]; omega), ?_⟩
  have h := q H1 s1
  have e3 : vS (saidC sf sg (.one (.link s n))) = V.str (s ++ " (" ++ S (sf n.cps.toList) ++ ")") := by
    show V.str (S (s.cps.toList ++ [32, 40] ++ sf n.cps.toList ++ [41])) = _
    rw [← S_app, ← S_app, ← S_app, S_of]
    rfl
  rw [e3] at h
  exact h
abbrev sSaids : Stmt := top 12
theorem scSaids : FnScope ["parts", "link", "note"] ["parts", "link", "note"] (defScope sSaids) := ⟨rfl, rfl, rfl, by decide +kernel, rfl, by decide +kernel, by decide +kernel⟩
theorem ok_saids {f : Addr} {fd : FuncData} {k : Nat} {R : PC → Prop} (F : Fun K "said_of" "said_of" sSaids f fd) (hf : SayOk sf) (hg : SayOk sg) (hM : SaidV P w K mg base k c gl gn sf sg R) : FnOk P w K mg base CX0 (k + 1) f fd ["parts", "link", "note"] (spSaids c gl gn sf sg R) := by
  have sc := scSaids
  refine F.ok sc (fun vs H Q E h => ?_) (fun cdv A outer s H vs Q E hr h => ?_)
  · obtain ⟨l, as, ps, rfl, _⟩ := h
    rfl
  obtain ⟨l, as, ps, rfl, el, hps, hR, hl, hz, q⟩ := h
  refine of_XB (xb1 (xret (xm PySem.F.plainAttrs_str PySem.F.slot_str_join PySem.F.type_str_join mt_join xstr (xac (xlc (cl := [("note", s.heap.objs.size + 2), ("link", s.heap.objs.size + 1)]) (own := ["part"]) (fr := [1, 2]) (N' := ["part", "link", "note"]) rfl (compN (xs := ["link", "note"]) ⟨rfl, ⟨rfl, trivial⟩⟩ ⟨rfl, rfl, .inl rfl, .inl rfl, ⟨rfl, rfl, .inl rfl, .inl rfl, trivial⟩⟩ (by decide +kernel)) (by decide +kernel) (by decide +kernel) (by with_unfolding_all rfl)
    (xil (xv 0))
    (fun _ _ _ _ => xgn (i := 0) (show (["part", "link", "note"] : List Str).Nodup by decide +kernel) rfl (Or.inl rfl)) (fun _ _ _ _ => xq0) (fun _ _ _ _ => (xmVC (k := k) (xv 0) (hr.mono (by omega)) (xac (xv 1) (xac (xv 2) xa0))))) xa0)))) ?_
  have hlen := hps.len
  refine ⟨rfl, _, rfl, l, rfl, ⟨_, SqL.of el⟩, ?_⟩
  refine lc_newD (fun i => PyData.str (S (saidC sf sg (ps.getD i (.one (.note "")))))) (SqL.of el) (by rw [List.length_map]; exact hl) ?_ ?_
  · intro i x hx H2 s2 C N hC
    rw [List.getElem?_map] at hx
    cases hai : as[i]? with
    | none => rw [hai] at hx; cases hx
    | some a =>
    rw [hai] at hx
    cases hx
    obtain ⟨p, hp1, hp2⟩ := hps.get hai
    have hmem := List.mem_of_getElem? hp1
    have hpl : (saidC sf sg p).length ≤ 100000 := Nat.le_trans (flat_le (List.mem_map_of_mem hmem)) hz
    obtain ⟨Cc, dx, fs, sp, e1, e2, V, hsp⟩ := hM p (hR p hmem).1 (hR p hmem).2 hpl H2 a (hp2.same s2)
    refine ⟨(nfLe.refl _ _ _).set (by decide) _, iteT (B := N H2) ⟨_, rfl, a, Cc, dx, fs, _, sp, rfl, e1, e2, V, _, rfl, _, rfl, hsp _ _ fun H4 s4 => hC _ H4 s4 ?_⟩⟩
    rw [List.getD_eq_getElem?_getD, hp1]
    exact (strG_S (asc_saidC hf hg (hR p hmem).2) hpl).dn
  · intro D H2 hD s2 dD
    rw [List.length_map, hlen, range_get ps _ fun p => PyData.str (S (saidC sf sg p))] at dD
    obtain ⟨a', xs, ds, ev, ed, ea, hds, _⟩ | ⟨_, h2⟩ := Dn.lstCase dD.out
    · cases ev
      cases ed
      have hxs : xs = (ps.map (saidC sf sg)).map vS := dn_strs (by rw [List.map_map]; exact hds)
      subst hxs
      refine ⟨S [], _, (ps.map (saidC sf sg)).map S, rfl, rfl, SqL.of (by rw [ea, List.map_map, List.map_map, List.map_map]; rfl), fit_join _ hz, ?_⟩
      rw [joinT_S, glue_flat]
      exact q H2 s2
    · exact absurd rfl (h2 _)
theorem ok_StrongSaid {f : Addr} {fd : FuncData} {k : Nat} (F : Fun K "said" "Strong.said" sStrongSaid f fd) (T : TxI K mg c BT) (D_said_of : Def P w K mg base k "said_of" ["parts", "link", "note"] (spSaids c gl gn sf sg R1)) : FnOk P w K mg base CX0 (k + 1) f fd ["self", "link", "note"] (spSaid c gl gn sf sg fun p => ∃ ps, p = .strong ps ∧ ps.length ≤ 100000) := by
  have sc := scStrongSaid
  refine F.ok sc (fun vs H Q E h => ?_) (fun cdv A outer s H vs Q E hr h => ?_)
  · obtain ⟨a, p, rfl, _⟩ := h
    rfl
  obtain ⟨a, p, rfl, ha, ⟨ps, rfl, hpl⟩, hasc, hl, q⟩ := h
  obtain ⟨dx, l, as, e, el, hps⟩ := ha
  refine of_XB (xb1 (xret (xop op_add_str (xop op_add_str xstr (xcD D_said_of (hr.mono (by omega)) (xac (xfld (xv 0)) (xac (xv 1) (xac (xv 2) xa0))))) xstr))) ?_
  have hl : ([42] ++ (ps.map (said1 sf sg)).flatten ++ [42]).length ≤ 100000 := hl
  rw [List.length_append, List.length_append] at hl
  simp only [List.length_cons, List.length_nil] at hl
  have em : (ps.map PC.one).map (saidC sf sg) = ps.map (said1 sf sg) := by rw [List.map_map]; rfl
  have h1 : (("*" : Str)).length = 1 := rfl
  refine ⟨_, rfl, a, _, dx, _, _, rfl, e, T.o_Strong.cls, T.a_Strong, rfl, _, rfl, _, rfl, l, as, ps.map .one, rfl, el, hps.toC, fun p hp => ?_, by rw [hps.len]; exact hpl, by rw [em]; omega, fun H1 s1 => ?_⟩
  · obtain ⟨x, hx, rfl⟩ := List.mem_map.mp hp
    exact ⟨by unfold R1; simp [one?], hasc x hx⟩
  · rw [em]
    refine ⟨_, _, rfl, rfl, sz (by rw [h1, S_len]; omega), _, _, rfl, rfl, sz (by rw [appLen, h1, S_len]; omega), ?_⟩
    have h := q H1 s1
    have e3 : vS (saidC sf sg (.strong ps)) = V.str (("*" : Str) ++ S ((ps.map (said1 sf sg)).flatten) ++ "*") := by
      show V.str (S ([42] ++ (ps.map (said1 sf sg)).flatten ++ [42])) = _
      rw [← S_app, ← S_app]
      rfl
    rw [e3] at h
    exact h
end
end K4

set_option Elab.async false
set_option linter.all false
set_option maxRecDepth 100000
set_option maxHeartbeats 2000000
namespace K4
open PySem L2 Lm Lw PySem.Builtin.Int
structure TxL (mg : Str → Option Value) : Prop where
  n_len : mg "len" = none
  n_range : mg "range" = none
  n_int : mg "int" = none
theorem sg_at1 {m : List Nat} (h : 0 < m.length) (x : Int) : 0 ≤ x % (m.length : Int) ∧ (x % (m.length : Int)).toNat < m.length := by
  have h1 := Int.emod_nonneg x (show (m.length : Int) ≠ 0 by omega)
  have h2 := Int.emod_lt_of_pos x (show (0 : Int) < (m.length : Int) by omega)
  omega
theorem sg_mem {m : List Nat} (h : 0 < m.length) (n0 : Int) : ∀ t : Nat, (sgGo m n0 t).2.length = t ∧ (∀ c ∈ (sgGo m n0 t).2, c ∈ m)
  | 0 => ⟨rfl, fun _ z => nomatch z⟩
  | t + 1 => by
    obtain ⟨h1, h2⟩ := sg_mem h n0 t
    refine ⟨by show ((sgGo m n0 t).2 ++ [_]).length = _; rw [List.length_append, h1]; rfl, fun c hc => ?_⟩
    rcases List.mem_append.mp (show c ∈ (sgGo m n0 t).2 ++ [_] from hc) with z | z
    · exact h2 c z
    · rw [List.mem_singleton.mp z, List.getD_eq_getElem?_getD, List.getElem?_eq_getElem (sg_at1 h _).2]
      exact List.getElem_mem _
abbrev vI (ns : List Int) : List V := ns.map V.int
theorem bits64 {i : Int} (h1 : -(2 ^ 64) < i) (h2 : i < 2 ^ 64) : intBits i ≤ 1048576 := Nat.le_trans (intBits_le_64 h1 h2) (by decide)
section
variable {P : Program} {w : World} {K : PySem.W.Frag} {mg : Str → Option Value} {base : Heap}
abbrev sCell : Stmt := top 32
theorem scCell : FnScope ["_law_script", "_law_k"] ["_law_script", "_law_k"] (defScope sCell) := ⟨rfl, rfl, rfl, by decide +kernel, rfl, by decide +kernel, by decide +kernel⟩
def spCell (K : PySem.W.Frag) : Sp := fun vs H Q _ => ∃ (a : Addr) (ns : List Int) (k : Int), vs = [.ref a, .int k] ∧ 0 ≤ k ∧ SqL K H a (vI ns) ∧ (∀ n ∈ ns, intBits n ≤ 1048576) ∧ ∀ i, intBits i ≤ 1048576 → Q (.int i) H
theorem ok_cell {f : Addr} {fd : FuncData} (F : Fun K "_law_cell" "_law_cell" sCell f fd) (T : TxL mg) : FnOk P w K mg base CX0 1 f fd ["_law_script", "_law_k"] (spCell K) := by
  have sc := scCell
  refine F.ok sc (fun vs H Q E h => ?_) (fun cdv A outer s H vs Q E hr h => ?_)
  · obtain ⟨a, ns, k, rfl, _⟩ := h
    rfl
  obtain ⟨a, ns, k, rfl, k0, hq, hn, q⟩ := h
  refine of_XB (xbc (xif (xcmpT op_lt (xv 1) (xcB call_len_seq T.n_len PySem.boot_len (xac (xv 0) xa0)) (nomark _)) (xb1 (xret (xix ix_list (xv 0) (xv 1) (fun _ _ => rfl)))) xb0)
    (xb1 (xret xint))) ?_
  refine ⟨_, rfl, _, rfl, a, _, rfl, .inl hq, _, _, rfl, rfl, _, rfl, ?_⟩
  rw [List.length_map]
  refine ite2 (fun c => ?_) (fun _ => q 0 (by decide))
  have c := of_decide_eq_true c
  obtain ⟨j, rfl⟩ : ∃ j : Nat, k = (j : Int) := ⟨k.toNat, (Int.toNat_of_nonneg k0).symm⟩
  have hk : j < ns.length := by omega
  exact ⟨_, rfl, _, rfl, a, _, _, .int ns[j], rfl, rfl, hq, atI_nat (by rw [List.getElem?_map, List.getElem?_eq_getElem hk]; rfl), q _ (hn _ (List.getElem_mem hk))⟩
abbrev sMixed : Stmt := top 33
theorem scMixed : FnScope ["_law_cell_here", "_law_k", "_law_number"] ["_law_cell_here", "_law_k"] (defScope sMixed) := ⟨rfl, rfl, rfl, by decide +kernel, rfl, by decide +kernel, by decide +kernel⟩
def spMixed : Sp := fun vs H Q _ => ∃ c k : Int, vs = [.int c, .int k] ∧ intBits c ≤ 1048576 ∧ 0 ≤ k ∧ k ≤ 10000 ∧ Q (.int (mixF c k)) H
theorem ok_mixed {f : Addr} {fd : FuncData} (F : Fun K "_law_mixed" "_law_mixed" sMixed f fd) : FnOk P w K mg base CX0 1 f fd ["_law_cell_here", "_law_k"] spMixed := by
  have sc := scMixed
  refine F.ok sc (fun vs H Q E h => ?_) (fun cdv A outer s H vs Q E hr h => ?_)
  · obtain ⟨c, k, rfl, _⟩ := h
    rfl
  obtain ⟨c, k, rfl, hc, h0, h1, q⟩ := h
  refine of_XB (xbc (xset (i := 2) sc.nd rfl (Or.inl rfl) (xop op_add (xop op_add (xop op_add (xv 0) (xop op_mul (xop op_mul xint (xv 1)) (xv 1))) (xop op_mul xint (xv 1))) xint))
    (xb1 (xret (xop op_fdiv (xop op_mod (xop op_mul (xop op_mod (xop op_mulB (xv 2) (xv 2)) xint) xint) xint) xint)))) ?_
  have hk2 : 0 ≤ 7919 * k * k ∧ 7919 * k * k ≤ 791900000000 := by
    constructor
    · exact Int.mul_nonneg (by omega) h0
    · calc 7919 * k * k ≤ 79190000 * 10000 := Int.mul_le_mul (by omega) h1 h0 (by omega)
        _ = 791900000000 := rfl
  have hn : intBits (c + 7919 * k * k + 13 * k + 5) ≤ 1048580 := by
    have h2 := intBits_add_le (intBits_add_le (intBits_add_le hc (intBits_le_64 (k := 7919 * k * k) (by omega) (by omega))) (intBits_le_64 (k := 13 * k) (by omega) (by omega))) (intBits_le_64 (k := 5) (by omega) (by omega))
    exact Nat.le_trans h2 (by decide)
  refine ⟨_, rfl, _, rfl, _, _, rfl, rfl, .inl ⟨by decide, by decide⟩, _, rfl, _, _, rfl, rfl, .inr ⟨by omega, by omega⟩, _, _, rfl, rfl, _, rfl, _, _, rfl, rfl, .inl ⟨by decide, by decide⟩, _, _, rfl, rfl, _, _, rfl, rfl, ?_⟩
  refine ⟨_, rfl, _, rfl, _, _, rfl, rfl, IntMulOk.of_le hn hn (by decide), _, _, rfl, rfl, show (0 : Int) < 1000000007 by decide, _, _, rfl, rfl, .inr ⟨by decide, by decide⟩, _, _, rfl, rfl, show (0 : Int) < 998244353 by decide, _, _, rfl, rfl, ⟨by decide, by decide⟩, q⟩
abbrev sMenu : Stmt := top 34
theorem scMenu : FnScope ["_law_kind", "_law_letters", "_law_marks"] ["_law_kind"] (defScope sMenu) := ⟨rfl, rfl, rfl, by decide +kernel, rfl, by decide +kernel, by decide +kernel⟩
def spMenu : Sp := fun vs H Q _ => ∃ k : Int, vs = [.int k] ∧ ∀ H', Same H H' → Q (vS (menuF k)) H'
theorem ok_menu {f : Addr} {fd : FuncData} (F : Fun K "_law_menu" "_law_menu" sMenu f fd) : FnOk P w K mg base CX0 1 f fd ["_law_kind"] spMenu := by
  have sc := scMenu
  refine F.ok sc (fun vs H Q E h => ?_) (fun cdv A outer s H vs Q E hr h => ?_)
  · obtain ⟨k, rfl, _⟩ := h
    rfl
  obtain ⟨k, rfl, q⟩ := h
  refine of_XB (xbc (xset (i := 1) sc.nd rfl (Or.inl rfl) xstr)
    (xbc (xset (i := 2) sc.nd rfl (Or.inl rfl) xstr)
    (xb1 (xret (xix ix_list (xlst (xac (xv 1) (xac (xop op_add_str (xv 2) xstr) (xac (xop op_add_str (xop op_add_str (xv 1) (xv 2)) xstr) xa0)))) (xop op_mod (xv 0) xint) (fun _ _ => rfl)))))) ?_
  have hs : sizeLine = 16777216 := sizeLine_eq
  refine ⟨_, rfl, _, rfl, _, _, rfl, rfl, by rw [hs]; decide +kernel, _, rfl, _, rfl, _, _, rfl, rfl, by rw [hs]; decide +kernel, _, _, rfl, rfl, by rw [hs]; decide +kernel, big (show (3 : Nat) ≤ 1000000 by decide), fun p hp => ?_⟩
  have e1 : V.str (Str.ofString "abcdefghijklmnopqrstuvwxyzABCDEFGHIJKLMNOPQRSTUVWXYZ0123456789") = vS mnLet := by decide +kernel
  have e2 : V.str (Str.ofString "\\*`[]|-+=>~:^()" ++ Str.ofString "ab") = vS (mnMark ++ [97, 98]) := by decide +kernel
  have e3 : V.str (Str.ofString "abcdefghijklmnopqrstuvwxyzABCDEFGHIJKLMNOPQRSTUVWXYZ0123456789" ++ Str.ofString "\\*`[]|-+=>~:^()" ++ Str.ofString "!\"#$&',./;<?@_{}") = vS (mnLet ++ mnMark ++ mnMore) := by decide +kernel
  have hm := Int.emod_nonneg k (show (3 : Int) ≠ 0 by decide)
  have hm2 := Int.emod_lt_of_pos k (show (0 : Int) < 3 by decide)
  refine ⟨_, rfl, _, _, rfl, rfl, show (0 : Int) < 3 by decide, p, _, k % 3, vS (menuF k), rfl, rfl, SqL.of upd_same, ?_, q _ (same_new hp _)⟩
  unfold menuF
  rcases (show k % 3 = 0 ∨ k % 3 = 1 ∨ k % 3 = 2 by omega) with z | z | z
  · rw [z, if_pos rfl]; exact atI_nat (j := 0) (congrArg some e1)
  · rw [z, if_neg (by decide), if_pos rfl]; exact atI_nat (j := 1) (congrArg some e2)
  · rw [z, if_neg (by decide), if_neg (by decide)]; exact atI_nat (j := 2) (congrArg some e3)
abbrev sSigns : Stmt := top 35
theorem scSigns : FnScope ["_law_number", "_law_size", "_law_menu_here", "_law_found", "_law_turn"] ["_law_number", "_law_size", "_law_menu_here"] (defScope sSigns) := ⟨rfl, rfl, rfl, by decide +kernel, rfl, by decide +kernel, by decide +kernel⟩
def spSigns : Sp := fun vs H Q _ => ∃ (n size : Int) (m : List Nat), vs = [.int n, .int size, vS m] ∧ (0 < m.length ∧ m.length ≤ 1000) ∧ 0 ≤ size ∧ size ≤ 1000 ∧ 0 ≤ n ∧ n ≤ 4294967296 ∧ Q (vS (signsF n size m)) H
theorem ok_signs {f : Addr} {fd : FuncData} (F : Fun K "_law_signs" "_law_signs" sSigns f fd) (T : TxL mg) : FnOk P w K mg base CX0 1 f fd ["_law_number", "_law_size", "_law_menu_here"] spSigns := by
  have sc := scSigns
  refine F.ok sc (fun vs H Q E h => ?_) (fun cdv A outer s H vs Q E hr h => ?_)
  · obtain ⟨n, size, m, rfl, _⟩ := h
    rfl
  obtain ⟨n, size, m, rfl, hm, s0, s1, n0, n1, q⟩ := h
  refine of_XB (xbc (xset (i := 3) sc.nd rfl (Or.inl rfl) xstr)
    (xbc (xfor PassesOwn.never rfl (xir1 rfl T.n_range (xac (xv 1) xa0)) (xgn (i := 4) sc.nd rfl (Or.inl rfl))
    (xbc (xset (i := 0) sc.nd rfl (Or.inl rfl) (xop op_mod (xop op_add (xop op_add (xop op_mul (xv 0) xint) (xop op_mul (xop op_mul xint (xv 4)) (xv 4))) xint) xint))
    (xb1 (xset (i := 3) sc.nd rfl (Or.inl rfl) (xop op_add_str (xv 3) (xix ix_str (xv 2) (xop op_mod (xop op_fdiv (xv 0) xint) (xcB call_len_str T.n_len PySem.boot_len (xac (xv 2) xa0))) (fun _ _ => rfl)))))))
    (xb1 (xret (xv 3))))) ?_
  have hs : sizeLine = 16777216 := sizeLine_eq
  rw [show start ["_law_number", "_law_size", "_law_menu_here", "_law_found", "_law_turn"] [V.int n, V.int size, vS m] = [some (V.int n), some (V.int size), some (vS m), none, none] from rfl]
  obtain ⟨sz, rfl⟩ : ∃ sz : Nat, size = (sz : Int) := ⟨size.toNat, (Int.toNat_of_nonneg s0).symm⟩
  refine ⟨_, rfl, _, rfl, by omega, by omega, ?_⟩
  rw [Int.toNat_natCast]
  have hbd : ∀ t : Nat, 0 ≤ (sgGo m n t).1 ∧ (sgGo m n t).1 ≤ 4294967296 := fun t => by
    cases t with
    | zero => exact ⟨n0, n1⟩
    | succ t =>
      have h1 := Int.emod_nonneg ((sgGo m n t).1 * 48271 + 7 * (t : Int) * (t : Int) + 11) (show (2147483647 : Int) ≠ 0 by decide)
      have h2 := Int.emod_lt_of_pos ((sgGo m n t).1 * 48271 + 7 * (t : Int) * (t : Int) + 11) (show (0 : Int) < 2147483647 by decide)
      show 0 ≤ sgStep t (sgGo m n t).1 ∧ sgStep t (sgGo m n t).1 ≤ 4294967296
      unfold sgStep
      omega
  have hml := hm.2
  refine for_range (n := sz) (fun t σ H' => ∃ x4, σ = [some (.int (sgGo m n t).1), some (.int (sz : Nat)), some (vS m), some (vS (sgGo m n t).2), x4] ∧ H' = H) ⟨none, rfl, rfl⟩ ?_ ?_
  · rintro t σ H' ht ⟨x4, rfl, rfl⟩
    obtain ⟨b1, b2⟩ := hbd t
    obtain ⟨l1, l2⟩ := sg_mem hm.1 n t
    have ht2 : 0 ≤ 7 * (t : Int) * (t : Int) := Int.mul_nonneg (by omega) (by omega)
    refine ⟨_, rfl, _, _, rfl, rfl, .inr ⟨by decide, by decide⟩, _, rfl, _, _, rfl, rfl, .inl ⟨by decide, by decide⟩, _, rfl, _, _, rfl, rfl, .inr ⟨by omega, by omega⟩, _, _, rfl, rfl, _, _, rfl, rfl, _, _, rfl, rfl, show (0 : Int) < 2147483647 by decide, ?_⟩
    dsimp only [gName, List.set_cons_succ, List.set_cons_zero]
    rw [show ((sgGo m n t).1 * 48271 + 7 * (0 + (t : Int)) * (0 + (t : Int)) + 11) % 2147483647 = sgStep t (sgGo m n t).1 by rw [Int.zero_add]; rfl]
    have hat := sg_at1 hm.1 (sgStep t (sgGo m n t).1 / 13)
    have evI : Ev (tOp rIxS (tVar 2) (tOp (rI (fun _ j => 0 < j) fun i j => .int (i % j)) (tOp (rI CDiv fun i j => .int (i / j)) (tVar 0) (tC (.int 13))) (tCB (fun xs H Q => ∃ z, xs = [.str z] ∧ z.length ≤ sizeLine ∧ Q (.int z.length) H) (tCons (tVar 2) tNil)))) [some (.int (sgStep t (sgGo m n t).1)), some (.int (sz : Nat)), some (vS m), some (vS (sgGo m n t).2), some (.int (0 + (t : Int)))] H' (vS [m.getD (sgStep t (sgGo m n t).1 / 13 % (m.length : Int)).toNat 0]) := by
      intro R r
      refine ⟨_, rfl, _, rfl, _, _, rfl, rfl, ⟨by decide, by decide⟩, _, rfl, _, rfl, bigS (by omega), _, _, rfl, rfl, by rw [S_len]; have := hm.1; omega, ?_⟩
      rw [S_len]
      exact w_ixs (by omega) hat.1 (by omega) r
    refine ⟨_, rfl, evI _ ⟨_, _, rfl, rfl, ?_, ?_⟩⟩
    · rw [S_len, S_len, hs]; show _ + 1 ≤ _; omega
    · rw [catS]
      exact ⟨_, rfl, rfl⟩
  · rintro σ H' ⟨x4, rfl, rfl⟩
    exact ⟨_, rfl, q⟩
abbrev sText : Stmt := top 36
theorem scText : FnScope ["_law_number", "_law_most", "_law_words", "_law_turn", "_law_own"] ["_law_number", "_law_most"] (defScope sText) := ⟨rfl, rfl, rfl, by decide +kernel, rfl, by decide +kernel, by decide +kernel⟩
def spText : Sp := fun vs H Q _ => ∃ n most : Int, vs = [.int n, .int most] ∧ 0 ≤ n ∧ n ≤ 4294967296 ∧ 1 ≤ most ∧ most ≤ 100 ∧ ∀ H', Same H H' → Q (vS (textF n most)) H'
theorem ok_text {f : Addr} {fd : FuncData} (F : Fun K "_law_text" "_law_text" sText f fd) (T : TxL mg) (D_l_mixed : Def P w K mg base 1 "_law_mixed" ["_law_cell_here", "_law_k"] spMixed) (D_l_menu : Def P w K mg base 1 "_law_menu" ["_law_kind"] spMenu) (D_l_signs : Def P w K mg base 1 "_law_signs" ["_law_number", "_law_size", "_law_menu_here"] spSigns) :
    FnOk P w K mg base CX0 2 f fd ["_law_number", "_law_most"] spText := by
  have sc := scText
  refine F.ok sc (fun vs H Q E h => ?_) (fun cdv A outer s H vs Q E hr h => ?_)
  · obtain ⟨n, most, rfl, _⟩ := h
    rfl
  obtain ⟨n, most, rfl, n0, n1, m0, m1, q⟩ := h
  refine of_XB (xbc (xset (i := 2) sc.nd rfl (Or.inl rfl) (xlst xa0))
    (xbc (xfor PassesOwn.never rfl (xir1 rfl T.n_range (xac (xop op_add xint (xop op_mod (xv 0) (xv 1))) xa0)) (xgn (i := 3) sc.nd rfl (Or.inl rfl))
    (xbc (xset (i := 4) sc.nd rfl (Or.inl rfl) (xcD D_l_mixed (hr.mono (by omega)) (xac (xv 0) (xac (xop op_add (xop op_mul xint (xv 3)) xint) xa0))))
    (xb1 (xexpr (xm PySem.F.plainAttrs_list PySem.F.slot_list_append PySem.F.type_list_append mt_append (xv 2) (xac (xcD D_l_signs (hr.mono (by omega)) (xac (xv 4) (xac (xop op_add xint (xop op_mod (xop op_fdiv (xv 4) xint) xint)) (xac (xcD D_l_menu (hr.mono (by omega)) (xac (xop op_fdiv (xv 4) xint) xa0)) xa0)))) xa0))))))
    (xb1 (xret (xm PySem.F.plainAttrs_str PySem.F.slot_str_join PySem.F.type_str_join mt_join xstr (xac (xv 2) xa0)))))) ?_
  have hs : sizeLine = 16777216 := sizeLine_eq
  rw [show start ["_law_number", "_law_most", "_law_words", "_law_turn", "_law_own"] [V.int n, V.int most] = [some (V.int n), some (V.int most), none, none, none] from rfl]
  have hm := Int.emod_nonneg n (show most ≠ 0 by omega)
  have hm2 := Int.emod_lt_of_pos n (show 0 < most by omega)
  refine ⟨big (show (0 : Nat) ≤ 1000000 by decide), fun p hp => ?_⟩
  have s1 := same_new hp (.lst [])
  have ep1 : upd H p (.lst []) p = some (.lst []) := upd_same
  dsimp only [gName, List.set_cons_succ, List.set_cons_zero]
  generalize upd H p (.lst []) = H1 at s1 ep1 ⊢
  refine ⟨_, rfl, _, rfl, _, _, rfl, rfl, show (0 : Int) < most by omega, _, _, rfl, rfl, _, rfl, by omega, by omega, ?_⟩
  obtain ⟨cnt, hcnt⟩ : ∃ cnt : Nat, cnt = (1 + n % most).toNat := ⟨_, rfl⟩
  rw [← hcnt]
  refine for_range (n := cnt) (fun t σ H' => ∃ x3 x4, σ = [some (.int n), some (.int most), some (.ref p), x3, x4] ∧ Same H H' ∧ H' p = some (.lst (((List.range t).map (wordF n)).map vS))) ⟨none, none, rfl, s1, ep1⟩ ?_ ?_
  · rintro t σ H2 ht ⟨x3, x4, rfl, s2, ep2⟩
    have hmx := mixF_ok n (3 * (t : Int) + 1)
    refine ⟨_, rfl, _, rfl, _, _, rfl, rfl, .inl ⟨by decide, by decide⟩, _, _, rfl, rfl, n, 3 * (0 + (t : Int)) + 1, rfl, bits64 (by omega) (by omega), by omega, by omega, ?_⟩
    dsimp only [gName, List.set_cons_succ, List.set_cons_zero]
    rw [Int.zero_add, show mixF n (3 * (t : Int) + 1) = ownF n t from rfl]
    rw [show mixF n (3 * (t : Int) + 1) = ownF n t from rfl] at hmx
    have hw := word_ok n t
    refine ⟨_, rfl, .inl ⟨rfl, _, SqL.of ep2⟩, _, rfl, _, rfl, _, _, rfl, rfl, ⟨by decide, by decide⟩, _, _, rfl, rfl, show (0 : Int) < 6 by decide, _, _, rfl, rfl, _, rfl, _, _, rfl, rfl, ⟨by decide, by decide⟩, ownF n t / 50, rfl, fun H3 s3 => ?_⟩
    have ep3 := s3 _ _ ep2
    refine ⟨ownF n t, 1 + ownF n t / 7 % 6, menuF (ownF n t / 50), rfl, ⟨(menu_ok _).1, (menu_ok _).2.1⟩, by omega, by omega, by omega, by omega, p, _, _, rfl, rfl, ep3, by rw [List.length_map, List.length_map, List.length_range]; omega, ?_⟩
    refine ⟨_, _, rfl, same_grow (by
      cases e : H p with
      | none => rfl
      | some o => rw [e] at hp; cases hp) (s2.trans s3), ?_⟩
    rw [upd_same, List.range_succ, List.map_append, List.map_append]
    rfl
  · rintro σ H2 ⟨x3, x4, rfl, s2, ep2⟩
    have hl := (text_ok n most m0 m1).2
    refine ⟨rfl, _, rfl, S [32], p, ((List.range cnt).map (wordF n)).map S, rfl, rfl, SqL.of (by rw [ep2, map_S_V]), glue_fit (by unfold textF at hl; rw [← hcnt] at hl; omega), ?_⟩
    rw [joinT_S]
    have := q H2 s2
    unfold textF at this
    rw [← hcnt] at this
    exact this
abbrev sName7 : Stmt := top 37
theorem scName7 : FnScope ["_law_number", "_law_size", "_law_at"] ["_law_number"] (defScope sName7) := ⟨rfl, rfl, rfl, by decide +kernel, rfl, by decide +kernel, by decide +kernel⟩
def spName7 : Sp := fun vs H Q _ => ∃ n : Int, vs = [.int n] ∧ 0 ≤ n ∧ n ≤ 4294967296 ∧ ∀ H', Same H H' → Q (vS (nameF n)) H'
theorem ok_name7 {f : Addr} {fd : FuncData} (F : Fun K "_law_name" "_law_name" sName7 f fd) (T : TxL mg) (D_l_menu : Def P w K mg base 1 "_law_menu" ["_law_kind"] spMenu) (D_l_signs : Def P w K mg base 1 "_law_signs" ["_law_number", "_law_size", "_law_menu_here"] spSigns) :
    FnOk P w K mg base CX0 2 f fd ["_law_number"] spName7 := by
  have sc := scName7
  refine F.ok sc (fun vs H Q E h => ?_) (fun cdv A outer s H vs Q E hr h => ?_)
  · obtain ⟨n, rfl, _⟩ := h
    rfl
  obtain ⟨n, rfl, n0, n1, q⟩ := h
  refine of_XB (xbc (xset (i := 1) sc.nd rfl (Or.inl rfl) (xop op_add xint (xop op_mod (xop op_fdiv (xv 0) xint) xint)))
    (xbc (xif (xcmpT op_eq (xop op_mod (xv 0) xint) xint (nomark _)) (xb1 (xret (xcD D_l_signs (hr.mono (by omega)) (xac (xop op_fdiv (xv 0) xint) (xac (xv 1) (xac (xcD D_l_menu (hr.mono (by omega)) (xac xint xa0)) xa0)))))) xb0)
    (xbc (xset (i := 2) sc.nd rfl (Or.inl rfl) (xop op_mod (xop op_fdiv (xv 0) xint) (xv 1)))
    (xb1 (xret (xop op_add_str (xop op_add_str (xop op_mul_str xstr (xv 2)) (xcD D_l_signs (hr.mono (by omega)) (xac (xop op_fdiv (xv 0) xint) (xac xint (xac (xcD D_l_menu (hr.mono (by omega)) (xac xint xa0)) xa0))))) (xop op_mul_str xstr (xop op_sub (xop op_sub (xv 1) xint) (xv 2))))))))) ?_
  have hs : sizeLine = 16777216 := sizeLine_eq
  rw [show start ["_law_number", "_law_size", "_law_at"] [V.int n] = [some (V.int n), none, none] from rfl]
  refine ⟨_, rfl, _, _, rfl, rfl, ⟨by decide, by decide⟩, _, _, rfl, rfl, show (0 : Int) < 12 by decide, _, _, rfl, rfl, ?_⟩
  dsimp only [gName, List.set_cons_succ, List.set_cons_zero]
  have hz : 1 ≤ 1 + n / 3 % 12 ∧ 1 + n / 3 % 12 ≤ 12 := by omega
  have hmenu : menuF 0 = mnLet := rfl
  by_cases h3 : n % 3 = 0
  · refine s_yes (fun R k => ⟨_, rfl, _, _, rfl, rfl, show (0 : Int) < 3 by decide, rfl, _, rfl, ?_⟩) fun H1 s1 => ?_
    · rw [decide_eq_true (congrArg V.int h3)]
      exact k _ (Same.refl _)
    · refine ⟨_, rfl, _, _, rfl, rfl, ⟨by decide, by decide⟩, _, rfl, 0, rfl, fun H2 s2 => ⟨n / 40, 1 + n / 3 % 12, mnLet, rfl, ⟨menu_let.1, menu_let.2.1⟩, by omega, by omega, by omega, by omega, ?_⟩⟩
      have := q H2 (s1.trans s2)
      unfold nameF at this
      rw [if_pos h3] at this
      exact this
  · refine s_no1 (fun R k => ⟨_, rfl, _, _, rfl, rfl, show (0 : Int) < 3 by decide, rfl, _, rfl, ?_⟩) fun H1 s1 => ?_
    · rw [decide_eq_false (fun z => h3 (V.int.inj z))]
      exact k _ (Same.refl _)
    generalize hsz : 1 + n / 3 % 12 = size at hz ⊢
    have hm := Int.emod_nonneg (n / 40) (show size ≠ 0 by omega)
    have hm2 := Int.emod_lt_of_pos (n / 40) (show 0 < size by omega)
    refine ⟨_, rfl, _, _, rfl, rfl, ⟨by decide, by decide⟩, _, rfl, _, _, rfl, rfl, show 0 < size by omega, ?_⟩
    dsimp only [gName, List.set_cons_succ, List.set_cons_zero]
    obtain ⟨at_, hat⟩ : ∃ at_ : Nat, n / 40 % size = (at_ : Int) := ⟨_, (Int.toNat_of_nonneg hm).symm⟩
    have hsg := (signs_ok menu_let (n / 500) 1 (by omega)).2
    refine ⟨_, rfl, _, _, rfl, rfl, by decide, by rw [hat]; omega, by rw [hat]; omega, _, rfl, _, _, rfl, rfl, ⟨by decide, by decide⟩, 0, rfl, fun H2 s2 => ⟨n / 500, 1, mnLet, rfl, ⟨menu_let.1, menu_let.2.1⟩, by omega, by omega, by omega, by omega, _, _, rfl, rfl, ?_, _, rfl, _, _, rfl, rfl, _, rfl, _, _, rfl, rfl, _, _, rfl, rfl, by decide, by rw [hat]; omega, by rw [hat]; omega, _, _, rfl, rfl, ?_, ?_⟩⟩
    · rw [hat, show Txt.mul (Str.ofString "n") (at_ : Int) = S (List.replicate at_ 110) from mul_S 110 at_, S_len, S_len, List.length_replicate, hsg, hs]
      omega
    · rw [hat, show Txt.mul (Str.ofString "n") (at_ : Int) = S (List.replicate at_ 110) from mul_S 110 at_, S_app, S_len, List.length_append, List.length_replicate, hsg, hs]
      rw [show size - 1 - (at_ : Int) = ((size - 1 - at_).toNat : Nat) by omega, show Txt.mul (Str.ofString "n") (((size - 1 - (at_ : Int)).toNat : Nat) : Int) = S (List.replicate (size - 1 - at_).toNat 110) from mul_S 110 _, S_len, List.length_replicate]
      omega
    · have := q H2 (s1.trans s2)
      unfold nameF at this
      rw [if_neg h3, hsz, hat, Int.toNat_natCast, show ∀ a b c : List Nat, vS (a ++ b ++ c) = V.str (S a ++ S b ++ S c) from fun a b c => by rw [S_app, S_app]] at this
      rw [hat, show Txt.mul (Str.ofString "n") (at_ : Int) = S (List.replicate at_ 110) from mul_S 110 at_]
      rw [show size - 1 - (at_ : Int) = ((size - 1 - at_).toNat : Nat) by omega, show Txt.mul (Str.ofString "n") (((size - 1 - (at_ : Int)).toNat : Nat) : Int) = S (List.replicate (size - 1 - at_).toNat 110) from mul_S 110 _]
      exact this
end
end K4

set_option Elab.async false
set_option linter.all false
set_option maxRecDepth 100000
/-! Equality of deeper data; how deep data are. -/
namespace L2
open PySem PySem.Spec PyProof.Rows
section
variable {X : Cx}
/-- two things of one datum, up to 64 deep -/
def rEqW (K : PySem.W.Frag) (k : Bool) : R2 := fun x y H Q => ∃ d, Den K H x d ∧ Den K H y d ∧ d.depth ≤ 64 ∧ Q (.bl k) H
theorem shapedW {K : PySem.W.Frag} {H : Hp} {x : V} {d : PyData} (dx : Den K H x d) (hd : d.depth ≤ 64) : SeqAt.shaped d = true := by
  unfold SeqAt.shaped
  rw [dx.lay, Bool.true_and]
  exact decide_eq_true hd
theorem op_eqW (hu : X.A.units + 64 < cLine) : OpR X (compareOp .Eq) (rEqW X.K true) := by
  intro pins s σ H x y v u Q I rx ry h
  obtain ⟨d, dx, dy, hd, q⟩ := h
  obtain ⟨as, ra⟩ := dx.reads I rx
  obtain ⟨bs, rb⟩ := dy.reads I ry
  refine eq_dataH ra rb (shapedW dx hd) (shapedW dy hd) hu ?_
  rw [eqv_refl d dx.lay]
  exact ⟨.bl true, H, I, rfl, q⟩
theorem op_neW (hu : X.A.units + 64 < cLine) : OpR X (compareOp .NotEq) (rEqW X.K false) := by
  intro pins s σ H x y v u Q I rx ry h
  obtain ⟨d, dx, dy, hd, q⟩ := h
  obtain ⟨as, ra⟩ := dx.reads I rx
  obtain ⟨bs, rb⟩ := dy.reads I ry
  refine ne_dataH ra rb (shapedW dx hd) (shapedW dy hd) hu ?_
  rw [eqv_refl d dx.lay]
  exact ⟨.bl false, H, I, rfl, q⟩
end
end L2
namespace Lw
open PySem L2 Lm
theorem depthAll_le {n : Nat} : ∀ {ds : List PyData}, (∀ d ∈ ds, d.depth ≤ n) → PyData.depthAll ds ≤ n
  | [], _ => by unfold PyData.depthAll; omega
  | d :: ds, h => by
    have h1 := h d List.mem_cons_self
    have h2 := depthAll_le fun x hx => h x (List.mem_cons_of_mem _ hx)
    unfold PyData.depthAll
    omega
theorem depth_list {n : Nat} {ds : List PyData} (h : ∀ d ∈ ds, d.depth ≤ n) : (PyData.list ds).depth ≤ n + 1 := by
  have := depthAll_le h
  unfold PyData.depth
  omega
theorem depth_tup {n : Nat} {ds : List PyData} (h : ∀ d ∈ ds, d.depth ≤ n) : (PyData.tuple ds).depth ≤ n + 1 := by
  have := depthAll_le h
  unfold PyData.depth
  omega
theorem depth_str (x : Str) : (PyData.str x).depth = 0 := by unfold PyData.depth; rfl
theorem d1_depth (p : P1) : (d1 p).depth ≤ 1 := by
  cases p <;> (refine depth_tup fun d hd => ?_) <;> simp only [List.mem_cons, List.not_mem_nil, or_false] at hd <;> (rcases hd with rfl | rfl | rfl) <;> (rw [depth_str]; exact Nat.le_refl 0)
theorem dP_depth (p : PC) : (dP p).depth ≤ 3 := by
  cases p with
  | one p => exact Nat.le_trans (d1_depth p) (by decide)
  | strong ps =>
    refine depth_tup fun d hd => ?_
    simp only [List.mem_cons, List.not_mem_nil, or_false] at hd
    rcases hd with rfl | rfl
    · rw [depth_str]; decide
    · refine depth_list fun d hd => ?_
      obtain ⟨p, _, rfl⟩ := List.mem_map.mp hd
      exact d1_depth p
end Lw

set_option Elab.async false
set_option linter.all false
set_option maxRecDepth 100000
/-! What is told of a built text: parts joined, their sizes, units. -/
namespace Lw
open PySem L2 Lm
def atP : PC → List Atm
  | .one (.plain s) => s.cps.toList.map .sg
  | p => [.pt p]
def atPs (ps : List PC) : List Atm := ps.flatMap atP
theorem atPs_app (a b : List PC) : atPs (a ++ b) = atPs a ++ atPs b := List.flatMap_append
theorem atPs_cons (a : PC) (b : List PC) : atPs (a :: b) = atP a ++ atPs b := List.flatMap_cons
def sz1 : P1 → Nat
  | .plain s => s.cps.toList.length
  | .code s => s.cps.toList.length + 2
  | .link w n => w.cps.toList.length + n.cps.toList.length + 20
  | .note n => n.cps.toList.length + 20
def szC : PC → Nat
  | .one p => sz1 p
  | .strong ps => (ps.map sz1).sum + 2
def Ok1 : P1 → Prop
  | .plain s => Asc s.cps.toList ∧ s.cps.toList ≠ []
  | .code s => Asc s.cps.toList
  | .link w n => Asc w.cps.toList ∧ Asc n.cps.toList
  | .note n => Asc n.cps.toList
def OkC : PC → Prop
  | .one p => Ok1 p
  | .strong ps => ∀ p ∈ ps, Ok1 p
theorem Ok1.asc : ∀ {p : P1}, Ok1 p → Asc1 p
  | .plain _, h => h.1
  | .code _, h => h
  | .link _ _, h => h
  | .note _, h => h
theorem OkC.asc : ∀ {p : PC}, OkC p → AscC p
  | .one _, h => Ok1.asc h
  | .strong _, h => fun p hp => (h p hp).asc
theorem said_sz1 {f g : List Nat → List Nat} (hf : ∀ n, (f n).length ≤ n.length + 10) (hg : ∀ n, (g n).length ≤ n.length + 10) : ∀ p : P1, (said1 f g p).length ≤ sz1 p
  | .plain _ => Nat.le_refl _
  | .code s => by show ([39] ++ s.cps.toList ++ [39]).length ≤ _; rw [List.length_append, List.length_append]; show 1 + _ + 1 ≤ s.cps.toList.length + 2; omega
  | .link w n => by
    have := hf n.cps.toList
    show (w.cps.toList ++ [32, 40] ++ f n.cps.toList ++ [41]).length ≤ _
    rw [List.length_append, List.length_append, List.length_append]
    show _ + 2 + _ + 1 ≤ w.cps.toList.length + n.cps.toList.length + 20
    omega
  | .note n => by
    have := hg n.cps.toList
    show ([91] ++ g n.cps.toList ++ [93]).length ≤ _
    rw [List.length_append, List.length_append]
    show 1 + _ + 1 ≤ n.cps.toList.length + 20
    omega
theorem flat_sum {α : Type} (l : List α) (f : α → List Nat) (g : α → Nat) (h : ∀ x, (f x).length ≤ g x) : (l.map f).flatten.length ≤ (l.map g).sum := by
  induction l with
  | nil => exact Nat.le_refl 0
  | cons x l ih =>
    have := h x
    rw [List.map_cons, List.map_cons, List.flatten_cons, List.sum_cons, List.length_append]
    omega
theorem said_sz {f g : List Nat → List Nat} (hf : ∀ n, (f n).length ≤ n.length + 10) (hg : ∀ n, (g n).length ≤ n.length + 10) : ∀ p : PC, (saidC f g p).length ≤ szC p
  | .one p => said_sz1 hf hg p
  | .strong ps => by
    have := flat_sum ps (said1 f g) sz1 (said_sz1 hf hg)
    show ([42] ++ (ps.map (said1 f g)).flatten ++ [42]).length ≤ (ps.map sz1).sum + 2
    rw [List.length_append, List.length_append]
    show 1 + _ + 1 ≤ _
    omega
theorem said_all {f g : List Nat → List Nat} (hf : ∀ n, (f n).length ≤ n.length + 10) (hg : ∀ n, (g n).length ≤ n.length + 10) (ps : List PC) : (ps.map (saidC f g)).flatten.length ≤ (ps.map szC).sum := flat_sum ps _ _ (said_sz hf hg)
/-! atoms -/
def szA : List Atm → Nat
  | [] => 0
  | .sg _ :: r => 1 + szA r
  | .pt p :: r => szC p + szA r
theorem szA_app : ∀ a b : List Atm, szA (a ++ b) = szA a + szA b
  | [], b => by show szA b = 0 + szA b; omega
  | .sg _ :: a, b => by show 1 + szA (a ++ b) = 1 + szA a + szA b; rw [szA_app a b]; omega
  | .pt _ :: a, b => by show _ + szA (a ++ b) = _ + szA a + szA b; rw [szA_app a b]; omega
theorem szA_signs : ∀ l : List Nat, szA (l.map .sg) = l.length
  | [] => rfl
  | _ :: l => by show 1 + szA (l.map .sg) = l.length + 1; rw [szA_signs l]; omega
theorem fl_sz (acc : List Nat) : ((flA acc).map szC).sum = acc.length := by
  unfold flA
  cases acc with
  | nil => rfl
  | cons x l =>
    rw [if_neg (by simp)]
    show (S (x :: l)).cps.toList.length + 0 = _
    rw [S_list]
    rfl
theorem mgA_sz : ∀ (A : List Atm) (acc : List Nat), ((mgA acc A).map szC).sum = acc.length + szA A
  | [], acc => by show ((flA acc).map szC).sum = acc.length + 0; rw [fl_sz]; rfl
  | .sg c :: r, acc => by
    show ((mgA (acc ++ [c]) r).map szC).sum = acc.length + (1 + szA r)
    rw [mgA_sz r, List.length_append]
    show acc.length + 1 + szA r = _
    omega
  | .pt p :: r, acc => by
    show ((flA acc ++ p :: mgA [] r).map szC).sum = acc.length + (szC p + szA r)
    rw [List.map_append, List.sum_append, fl_sz, List.map_cons, List.sum_cons, mgA_sz r []]
    show acc.length + (szC p + (0 + szA r)) = _
    omega
theorem mgA_len : ∀ (A : List Atm) (acc : List Nat), (mgA acc A).length ≤ acc.length + A.length
  | [], acc => by
    show (flA acc).length ≤ _
    unfold flA
    split
    · show 0 ≤ _; omega
    · rename_i h
      cases acc with
      | nil => exact absurd rfl h
      | cons _ _ => show 1 ≤ _; rw [List.length_cons]; omega
  | .sg c :: r, acc => by
    have := mgA_len r (acc ++ [c])
    rw [List.length_append] at this
    show (mgA (acc ++ [c]) r).length ≤ _
    rw [List.length_cons]
    simp only [List.length_cons, List.length_nil] at this
    omega
  | .pt p :: r, acc => by
    have h1 := mgA_len r []
    have h2 := mgA_len [] acc
    show (flA acc ++ p :: mgA [] r).length ≤ _
    rw [List.length_append, List.length_cons, List.length_cons]
    have h2 : (flA acc).length ≤ acc.length + 0 := h2
    have h1 : (mgA [] r).length ≤ 0 + r.length := h1
    omega
def OkA : Atm → Prop
  | .sg c => c < 128
  | .pt p => OkC p
theorem mgA_ok : ∀ (A : List Atm) (acc : List Nat), (∀ x ∈ A, OkA x) → Asc acc → ∀ p ∈ mgA acc A, OkC p
  | [], acc, _, ha, p, hp => by
    have hp : p ∈ flA acc := hp
    unfold flA at hp
    split at hp
    · cases hp
    · rename_i h
      rw [List.mem_singleton.mp hp]
      show Asc (S acc).cps.toList ∧ (S acc).cps.toList ≠ []
      rw [S_list]
      exact ⟨ha, fun z => h (by rw [z]; rfl)⟩
  | .sg c :: r, acc, h, ha, p, hp => mgA_ok r (acc ++ [c]) (fun x hx => h x (List.mem_cons_of_mem _ hx)) (asc_app ha fun y hy => by rw [List.mem_singleton.mp hy]; exact h (.sg c) List.mem_cons_self) p hp
  | .pt q :: r, acc, h, ha, p, hp => by
    have hp : p ∈ flA acc ++ q :: mgA [] r := hp
    rcases List.mem_append.mp hp with z | z
    · exact mgA_ok [] acc (fun _ y => nomatch y) ha p z
    · rcases List.mem_cons.mp z with z | z
      · rw [z]; exact h (.pt q) List.mem_cons_self
      · exact mgA_ok r [] (fun x hx => h x (List.mem_cons_of_mem _ hx)) (fun _ y => nomatch y) p z
theorem atP_ok {p : PC} (h : OkC p) : ∀ x ∈ atP p, OkA x := by
  intro x hx
  match p, h, hx with
  | .one (.plain s), h, hx =>
    obtain ⟨y, hy, rfl⟩ := List.mem_map.mp hx
    exact h.1 y hy
  | .one (.code s), h, hx => rw [List.mem_singleton.mp hx]; exact h
  | .one (.link a b), h, hx => rw [List.mem_singleton.mp hx]; exact h
  | .one (.note s), h, hx => rw [List.mem_singleton.mp hx]; exact h
  | .strong ps, h, hx => rw [List.mem_singleton.mp hx]; exact h
theorem atPs_ok {ps : List PC} (h : ∀ p ∈ ps, OkC p) : ∀ x ∈ atPs ps, OkA x := fun x hx => by
  obtain ⟨p, hp, hx⟩ := List.mem_flatMap.mp hx
  exact atP_ok (h p hp) x hx
/-! ### plain ones side by side as one -/
def jn (found : List PC) (p : PC) : List PC := match p, found.getLast? with
  | .one (.plain s), some (.one (.plain q)) => found.dropLast ++ [.one (.plain (q ++ s))]
  | _, _ => found ++ [p]
def joinP (ps : List PC) : List PC := ps.foldl jn []
def NoPl (l : List PC) : Prop := ∀ s, l.getLast? ≠ some (.one (.plain s))
theorem jn_np {found : List PC} {p : PC} (h : p.isPlain = false) : jn found p = found ++ [p] := by
  unfold jn
  split
  · cases h
  · rfl
theorem jn_no {found : List PC} {p : PC} (h : NoPl found) : jn found p = found ++ [p] := by
  unfold jn
  split
  · rename_i s q e; exact absurd e (h q)
  · rfl
theorem jn_two {done : List PC} {q s : Str} : jn (done ++ [.one (.plain q)]) (.one (.plain s)) = done ++ [.one (.plain (q ++ s))] := by
  unfold jn
  rw [List.getLast?_concat, List.dropLast_concat]
theorem atP_np {p : PC} (h : p.isPlain = false) : atP p = [.pt p] := by
  match p, h with
  | .one (.code _), _ => rfl
  | .one (.link _ _), _ => rfl
  | .one (.note _), _ => rfl
  | .strong _, _ => rfl
theorem join_at : ∀ (ps done : List PC) (acc : List Nat), NoPl done → (∀ p ∈ ps, OkC p) → ps.foldl jn (done ++ flA acc) = done ++ mgA acc (atPs ps)
  | [], _, _, _, _ => rfl
  | p :: ps, done, acc, hd, hp => by
    have hps := fun q hq => hp q (List.mem_cons_of_mem _ hq)
    rw [List.foldl_cons, atPs_cons]
    by_cases hpl : p.isPlain = true
    · obtain ⟨s, rfl⟩ : ∃ s, p = .one (.plain s) := by
        match p, hpl with
        | .one (.plain s), _ => exact ⟨s, rfl⟩
      have hs : s.cps.toList ≠ [] := (hp _ List.mem_cons_self).2
      have e : jn (done ++ flA acc) (.one (.plain s)) = done ++ flA (acc ++ s.cps.toList) := by
        have fl : ∀ l : List Nat, l ≠ [] → flA l = [.one (.plain (S l))] := fun l hl => by
          unfold flA
          rw [if_neg (by simp [hl])]
        rw [fl (acc ++ s.cps.toList) (by simp [hs])]
        cases acc with
        | nil =>
          show jn (done ++ []) _ = _
          rw [List.append_nil, jn_no hd, List.nil_append, S_of]
        | cons x l =>
          rw [fl (x :: l) (by simp), jn_two, ← S_app, S_of]
      rw [e, join_at ps done _ hd hps]
      show _ = done ++ mgA acc (s.cps.toList.map .sg ++ atPs ps)
      rw [mgA_text]
    · have hpl := Bool.eq_false_iff.mpr hpl
      rw [jn_np hpl, atP_np hpl]
      have := join_at ps (done ++ flA acc ++ [p]) [] (fun s z => by
        rw [List.getLast?_concat] at z
        cases z
        cases hpl) hps
      rw [show flA [] = [] from rfl, List.append_nil] at this
      rw [this]
      show _ = done ++ (flA acc ++ p :: mgA [] (atPs ps))
      rw [List.append_assoc, List.append_assoc]
      rfl
theorem join_eq {ps : List PC} (h : ∀ p ∈ ps, OkC p) : joinP ps = mgA [] (atPs ps) := join_at ps [] [] (fun s z => nomatch z) h
/-! ### units -/
structure UnitOk (raw : List Nat) (ps : List PC) : Prop where
  gd : Gd raw (atPs ps)
  asc : Asc raw
  len : raw.length ≤ 800
  one : ∀ p ∈ ps, ∃ q, p = .one q ∧ Ok1 q
  sz : szA (atPs ps) ≤ 900
  n : ps.length ≤ 2
theorem UnitOk.ok {raw : List Nat} {ps : List PC} (h : UnitOk raw ps) : ∀ p ∈ ps, OkC p := fun p hp => by
  obtain ⟨q, rfl, hq⟩ := h.one p hp
  exact hq
structure BlockOk (raw : List Nat) (ps : List PC) : Prop where
  bk : Bk raw (atPs ps)
  asc : Asc raw
  len : raw.length ≤ 3000
  ok : ∀ p ∈ ps, OkC p
  sz : szA (atPs ps) ≤ 4000
  n : ps.length ≤ 10
theorem UnitOk.bk {raw : List Nat} {ps : List PC} (h : UnitOk raw ps) : BlockOk raw ps := ⟨h.gd.bk, h.asc, by have := h.len; omega, h.ok, by have := h.sz; omega, by have := h.n; omega⟩
theorem at_plain (l : List Nat) : atPs [.one (.plain (S l))] = l.map Atm.sg := by
  rw [atPs_cons]
  show (S l).cps.toList.map Atm.sg ++ [] = _
  rw [List.append_nil, S_list]
theorem unit_plain {l : List Nat} (h : Gd l (l.map .sg)) (ha : Asc l) (hl : l.length ≤ 800) : UnitOk l [.one (.plain (S l))] := by
  have hne : l ≠ [] := by obtain ⟨c, r, rfl, _⟩ := h.hd; simp
  refine ⟨by rw [at_plain]; exact h, ha, hl, fun p hp => ⟨_, List.mem_singleton.mp hp, ?_⟩, by rw [at_plain, szA_signs]; omega, by show 1 ≤ 2; omega⟩
  show Asc (S l).cps.toList ∧ (S l).cps.toList ≠ []
  rw [S_list]
  exact ⟨ha, hne⟩
theorem unit_part {raw : List Nat} {q : P1} (hq : (PC.one q).isPlain = false) (h : Gd raw [.pt (.one q)]) (ha : Asc raw) (hl : raw.length ≤ 800) (hok : Ok1 q) (hs : sz1 q ≤ 900) : UnitOk raw [.one q] := by
  have e : atPs [.one q] = [.pt (.one q)] := by rw [atPs_cons, atP_np hq]; rfl
  exact ⟨by rw [e]; exact h, ha, hl, fun p hp => ⟨q, List.mem_singleton.mp hp, hok⟩, by rw [e]; show sz1 q + 0 ≤ 900; omega, by show 1 ≤ 2; omega⟩
theorem ones_mapD {l : List PC} (h : ∀ p ∈ l, one? p ≠ none) : (ones l).map d1 = l.map dP ∧ (ones l).map PC.one = l := by
  induction l with
  | nil => exact ⟨rfl, rfl⟩
  | cons p l ih =>
    obtain ⟨i1, i2⟩ := ih fun q hq => h q (List.mem_cons_of_mem _ hq)
    cases p with
    | one q => exact ⟨by show d1 q :: (ones l).map d1 = d1 q :: l.map dP; rw [i1], by show PC.one q :: (ones l).map PC.one = _; rw [i2]⟩
    | strong q => exact absurd rfl (h _ List.mem_cons_self)
theorem ones_sz {l : List PC} (h : ∀ p ∈ l, one? p ≠ none) : ((ones l).map sz1).sum = (l.map szC).sum := by
  induction l with
  | nil => rfl
  | cons p l ih =>
    have i := ih fun q hq => h q (List.mem_cons_of_mem _ hq)
    cases p with
    | one q => show ([sz1 q] ++ (ones l).map sz1).sum = ([sz1 q] ++ l.map szC).sum; rw [List.sum_append, List.sum_append, i]
    | strong q => exact absurd rfl (h _ List.mem_cons_self)
theorem ones_ok {l : List PC} (h : ∀ p ∈ l, OkC p) : ∀ p ∈ ones l, Ok1 p := fun p hp => by
  obtain ⟨q, hq, e⟩ := List.mem_filterMap.mp hp
  cases q with
  | one r => cases e; exact h _ hq
  | strong r => cases e
/-- simple parts joined are simple -/
theorem mgA_ones : ∀ (A : List Atm) (acc : List Nat), (∀ p, Atm.pt p ∈ A → one? p ≠ none) → ∀ p ∈ mgA acc A, one? p ≠ none
  | [], acc, _, p, hp => by
    have hp : p ∈ flA acc := hp
    unfold flA at hp
    split at hp
    · cases hp
    · rw [List.mem_singleton.mp hp]; exact fun e => nomatch e
  | .sg c :: r, acc, h, p, hp => mgA_ones r (acc ++ [c]) (fun q hq => h q (List.mem_cons_of_mem _ hq)) p hp
  | .pt q :: r, acc, h, p, hp => by
    have hp : p ∈ flA acc ++ q :: mgA [] r := hp
    rcases List.mem_append.mp hp with z | z
    · exact mgA_ones [] acc (fun _ y => nomatch y) p z
    · rcases List.mem_cons.mp z with z | z
      · rw [z]; exact h q List.mem_cons_self
      · exact mgA_ones r [] (fun q hq => h q (List.mem_cons_of_mem _ hq)) p z
theorem at_ones {ps : List PC} (h : ∀ p ∈ ps, ∃ q, p = .one q ∧ Ok1 q) : ∀ p, Atm.pt p ∈ atPs ps → one? p ≠ none := fun p hp => by
  obtain ⟨q, hq, hx⟩ := List.mem_flatMap.mp hp
  obtain ⟨r, rfl, _⟩ := h q hq
  cases r with
  | plain s => obtain ⟨y, _, e⟩ := List.mem_map.mp hx; cases e
  | code s => cases List.mem_singleton.mp hx; exact fun e => nomatch e
  | link a b => cases List.mem_singleton.mp hx; exact fun e => nomatch e
  | note s => cases List.mem_singleton.mp hx; exact fun e => nomatch e
theorem block_strong {raw : List Nat} {ps : List PC} (h : Gd raw (atPs ps)) (ha : Asc raw) (hl : raw.length ≤ 2900) (ho : ∀ p ∈ ps, ∃ q, p = .one q ∧ Ok1 q) (hs : szA (atPs ps) ≤ 3900) : BlockOk (42 :: (raw ++ [42])) [.strong (ones (joinP ps))] := by
  have hok : ∀ p ∈ ps, OkC p := fun p hp => by obtain ⟨q, rfl, hq⟩ := ho p hp; exact hq
  have e := join_eq hok
  have h1 := mgA_ones (atPs ps) [] (at_ones ho)
  have h2 := mgA_ok (atPs ps) [] (atPs_ok hok) (fun _ z => nomatch z)
  rw [e]
  refine ⟨h.strong, ?_, ?_, fun p hp => ?_, ?_, by show 1 ≤ 10; omega⟩
  · exact fun c hc => by
      rcases List.mem_cons.mp hc with z | z
      · omega
      · rcases List.mem_append.mp z with z | z
        · exact ha c z
        · rw [List.mem_singleton.mp z]; omega
  · rw [List.length_cons, List.length_append]
    show raw.length + 1 + 1 ≤ 3000
    omega
  · rw [List.mem_singleton.mp hp]
    exact ones_ok h2
  · show ((ones (mgA [] (atPs ps))).map sz1).sum + 2 + 0 ≤ 4000
    rw [ones_sz h1, mgA_sz]
    show 0 + _ + 2 + 0 ≤ _
    omega
theorem block_stars : BlockOk [42, 42] [.one (.plain (S [42, 42]))] := by
  have e := at_plain [42, 42]
  refine ⟨by rw [e]; exact bk_stars, by unfold Asc; decide, by decide, fun p hp => ?_, by rw [e]; decide, by decide⟩
  rw [List.mem_singleton.mp hp]
  show Asc (S [42, 42]).cps.toList ∧ (S [42, 42]).cps.toList ≠ []
  rw [S_list]
  exact ⟨by unfold Asc; decide, by simp⟩
theorem BlockOk.gap {raw : List Nat} {ps : List PC} (h : BlockOk raw ps) : Bk (32 :: raw) (atPs (.one (.plain (S [32])) :: ps)) := by
  have g : Bk [32] ([32].map .sg) := (Gd.signs (by decide) ⟨32, _, rfl, by decide⟩).bk
  have := g.app h.bk
  rw [← at_plain, ← atPs_app] at this
  exact this
end Lw

set_option Elab.async false
set_option linter.all false
set_option maxRecDepth 100000
set_option maxHeartbeats 4000000
namespace K4
open PySem L2 Lm Lw PySem.Builtin.Int
section
variable {P : Program} {w : World} {K : PySem.W.Frag} {mg : Str → Option Value} {base : Heap}
def pairD (p : List Nat × List Nat) : PyData := .tuple [.str (S p.1), .str (S p.2)]
abbrev sLinked : Stmt := top 41
theorem scLinked : FnScope ["_law_number", "_law_pairs", "_law_raw", "_law_words", "_law_turn", "_law_pair"] ["_law_number"] (defScope sLinked) := ⟨rfl, rfl, rfl, by decide +kernel, rfl, by decide +kernel, by decide +kernel⟩
def spLinked : Sp := fun vs H Q _ => ∃ n : Int, vs = [.int n] ∧ 0 ≤ n ∧ n ≤ 4294967296 ∧ ∀ (l : List (List Nat × List Nat)) tp H', Same H H' → (∀ p ∈ l, p ∈ lkPairs) → l ≠ [] → l.length ≤ 5 → H' tp = some (.tup [vS (l.map (·.1)).flatten, vS (l.map (·.2)).flatten]) → Q (.ref tp) H'
theorem lk_size : ∀ {l : List (List Nat × List Nat)}, (∀ p ∈ l, p ∈ lkPairs) → (l.map (·.1)).flatten.length ≤ 2 * l.length ∧ (l.map (·.2)).flatten.length ≤ 2 * l.length
  | [], _ => ⟨Nat.le_refl 0, Nat.le_refl 0⟩
  | p :: l, h => by
    have ih := lk_size (l := l) fun q hq => h q (List.mem_cons_of_mem _ hq)
    have hp : ∀ p ∈ lkPairs, p.1.length ≤ 2 ∧ p.2.length ≤ 2 := by decide
    have hp := hp p (h p List.mem_cons_self)
    rw [List.map_cons, List.map_cons, List.flatten_cons, List.flatten_cons, List.length_append, List.length_append, List.length_cons]
    omega
theorem lk_asc : ∀ {l : List (List Nat × List Nat)}, (∀ p ∈ l, p ∈ lkPairs) → Asc (l.map (·.1)).flatten ∧ Asc (l.map (·.2)).flatten := fun {l} h => by
  have hp : ∀ p ∈ lkPairs, (∀ c ∈ p.1, c < 128) ∧ (∀ c ∈ p.2, c < 128) := by decide
  constructor <;> refine asc_flat fun x hx => ?_ <;> obtain ⟨p, hq, rfl⟩ := List.mem_map.mp hx
  · exact (hp p (h p hq)).1
  · exact (hp p (h p hq)).2
theorem ok_linked {f : Addr} {fd : FuncData} (F : Fun K "_law_linked" "_law_linked" sLinked f fd) (T : TxL mg) (D_l_mixed : Def P w K mg base 1 "_law_mixed" ["_law_cell_here", "_law_k"] spMixed) : FnOk P w K mg base CX0 2 f fd ["_law_number"] spLinked := by
  have sc := scLinked
  refine F.ok sc (fun vs H Q E h => ?_) (fun cdv A outer s H vs Q E hr h => ?_)
  · obtain ⟨n, rfl, _⟩ := h
    rfl
  obtain ⟨n, rfl, n0, n1, q⟩ := h
  refine of_XB (xbc (xset (i := 1) sc.nd rfl (Or.inl rfl) (xl_lst (xlsc (xl_tup (xlsc (xl_str (by decide +kernel)) (xlsc (xl_str (by decide +kernel)) xls0))) (xlsc (xl_tup (xlsc (xl_str (by decide +kernel)) (xlsc (xl_str (by decide +kernel)) xls0))) (xlsc (xl_tup (xlsc (xl_str (by decide +kernel)) (xlsc (xl_str (by decide +kernel)) xls0))) (xlsc (xl_tup (xlsc (xl_str (by decide +kernel)) (xlsc (xl_str (by decide +kernel)) xls0))) (xlsc (xl_tup (xlsc (xl_str (by decide +kernel)) (xlsc (xl_str (by decide +kernel)) xls0))) (xlsc (xl_tup (xlsc (xl_str (by decide +kernel)) (xlsc (xl_str (by decide +kernel)) xls0))) (xlsc (xl_tup (xlsc (xl_str (by decide +kernel)) (xlsc (xl_str (by decide +kernel)) xls0))) xls0)))))))))
    (xbc (xset (i := 1) sc.nd rfl (Or.inl rfl) (xop op_cat (xv 1) (xl_lst (xlsc (xl_tup (xlsc (xl_str (by decide +kernel)) (xlsc (xl_str (by decide +kernel)) xls0))) (xlsc (xl_tup (xlsc (xl_str (by decide +kernel)) (xlsc (xl_str (by decide +kernel)) xls0))) (xlsc (xl_tup (xlsc (xl_str (by decide +kernel)) (xlsc (xl_str (by decide +kernel)) xls0))) (xlsc (xl_tup (xlsc (xl_str (by decide +kernel)) (xlsc (xl_str (by decide +kernel)) xls0))) (xlsc (xl_tup (xlsc (xl_str (by decide +kernel)) (xlsc (xl_str (by decide +kernel)) xls0))) (xlsc (xl_tup (xlsc (xl_str (by decide +kernel)) (xlsc (xl_str (by decide +kernel)) xls0))) (xlsc (xl_tup (xlsc (xl_str (by decide +kernel)) (xlsc (xl_str (by decide +kernel)) xls0))) xls0))))))))))
    (xbc (xset (i := 2) sc.nd rfl (Or.inl rfl) xstr)
    (xbc (xset (i := 3) sc.nd rfl (Or.inl rfl) xstr)
    (xbc (xfor PassesOwn.never rfl (xir1 rfl T.n_range (xac (xop op_add xint (xop op_mod (xv 0) xint)) xa0)) (xgn (i := 4) sc.nd rfl (Or.inl rfl))
    (xbc (xset (i := 5) sc.nd rfl (Or.inl rfl) (xix ix_list (xv 1) (xop op_mod (xcD D_l_mixed (hr.mono (by omega)) (xac (xv 0) (xac (xop op_add (xv 4) xint) xa0))) (xcB call_len_seq T.n_len PySem.boot_len (xac (xv 1) xa0))) (fun _ _ => rfl)))
    (xbc (xset (i := 2) sc.nd rfl (Or.inl rfl) (xop op_add_str (xv 2) (xix ix_tup (xv 5) xint (fun _ _ => rfl))))
    (xb1 (xset (i := 3) sc.nd rfl (Or.inl rfl) (xop op_add_str (xv 3) (xix ix_tup (xv 5) xint (fun _ _ => rfl))))))))
    (xb1 (xret (xtup (xac (xv 2) (xac (xv 3) xa0)))))))))) ?_
  have hs : sizeLine = 16777216 := sizeLine_eq
  rw [show start ["_law_number", "_law_pairs", "_law_raw", "_law_words", "_law_turn", "_law_pair"] [V.int n] = [some (V.int n), none, none, none, none, none] from rfl]
  intro v1 H1 s1 k1
  dsimp only [gName, List.set_cons_succ, List.set_cons_zero]
  have k1 : Dn (dif H H1) v1 (.list ((lkPairs.take 7).map pairD)) := k1
  obtain ⟨a1, xs1, ds1, rfl, hd1, ea1, da1, _⟩ | ⟨_, z⟩ := Dn.lstCase k1
  rotate_left
  · exact absurd rfl (z _)
  cases hd1
  refine ⟨_, rfl, fun v2 H2 s2 k2 => ?_⟩
  have k2 : Dn (dif H1 H2) v2 (.list ((lkPairs.drop 7).map pairD)) := k2
  obtain ⟨a2, xs2, ds2, rfl, hd2, ea2, da2, _⟩ | ⟨_, z⟩ := Dn.lstCase k2
  rotate_left
  · exact absurd rfl (z _)
  cases hd2
  have l1 : xs1.length = 7 := da1.len
  have l2 : xs2.length = 7 := da2.len
  have s12 := s1.trans s2
  refine ⟨a1, a2, xs1, xs2, rfl, rfl, s2 _ _ (dif_some ea1).2, (dif_some ea2).2, by rw [hs]; omega, fun p hp => ?_⟩
  dsimp only [gName, List.set_cons_succ, List.set_cons_zero]
  have s3 := s12.trans (same_new hp (.lst (xs1 ++ xs2)))
  have e3 : upd H2 p (.lst (xs1 ++ xs2)) p = some (.lst (xs1 ++ xs2)) := upd_same
  have d3 : DnAll (upd H2 p (.lst (xs1 ++ xs2))) (xs1 ++ xs2) (lkPairs.map pairD) := by
    have := (((da1.same dif_same).same s2).app (da2.same dif_same)).same (same_new hp (.lst (xs1 ++ xs2)))
    rw [← List.map_append, List.take_append_drop] at this
    exact this
  generalize upd H2 p (.lst (xs1 ++ xs2)) = H3 at s3 e3 d3 ⊢
  generalize hxs : xs1 ++ xs2 = xs at e3 d3 ⊢
  have hxl : xs.length = 14 := by rw [← hxs, List.length_append]; omega
  refine s_asgC (s_asgC ?_)
  dsimp only [List.set_cons_succ, List.set_cons_zero]
  refine ⟨_, rfl, _, _, rfl, rfl, show (0 : Int) < 5 by decide, _, _, rfl, rfl, _, rfl, by omega, by omega, ?_⟩
  obtain ⟨cnt, hcnt⟩ : ∃ cnt : Nat, cnt = (1 + n % 5).toNat := ⟨_, rfl⟩
  have hcnt5 : 1 ≤ cnt ∧ cnt ≤ 5 := by omega
  rw [← hcnt]
  refine for_range (n := cnt) (fun t σ H' => ∃ (l : List (List Nat × List Nat)) (x4 x5 : Option V), σ = [some (.int n), some (.ref p), some (vS (l.map (·.1)).flatten), some (vS (l.map (·.2)).flatten), x4, x5] ∧ Same H3 H' ∧ l.length = t ∧ ∀ q ∈ l, q ∈ lkPairs) ⟨[], none, none, rfl, Same.refl _, rfl, (fun _ z => nomatch z)⟩ ?_ ?_
  · rintro t σ H4 ht ⟨l, x4, x5, rfl, s4, hll, hlp⟩
    have hmx := mixF_ok n ((t : Int) + 40)
    obtain ⟨z1, z2⟩ := lk_size hlp
    refine ⟨_, rfl, _, rfl, _, rfl, _, _, rfl, rfl, n, 0 + (t : Int) + 40, rfl, bits64 (by omega) (by omega), by omega, by omega, ?_⟩
    rw [Int.zero_add]
    refine ⟨_, rfl, p, _, rfl, .inl (SqL.of (s4 _ _ e3)), _, _, rfl, rfl, ?_⟩
    rw [hxl]
    obtain ⟨j, hj, hj14⟩ : ∃ j : Nat, mixF n ((t : Int) + 40) % ((14 : Nat) : Int) = (j : Int) ∧ j < 14 := ⟨(mixF n ((t : Int) + 40) % 14).toNat, by omega, by omega⟩
    have hjl : j < lkPairs.length := hj14
    obtain ⟨v, hv, hdv⟩ := d3.get (i := j) (d := pairD lkPairs[j]) (by rw [List.getElem?_map, List.getElem?_eq_getElem hjl]; rfl)
    refine ⟨show (0 : Int) < ((14 : Nat) : Int) by decide, p, xs, _, v, rfl, rfl, SqL.of (s4 _ _ e3), by rw [hj]; exact atI_nat hv, ?_⟩
    dsimp only [gName, List.set_cons_succ, List.set_cons_zero]
    obtain ⟨b, ys, es, rfl, hes, eb, db⟩ | ⟨_, z⟩ := Dn.tupCase hdv
    rotate_left
    · exact absurd rfl (z _)
    cases hes
    cases db with | cons d1 db =>
    cases db with | cons d2 db =>
    cases db
    cases d1
    cases d2
    have eb4 := s4 _ _ eb
    have hsz : lkPairs[j].1.length ≤ 2 ∧ lkPairs[j].2.length ≤ 2 := by
      have hp : ∀ p ∈ lkPairs, p.1.length ≤ 2 ∧ p.2.length ≤ 2 := by decide
      exact hp _ (List.getElem_mem hjl)
    refine ⟨_, rfl, ev_ixT (ev_v rfl) ev_c (SqT.of eb4) (atI_nat (j := 0) rfl) _ ⟨_, _, rfl, rfl, by rw [S_len, S_len, hs]; omega, ?_⟩⟩
    dsimp only [gName, List.set_cons_succ, List.set_cons_zero]
    refine ⟨_, rfl, ev_ixT (ev_v rfl) ev_c (SqT.of eb4) (atI_nat (j := 1) rfl) _ ⟨_, _, rfl, rfl, by rw [S_len, S_len, hs]; omega, ?_⟩⟩
    dsimp only [gName, List.set_cons_succ, List.set_cons_zero]
    refine ⟨l ++ [lkPairs[j]], some (V.int (t : Int)), some (V.ref b), ?_, s4, by rw [List.length_append, hll]; rfl, fun q hq => ?_⟩
    · rw [S_app, S_app, List.map_append, List.map_append, List.flatten_append, List.flatten_append, List.map_cons, List.map_cons, List.flatten_cons, List.flatten_cons, List.map_nil, List.map_nil, List.flatten_nil, List.append_nil, List.append_nil]
    · rcases List.mem_append.mp hq with z | z
      · exact hlp q z
      · rw [List.mem_singleton.mp z]; exact List.getElem_mem hjl
  · rintro σ H4 ⟨l, x4, x5, rfl, s4, hll, hlp⟩
    refine ⟨_, rfl, _, rfl, big (show (2 : Nat) ≤ 1000000 by decide), fun tp htp => ?_⟩
    refine q l tp _ ((s3.trans s4).trans (same_new htp _)) hlp (fun z => ?_) (by omega) upd_same
    rw [z] at hll
    simp at hll
    omega
/-! a piece that is not strong -/
abbrev sSimple : Stmt := top 42
theorem scSimple : FnScope ["_law_number", "_law_kind", "_law_more", "_law_signs_here", "_law_sign", "_law_name_here", "_law_raw", "_law_words", "_law_odd"] ["_law_number"] (defScope sSimple) := ⟨rfl, rfl, rfl, by decide +kernel, rfl, by decide +kernel, by decide +kernel⟩
/-- a unit told: its text, and the list of its parts -/
def Told (H H' : Hp) (tp : Addr) (raw : List Nat) (ps : List PC) : Prop := ∃ l xs, H' tp = some (.tup [vS raw, .ref l]) ∧ H' l = some (.lst xs) ∧ DnAll (dif H H') xs (ps.map dP)
def spSimple : Sp := fun vs H Q _ => ∃ n : Int, vs = [.int n] ∧ 0 ≤ n ∧ n ≤ 4294967296 ∧ ∀ raw ps tp H', Same H H' → Told H H' tp raw ps → UnitOk raw ps → Q (.ref tp) H'
/-- the ends of the branches: a list of one part, and the pair -/
theorem one_told {H H1 : Hp} {raw : List Nat} {ds : List PyData} {p : PC} {t l tp : Addr} {xs : List V} (s : Same H H1) (hd : dP p = .tuple ds) (hx : DnAll (dif H H1) xs ds) (ht : H1 t = none) (hl : upd H1 t (.tup xs) l = none) (htp : upd (upd H1 t (.tup xs)) l (.lst [.ref t]) tp = none) :
    Same H (upd (upd (upd H1 t (.tup xs)) l (.lst [.ref t])) tp (.tup [vS raw, .ref l])) ∧ Told H (upd (upd (upd H1 t (.tup xs)) l (.lst [.ref t])) tp (.tup [vS raw, .ref l])) tp raw [p] := by
  have s1 := same_new ht (.tup xs)
  have s2 := s1.trans (same_new hl (.lst [.ref t]))
  have s3 := s2.trans (same_new htp (.tup [vS raw, .ref l]))
  refine ⟨s.trans s3, l, [.ref t], upd_same, same_new htp _ _ _ upd_same, .cons ?_ .nil⟩
  rw [hd]
  refine .tup (xs := xs) ?_ (hx.same (dif_grow (Same.refl _) s3))
  rw [dif_at (s.free ht)]
  exact same_new htp _ _ _ (same_new hl _ _ _ upd_same)
theorem dn_txt {G : Hp} {l : List Nat} (h : Asc l) (hl : l.length ≤ 100000) : Dn G (vS l) (.str (S l)) := (strG_S h hl).dn
theorem dn_kind {G : Hp} {k : Str} (h : (PyData.strOk k && decide (k.length ≤ 100000)) = true) : Dn G (.str k) (.str k) := by
  rw [Bool.and_eq_true] at h
  exact .str k h.1 (of_decide_eq_true h.2)
def mnPlain : List Nat := mnLet ++ [46, 44, 59, 33, 63, 39, 34, 38, 36, 35, 47, 64, 95, 123, 125, 60, 45, 43, 61, 62, 58, 124, 126]
def mnBack : List Nat := mnLet ++ [40, 41, 123, 125, 35, 38, 36, 64, 33, 63, 46, 44, 59, 39, 34, 60, 95, 47, 32]
theorem catV (a b : List Nat) : V.str (S a ++ S b) = vS (a ++ b) := congrArg V.str (S_app a b)
theorem ok_simple {f : Addr} {fd : FuncData} (F : Fun K "_law_simple" "_law_simple" sSimple f fd) (T : TxL mg) (D_l_menu : Def P w K mg base 1 "_law_menu" ["_law_kind"] spMenu) (D_l_signs : Def P w K mg base 1 "_law_signs" ["_law_number", "_law_size", "_law_menu_here"] spSigns)
    (D_l_text : Def P w K mg base 2 "_law_text" ["_law_number", "_law_most"] spText) (D_l_name : Def P w K mg base 2 "_law_name" ["_law_number"] spName7) (D_l_linked : Def P w K mg base 2 "_law_linked" ["_law_number"] spLinked) : FnOk P w K mg base CX0 3 f fd ["_law_number"] spSimple := by
  have sc := scSimple
  refine F.ok sc (fun vs H Q E h => ?_) (fun cdv A outer s H vs Q E hr h => ?_)
  · obtain ⟨n, rfl, _⟩ := h
    rfl
  obtain ⟨n, rfl, n0, n1, q⟩ := h
  refine of_XB (xbc (xset (i := 1) sc.nd rfl (Or.inl rfl) (xop op_mod (xv 0) xint))
    (xbc (xset (i := 2) sc.nd rfl (Or.inl rfl) (xop op_fdiv (xv 0) xint))
    (xbc (xif (xcmpT op_lt (xv 1) xint (nomark _)) (xbc (xset (i := 3) sc.nd rfl (Or.inl rfl) (xcD D_l_signs (hr.mono (by omega)) (xac (xv 2) (xac (xop op_add xint (xop op_mod (xv 2) xint)) (xac (xop op_add_str (xcD D_l_menu (hr.mono (by omega)) (xac xint xa0)) xstr) xa0)))))
    (xb1 (xret (xtup (xac (xv 3) (xac (xlst (xac (xtup (xac xstr (xac (xv 3) xa0))) xa0)) xa0)))))) xb0)
    (xbc (xif (xcmpT op_eq (xv 1) xint (nomark _)) (xbc (xset (i := 4) sc.nd rfl (Or.inl rfl) (xix ix_str xstr (xop op_mod (xv 2) xint) (fun _ _ => rfl)))
    (xb1 (xret (xtup (xac (xop op_add_str xstr (xv 4)) (xac (xlst (xac (xtup (xac xstr (xac (xv 4) xa0))) xa0)) xa0)))))) xb0)
    (xbc (xif (xcmpT op_eq (xv 1) xint (nomark _)) (xbc (xset (i := 4) sc.nd rfl (Or.inl rfl) (xcD D_l_signs (hr.mono (by omega)) (xac (xv 2) (xac xint (xac (xop op_add_str (xcD D_l_menu (hr.mono (by omega)) (xac xint xa0)) xstr) xa0)))))
    (xb1 (xret (xtup (xac (xop op_add_str (xop op_add_str xstr (xv 4)) xstr) (xac (xlst (xac (xtup (xac xstr (xac (xop op_add_str (xop op_add_str xstr (xv 4)) xstr) xa0))) xa0)) xa0)))))) xb0)
    (xbc (xif (xcmpT op_eq (xv 1) xint (nomark _)) (xbc (xset (i := 3) sc.nd rfl (Or.inl rfl) (xrepl (xcD D_l_text (hr.mono (by omega)) (xac (xv 2) (xac xint xa0))) (by decide +kernel) (by decide +kernel)))
    (xbc (xset (i := 3) sc.nd rfl (Or.inl rfl) (xop op_add_str (xop op_add_str (xop op_mul_str xstr (xop op_fdiv (xop op_mod (xv 2) xint) xint)) (xv 3)) (xop op_mul_str xstr (xop op_fdiv (xop op_mod (xop op_fdiv (xv 2) xint) xint) xint))))
    (xb1 (xret (xtup (xac (xop op_add_str (xop op_add_str xstr (xv 3)) xstr) (xac (xlst (xac (xtup (xac xstr (xac (xv 3) xa0))) xa0)) xa0))))))) xb0)
    (xbc (xset (i := 5) sc.nd rfl (Or.inl rfl) (xcD D_l_name (hr.mono (by omega)) (xac (xop op_fdiv (xv 2) xint) xa0)))
    (xbc (xif (xcmpT op_lt (xv 1) xint (nomark _)) (xbc (xasg (xcD D_l_linked (hr.mono (by omega)) (xac (xv 2) xa0)) (xgt rfl (xgsc (xgn (i := 6) sc.nd rfl (Or.inl rfl)) (xgsc (xgn (i := 7) sc.nd rfl (Or.inl rfl)) xgs0))))
    (xb1 (xret (xtup (xac (xop op_add_str (xop op_add_str (xop op_add_str (xop op_add_str xstr (xv 6)) xstr) (xv 5)) xstr) (xac (xlst (xac (xtup (xac xstr (xac (xv 7) (xac (xm0 PySem.F.plainAttrs_str PySem.F.slot_str_lower PySem.F.type_str_lower mt_lower (xv 5)) xa0)))) xa0)) xa0)))))) xb0)
    (xbc (xif (xcmpT op_eq (xv 1) xint (nomark _)) (xb1 (xret (xtup (xac (xop op_add_str (xop op_add_str xstr (xv 5)) xstr) (xac (xlst (xac (xtup (xac xstr (xac (xm0 PySem.F.plainAttrs_str PySem.F.slot_str_lower PySem.F.type_str_lower mt_lower (xv 5)) xa0))) xa0)) xa0))))) xb0)
    (xbc (xif (xcmpT op_eq (xop op_mod (xv 2) xint) xint (nomark _)) (xb1 (xret (xtup (xac (xop op_add_str (xop op_add_str xstr (xv 5)) xstr) (xac (xlst (xac (xtup (xac xstr (xac (xm0 PySem.F.plainAttrs_str PySem.F.slot_str_lower PySem.F.type_str_lower mt_lower (xv 5)) xa0))) (xac (xl_tup (xlsc (xl_str (by decide +kernel)) (xlsc (xl_str (by decide +kernel)) xls0))) xa0))) xa0))))) xb0)
    (xbc (xset (i := 8) sc.nd rfl (Or.inl rfl) (xlst (xac xstr (xac xstr (xac xstr (xac xstr (xac xstr (xac xstr (xac xstr xa0)))))))))
    (xbc (xset (i := 8) sc.nd rfl (Or.inl rfl) (xop op_cat (xv 8) (xlst (xac xstr (xac xstr (xac xstr xa0))))))
    (xb1 (xret (xtup (xac (xix ix_list (xv 8) (xop op_mod (xv 2) xint) (fun _ _ => rfl)) (xac (xlst (xac (xtup (xac xstr (xac (xix ix_list (xv 8) (xop op_mod (xv 2) xint) (fun _ _ => rfl)) xa0))) xa0)) xa0))))))))))))))))) ?_
  have hs : sizeLine = 16777216 := sizeLine_eq
  rw [show start ["_law_number", "_law_kind", "_law_more", "_law_signs_here", "_law_sign", "_law_name_here", "_law_raw", "_law_words", "_law_odd"] [V.int n] = [some (V.int n), none, none, none, none, none, none, none, none] from rfl]
  refine ⟨_, rfl, _, _, rfl, rfl, show (0 : Int) < 9 by decide, ?_⟩
  dsimp only [gName, List.set_cons_succ, List.set_cons_zero]
  refine ⟨_, rfl, _, _, rfl, rfl, ⟨by decide, by decide⟩, ?_⟩
  dsimp only [gName, List.set_cons_succ, List.set_cons_zero]
  have hk9 : 0 ≤ n % 9 ∧ n % 9 < 9 := by omega
  have hm0 : 0 ≤ n / 9 ∧ n / 9 ≤ 4294967296 := by omega
  generalize n % 9 = kd at hk9 ⊢
  generalize n / 9 = m at hm0 ⊢
  -- signs
  by_cases c1 : kd < 2
  · refine s_yes ((t_cmp (g := fun i j => .bl (decide (i < j))) (ev_v rfl) ev_c rfl).eq (decide_eq_true c1)) fun H1 s1 => ?_
    refine ⟨_, rfl, _, rfl, _, _, rfl, rfl, show (0 : Int) < 5 by decide, _, _, rfl, rfl, 0, rfl, fun H2 s2 => ⟨_, _, rfl, rfl, by rw [S_len, hs]; decide, ?_⟩⟩
    have em : V.str (S (menuF 0) ++ Str.ofString ".,;!?'\"&$#/@_{}<-+=>:|~") = vS mnPlain := by
      rw [show (Str.ofString ".,;!?'\"&$#/@_{}<-+=>:|~") = S [46, 44, 59, 33, 63, 39, 34, 38, 36, 35, 47, 64, 95, 123, 125, 60, 45, 43, 61, 62, 58, 124, 126] by decide +kernel, catV]
      rfl
    rw [em]
    have hml : 0 < mnPlain.length ∧ mnPlain.length ≤ 1000 := by decide
    refine ⟨m, 1 + m % 5, mnPlain, rfl, hml, by omega, by omega, by omega, by omega, ?_⟩
    dsimp only [gName, List.set_cons_succ, List.set_cons_zero]
    obtain ⟨l1, l2⟩ := sg_mem hml.1 m (1 + m % 5).toNat
    have l1 : (signsF m (1 + m % 5) mnPlain).length = (1 + m % 5).toNat := l1
    have l2 : ∀ c ∈ signsF m (1 + m % 5) mnPlain, c ∈ mnPlain := l2
    generalize signsF m (1 + m % 5) mnPlain = l at l1 l2 ⊢
    have hpl : ∀ c ∈ mnPlain, plS c = true ∧ c ≠ 40 ∧ c < 128 := by decide
    refine ⟨_, rfl, _, rfl, big (show (2 : Nat) ≤ 1000000 by decide), fun t ht => ⟨big (show (1 : Nat) ≤ 1000000 by decide), fun lst hlst => ⟨big (show (2 : Nat) ≤ 1000000 by decide), fun tp htp => ?_⟩⟩⟩
    have ha : Asc l := fun c hc => (hpl c (l2 c hc)).2.2
    obtain ⟨k1, k2⟩ := one_told (raw := l) (p := .one (.plain (S l))) (s1.trans s2) rfl (.cons (dn_kind (by decide +kernel)) (.cons (dn_txt ha (by omega)) .nil)) ht hlst htp
    refine q l _ tp _ k1 k2 (unit_plain (Gd.signs (fun c hc => (hpl c (l2 c hc)).1) ?_) ha (by omega))
    cases l with
    | nil => rw [List.length_nil] at l1; omega
    | cons c r => exact ⟨c, r, rfl, (hpl c (l2 c List.mem_cons_self)).2.1⟩
  refine s_no1 ((t_cmp (g := fun i j => .bl (decide (i < j))) (ev_v rfl) ev_c rfl).eq (decide_eq_false c1)) fun H1 s1 => ?_
  -- a sign that is taken
  by_cases c2 : kd = 2
  · refine s_yes ((t_eqi (ev_v rfl) ev_c).eq (decide_eq_true c2)) fun H2 s2 => ?_
    have hj : 0 ≤ m % 13 ∧ m % 13 < 13 := by omega
    refine ⟨_, rfl, _, _, rfl, rfl, show (0 : Int) < 13 by decide, ?_⟩
    refine w_ixs (l := takenC) (by decide) hj.1 (by show _ < (13 : Int); exact hj.2) ?_
    dsimp only [gName, List.set_cons_succ, List.set_cons_zero]
    have hlt : (m % 13).toNat < takenC.length := by show _ < 13; omega
    have hmem : takenC.getD (m % 13).toNat 0 ∈ takenC := by
      rw [List.getD_eq_getElem?_getD, List.getElem?_eq_getElem hlt]
      exact List.getElem_mem hlt
    generalize takenC.getD (m % 13).toNat 0 = c at hmem ⊢
    have hc : ∀ c ∈ takenC, takenC.contains c = true ∧ c < 128 := by decide
    obtain ⟨hc1, hc2⟩ := hc c hmem
    refine ⟨_, rfl, _, _, rfl, rfl, (show 1 + 1 ≤ sizeLine by rw [hs]; decide), _, rfl, big (show (2 : Nat) ≤ 1000000 by decide), fun t ht => ⟨big (show (1 : Nat) ≤ 1000000 by decide), fun lst hlst => ⟨big (show (2 : Nat) ≤ 1000000 by decide), fun tp htp => ?_⟩⟩⟩
    have e1 : V.str (Str.ofString "\\" ++ S [c]) = vS [92, c] := catV [92] [c]
    rw [e1]
    obtain ⟨k1, k2⟩ := one_told (raw := [92, c]) (p := .one (.plain (S [c]))) (s1.trans s2) rfl (.cons (dn_kind (by decide +kernel)) (.cons (dn_txt (l := [c]) (fun x hx => by rw [List.mem_singleton.mp hx]; exact hc2) (show 1 ≤ 100000 by decide)) .nil)) ht hlst htp
    have hat := at_plain [c]
    refine q [92, c] _ tp _ k1 k2 ⟨by rw [hat]; exact gd_take hc1, fun x hx => ?_, by show 2 ≤ 800; decide, fun p hp => ⟨_, List.mem_singleton.mp hp, ?_⟩, by rw [hat]; show 1 + 0 ≤ 900; decide, by show 1 ≤ 2; decide⟩
    · rcases List.mem_cons.mp hx with z | z
      · rw [z]; decide
      · rw [List.mem_singleton.mp z]; exact hc2
    · show Asc (S [c]).cps.toList ∧ (S [c]).cps.toList ≠ []
      rw [S_list]
      exact ⟨fun x hx => by rw [List.mem_singleton.mp hx]; exact hc2, by simp⟩
  refine s_no1 ((t_eqi (ev_v rfl) ev_c).eq (decide_eq_false c2)) fun H2 s2 => ?_
  have s12 := s1.trans s2
  -- a sign that is not taken
  by_cases c3 : kd = 3
  · refine s_yes ((t_eqi (ev_v rfl) ev_c).eq (decide_eq_true c3)) fun H3 s3 => ?_
    refine ⟨_, rfl, 0, rfl, fun H4 s4 => ⟨_, _, rfl, rfl, by rw [S_len, hs]; decide, ?_⟩⟩
    have em : V.str (S (menuF 0) ++ Str.ofString "(){}#&$@!?.,;'\"<_/ ") = vS mnBack := by
      rw [show (Str.ofString "(){}#&$@!?.,;'\"<_/ ") = S [40, 41, 123, 125, 35, 38, 36, 64, 33, 63, 46, 44, 59, 39, 34, 60, 95, 47, 32] by decide +kernel, catV]
      rfl
    rw [em]
    have hml : 0 < mnBack.length ∧ mnBack.length ≤ 1000 := by decide
    refine ⟨m, 1, mnBack, rfl, hml, by omega, by omega, by omega, by omega, ?_⟩
    dsimp only [gName, List.set_cons_succ, List.set_cons_zero]
    obtain ⟨l1, l2⟩ := sg_mem hml.1 m 1
    obtain ⟨c, hc⟩ : ∃ c, signsF m 1 mnBack = [c] := by
      have l1 : (signsF m 1 mnBack).length = 1 := l1
      match signsF m 1 mnBack, l1 with
      | [c], _ => exact ⟨c, rfl⟩
    have hcm : c ∈ mnBack := l2 c (by show c ∈ signsF m 1 mnBack; rw [hc]; exact List.mem_singleton.mpr rfl)
    rw [hc]
    have hb : ∀ c ∈ mnBack, plS c = true ∧ takenC.contains c = false ∧ c < 128 := by decide
    obtain ⟨hb1, hb2, hb3⟩ := hb c hcm
    have e1 : V.str (Str.ofString "\\" ++ S [c] ++ Str.ofString "u") = vS [92, c, 117] := by
      show V.str (S [92] ++ S [c] ++ S [117]) = _
      rw [S_app [92] [c], catV]
      rfl
    have ha : Asc [92, c, 117] := fun x hx => by
      simp only [List.mem_cons, List.not_mem_nil, or_false] at hx
      rcases hx with z | z | z <;> omega
    refine ⟨_, rfl, _, _, rfl, rfl, (show 1 + 1 ≤ sizeLine by rw [hs]; decide), _, _, rfl, rfl, (show 2 + 1 ≤ sizeLine by rw [hs]; decide), ?_⟩
    rw [e1]
    refine ⟨_, rfl, _, _, rfl, rfl, (show 1 + 1 ≤ sizeLine by rw [hs]; decide), _, _, rfl, rfl, (show 2 + 1 ≤ sizeLine by rw [hs]; decide), ?_⟩
    rw [e1]
    refine ⟨big (show (2 : Nat) ≤ 1000000 by decide), fun t ht => ⟨big (show (1 : Nat) ≤ 1000000 by decide), fun lst hlst => ⟨big (show (2 : Nat) ≤ 1000000 by decide), fun tp htp => ?_⟩⟩⟩
    obtain ⟨k1, k2⟩ := one_told (raw := [92, c, 117]) (p := .one (.plain (S [92, c, 117]))) ((s12.trans s3).trans s4) rfl (.cons (dn_kind (by decide +kernel)) (.cons (dn_txt ha (show 3 ≤ 100000 by decide)) .nil)) ht hlst htp
    exact q _ _ tp _ k1 k2 (unit_plain (gd_bs hb2 hb1) ha (show 3 ≤ 800 by decide))
  refine s_no1 ((t_eqi (ev_v rfl) ev_c).eq (decide_eq_false c3)) fun H3 s3 => ?_
  have s13 := s12.trans s3
  -- code
  by_cases c4 : kd = 4
  · refine s_yes ((t_eqi (ev_v rfl) ev_c).eq (decide_eq_true c4)) fun H4 s4 => ?_
    have htx := text_ok m 3 (by decide) (by decide)
    refine ⟨_, rfl, m, 3, rfl, hm0.1, hm0.2, by decide, by decide, fun H5 s5 => ⟨_, rfl, by rw [S_len]; omega, ?_⟩⟩
    dsimp only [gName, List.set_cons_succ, List.set_cons_zero]
    rw [show Txt.replace (S (textF m 3)) (Str.ofString "`") (Str.ofString "'") = S (tickF (textF m 3)) from replace_one 96 [39] (textF m 3)]
    have hm : tickF (textF m 3) = (textF m 3).map fun x => if x = 96 then 39 else x := tick_map 96 39 _
    have t1 : (tickF (textF m 3)).length ≤ 700 := by rw [hm, List.length_map]; exact htx.2
    have t2 : tickF (textF m 3) ≠ [] := by rw [hm]; exact fun z => htx.1.ne (List.map_eq_nil_iff.mp z)
    have t3 : ∀ c ∈ tickF (textF m 3), c < 128 ∧ c ≠ 96 := fun c hc => by
      rw [hm] at hc
      obtain ⟨x, hx, rfl⟩ := List.mem_map.mp hc
      have := htx.1.sg x hx
      split <;> omega
    generalize tickF (textF m 3) = tx at t1 t2 t3 ⊢
    obtain ⟨j1, hj1, hj1'⟩ : ∃ j : Nat, m % 7 / 6 = (j : Int) ∧ j ≤ 1 := ⟨(m % 7 / 6).toNat, by omega, by omega⟩
    obtain ⟨j2, hj2, hj2'⟩ : ∃ j : Nat, m / 7 % 7 / 6 = (j : Int) ∧ j ≤ 1 := ⟨(m / 7 % 7 / 6).toNat, by omega, by omega⟩
    refine ⟨_, rfl, _, _, rfl, rfl, show (0 : Int) < 7 by decide, _, _, rfl, rfl, ⟨by decide, by decide⟩, _, _, rfl, rfl, rfl, by omega, by omega, _, rfl, _, _, rfl, rfl, ?_, ?_⟩
    · rw [hj1, show Txt.mul (Str.ofString " ") (j1 : Int) = S (List.replicate j1 32) from mul_S 32 j1, S_len, S_len, List.length_replicate, hs]
      omega
    refine ⟨_, rfl, _, _, rfl, rfl, ⟨by decide, by decide⟩, _, _, rfl, rfl, show (0 : Int) < 7 by decide, _, _, rfl, rfl, ⟨by decide, by decide⟩, _, _, rfl, rfl, rfl, by omega, by omega, _, _, rfl, rfl, ?_, ?_⟩
    · rw [hj1, hj2, show Txt.mul (Str.ofString " ") (j1 : Int) = S (List.replicate j1 32) from mul_S 32 j1, show Txt.mul (Str.ofString " ") (j2 : Int) = S (List.replicate j2 32) from mul_S 32 j2, S_app, S_len, S_len, List.length_append, List.length_replicate, List.length_replicate, hs]
      omega
    rw [hj1, hj2, show Txt.mul (Str.ofString " ") (j1 : Int) = S (List.replicate j1 32) from mul_S 32 j1, show Txt.mul (Str.ofString " ") (j2 : Int) = S (List.replicate j2 32) from mul_S 32 j2, S_app, S_app]
    dsimp only [gName, List.set_cons_succ, List.set_cons_zero]
    have u1 : (List.replicate j1 32 ++ tx ++ List.replicate j2 32).length ≤ 702 := by rw [List.length_append, List.length_append, List.length_replicate, List.length_replicate]; omega
    have u2 : List.replicate j1 32 ++ tx ++ List.replicate j2 32 ≠ [] := by simp [t2]
    have u3 : ∀ c ∈ List.replicate j1 32 ++ tx ++ List.replicate j2 32, c < 128 ∧ c ≠ 96 := fun c hc => by
      rcases List.mem_append.mp hc with hc | hc
      · rcases List.mem_append.mp hc with hc | hc
        · rw [(List.mem_replicate.mp hc).2]; omega
        · exact t3 c hc
      · rw [(List.mem_replicate.mp hc).2]; omega
    generalize List.replicate j1 32 ++ tx ++ List.replicate j2 32 = sg at u1 u2 u3 ⊢
    have ha : Asc sg := fun c hc => (u3 c hc).1
    have e1 : V.str (Str.ofString "`" ++ S sg ++ Str.ofString "`") = vS (96 :: (sg ++ [96])) := by
      show V.str (S [96] ++ S sg ++ S [96]) = _
      rw [S_app [96] sg, catV]
      rfl
    refine ⟨_, rfl, _, _, rfl, rfl, by show 1 + (S sg).length ≤ _; rw [S_len sg, hs]; omega, _, _, rfl, rfl, by show (S [96] ++ S sg).length + 1 ≤ _; rw [S_app, S_len, hs, List.length_append]; show 1 + _ + 1 ≤ _; omega, ?_⟩
    rw [e1]
    refine ⟨_, rfl, big (show (2 : Nat) ≤ 1000000 by decide), fun t ht => ⟨big (show (1 : Nat) ≤ 1000000 by decide), fun lst hlst => ⟨big (show (2 : Nat) ≤ 1000000 by decide), fun tp htp => ?_⟩⟩⟩
    obtain ⟨k1, k2⟩ := one_told (raw := 96 :: (sg ++ [96])) (p := .one (.code (S sg))) ((s13.trans s4).trans s5) rfl (.cons (dn_kind (by decide +kernel)) (.cons (dn_txt ha (by omega)) .nil)) ht hlst htp
    refine q _ _ tp _ k1 k2 (unit_part rfl (gd_code (fun z => (u3 96 z).2 rfl) u2) (fun c hc => ?_) ?_ ?_ ?_)
    · rcases List.mem_cons.mp hc with z | z
      · omega
      · rcases List.mem_append.mp z with z | z
        · exact ha c z
        · rw [List.mem_singleton.mp z]; omega
    · rw [List.length_cons, List.length_append]; show _ + 1 + 1 ≤ _; omega
    · show Asc (S sg).cps.toList; rw [S_list]; exact ha
    · show (S sg).cps.toList.length + 2 ≤ 900; rw [S_list]; omega
  refine s_no1 ((t_eqi (ev_v rfl) ev_c).eq (decide_eq_false c4)) fun H4 s4 => ?_
  have s14 := s13.trans s4
  -- the name
  refine ⟨_, rfl, _, _, rfl, rfl, ⟨by decide, by decide⟩, m / 11, rfl, by omega, by omega, fun H5 s5 => ?_⟩
  dsimp only [gName, List.set_cons_succ, List.set_cons_zero]
  have s15 := s14.trans s5
  have hnm := name_ok (m / 11) (by omega)
  generalize nameF (m / 11) = nm at hnm ⊢
  have hna := name_asc hnm
  have hnl : nm.length ≤ 12 := by unfold isNameC at hnm; rw [Bool.and_eq_true, Bool.and_eq_true] at hnm; exact of_decide_eq_true hnm.1.2
  have hns : ∀ c ∈ nm, c ≠ 41 ∧ c ≠ 93 := fun c hc => by
    unfold isNameC at hnm
    rw [Bool.and_eq_true] at hnm
    have := List.all_eq_true.mp hnm.2 c hc
    have hall : ∀ c ∈ nameSigns, c ≠ 41 ∧ c ≠ 93 := by decide
    exact hall c (by simpa using this)
  have hsl : (smallC nm).length ≤ 12 := by unfold smallC; rw [List.length_map]; exact hnl
  have hlow : Txt.lower (S nm) = S (smallC nm) := lower_S nm hna
  -- a link
  by_cases c5 : kd < 7
  · refine s_yes ((t_cmp (g := fun i j => .bl (decide (i < j))) (ev_v rfl) ev_c rfl).eq (decide_eq_true c5)) fun H6 s6 => ?_
    refine ⟨_, rfl, m, rfl, hm0.1, hm0.2, fun ps tq H7 s7 hps hne hpl etq => ?_⟩
    refine ⟨tq, _, rfl, SqT.of etq, rfl, _, _, rfl, _, _, rfl, rfl, ?_⟩
    dsimp only [gName, List.set_cons_succ, List.set_cons_zero]
    obtain ⟨z1, z2⟩ := lk_size hps
    obtain ⟨a1, a2⟩ := lk_asc hps
    have hgd := gd_link hps hne hnm (fun z => (hns 41 z).1 rfl)
    generalize (ps.map (·.1)).flatten = raw at z1 a1 hgd ⊢
    generalize (ps.map (·.2)).flatten = wd at z2 a2 hgd ⊢
    have e1 : V.str (Str.ofString "[" ++ S raw ++ Str.ofString "](" ++ S nm ++ Str.ofString ")") = vS (91 :: (raw ++ 93 :: 40 :: (nm ++ [41]))) := by
      show V.str (S [91] ++ S raw ++ S [93, 40] ++ S nm ++ S [41]) = _
      rw [S_app [91] raw, S_app _ [93, 40], S_app _ nm, catV]
      congr 2
      simp
    have e2 : (Str.ofString "[" ++ S raw) = S ([91] ++ raw) := S_app [91] raw
    have e3 : (S ([91] ++ raw) ++ Str.ofString "](") = S ([91] ++ raw ++ [93, 40]) := S_app _ [93, 40]
    have e4 : (S ([91] ++ raw ++ [93, 40]) ++ S nm) = S ([91] ++ raw ++ [93, 40] ++ nm) := S_app _ nm
    refine ⟨_, rfl, _, _, rfl, rfl, by show 1 + (S raw).length ≤ _; rw [S_len raw, hs]; omega, _, _, rfl, rfl, by rw [e2]; show (S ([91] ++ raw)).length + 2 ≤ _; rw [S_len, List.length_append, hs]; show 1 + _ + 2 ≤ _; omega, _, rfl, _, _, rfl, rfl, by rw [e2, e3, S_len, S_len, List.length_append, List.length_append, hs]; show 1 + _ + 2 + _ ≤ _; omega, _, _, rfl, rfl, by rw [e2, e3, e4]; show (S ([91] ++ raw ++ [93, 40] ++ nm)).length + 1 ≤ _; rw [S_len, List.length_append, List.length_append, List.length_append, hs]; show 1 + _ + 2 + _ + 1 ≤ _; omega, ?_⟩
    rw [e1]
    refine ⟨_, rfl, _, rfl, rfl, _, rfl, rfl, by rw [S_len]; omega, ?_⟩
    rw [hlow]
    refine ⟨big (show (3 : Nat) ≤ 1000000 by decide), fun t ht => ⟨big (show (1 : Nat) ≤ 1000000 by decide), fun lst hlst => ⟨big (show (2 : Nat) ≤ 1000000 by decide), fun tp htp => ?_⟩⟩⟩
    obtain ⟨k1, k2⟩ := one_told (raw := 91 :: (raw ++ 93 :: 40 :: (nm ++ [41]))) (p := .one (.link (S wd) (S (smallC nm)))) ((s15.trans s6).trans s7) rfl (.cons (dn_kind (by decide +kernel)) (.cons (dn_txt a2 (by omega)) (.cons (dn_txt hna.small (by omega)) .nil))) ht hlst htp
    refine q _ _ tp _ k1 k2 (unit_part rfl hgd (fun c hc => ?_) ?_ ?_ ?_)
    · simp only [List.mem_cons, List.mem_append, List.not_mem_nil, or_false] at hc
      rcases hc with z | z | z | z | z | z
      · omega
      · exact a1 c z
      · omega
      · omega
      · exact hna c z
      · omega
    · simp only [List.length_cons, List.length_append, List.length_nil]; omega
    · show Asc (S wd).cps.toList ∧ Asc (S (smallC nm)).cps.toList
      rw [S_list, S_list]
      exact ⟨a2, hna.small⟩
    · show (S wd).cps.toList.length + (S (smallC nm)).cps.toList.length + 20 ≤ 900
      rw [S_list, S_list]
      omega
  refine s_no1 ((t_cmp (g := fun i j => .bl (decide (i < j))) (ev_v rfl) ev_c rfl).eq (decide_eq_false c5)) fun H6 s6 => ?_
  have s16 := s15.trans s6
  have e2 : (Str.ofString "[^" ++ S nm) = S ([91, 94] ++ nm) := S_app [91, 94] nm
  have okn : Ok1 (.note (S (smallC nm))) := by show Asc (S (smallC nm)).cps.toList; rw [S_list]; exact hna.small
  -- a mark
  by_cases c7 : kd = 7
  · refine s_yes ((t_eqi (ev_v rfl) ev_c).eq (decide_eq_true c7)) fun H7 s7 => ?_
    have e1 : V.str (Str.ofString "[^" ++ S nm ++ Str.ofString "]") = vS (91 :: 94 :: (nm ++ [93])) := by
      show V.str (S [91, 94] ++ S nm ++ S [93]) = _
      rw [S_app [91, 94] nm, catV]
      rfl
    refine ⟨_, rfl, _, _, rfl, rfl, by show 2 + (S nm).length ≤ _; rw [S_len nm, hs]; omega, _, _, rfl, rfl, by rw [e2]; show (S ([91, 94] ++ nm)).length + 1 ≤ _; rw [S_len, List.length_append, hs]; show 2 + _ + 1 ≤ _; omega, ?_⟩
    rw [e1]
    refine ⟨_, rfl, rfl, _, rfl, rfl, by rw [S_len]; omega, ?_⟩
    rw [hlow]
    refine ⟨big (show (2 : Nat) ≤ 1000000 by decide), fun t ht => ⟨big (show (1 : Nat) ≤ 1000000 by decide), fun lst hlst => ⟨big (show (2 : Nat) ≤ 1000000 by decide), fun tp htp => ?_⟩⟩⟩
    obtain ⟨k1, k2⟩ := one_told (raw := 91 :: 94 :: (nm ++ [93])) (p := .one (.note (S (smallC nm)))) (s16.trans s7) rfl (.cons (dn_kind (by decide +kernel)) (.cons (dn_txt hna.small (by omega)) .nil)) ht hlst htp
    refine q _ _ tp _ k1 k2 (unit_part rfl (gd_mark hnm (fun z => (hns 93 z).2 rfl) (fun _ z => nomatch z)) (fun c hc => ?_) ?_ okn ?_)
    · simp only [List.mem_cons, List.mem_append, List.not_mem_nil, or_false] at hc
      rcases hc with z | z | z | z
      · omega
      · omega
      · exact hna c z
      · omega
    · simp only [List.length_cons, List.length_append, List.length_nil]; omega
    · show (S (smallC nm)).cps.toList.length + 20 ≤ 900
      rw [S_list]
      omega
  refine s_no1 ((t_eqi (ev_v rfl) ev_c).eq (decide_eq_false c7)) fun H7 s7 => ?_
  have s17 := s16.trans s7
  -- a mark and signs
  by_cases c8 : m % 11 = 10
  · refine s_yes ((t_eqi (i := m % 11) (j := 10) (fun R r => ⟨_, rfl, _, _, rfl, rfl, show (0 : Int) < 11 by decide, r⟩) ev_c).eq (decide_eq_true c8)) fun H8 s8 => ?_
    have e1 : V.str (Str.ofString "[^" ++ S nm ++ Str.ofString "](c)") = vS (91 :: 94 :: (nm ++ 93 :: [40, 99, 41])) := by
      show V.str (S [91, 94] ++ S nm ++ S [93, 40, 99, 41]) = _
      rw [S_app [91, 94] nm, catV]
      rfl
    refine ⟨_, rfl, _, _, rfl, rfl, by show 2 + (S nm).length ≤ _; rw [S_len nm, hs]; omega, _, _, rfl, rfl, by rw [e2]; show (S ([91, 94] ++ nm)).length + 4 ≤ _; rw [S_len, List.length_append, hs]; show 2 + _ + 4 ≤ _; omega, ?_⟩
    rw [e1]
    refine ⟨_, rfl, rfl, _, rfl, rfl, by rw [S_len]; omega, ?_⟩
    rw [hlow]
    refine ⟨big (show (2 : Nat) ≤ 1000000 by decide), fun t ht v9 H9 s9 d9 => ⟨big (show (2 : Nat) ≤ 1000000 by decide), fun lst hlst => ⟨big (show (2 : Nat) ≤ 1000000 by decide), fun tp htp => ?_⟩⟩⟩
    have s18 := s17.trans s8
    have st := same_new ht (.tup [V.str "note", vS (smallC nm)])
    have sl := same_new hlst (.lst [.ref t, v9])
    have stp := same_new htp (.tup [vS (91 :: 94 :: (nm ++ 93 :: [40, 99, 41])), .ref lst])
    have hgd := gd_mark (l := [40, 99, 41]) hnm (fun z => (hns 93 z).2 rfl) (by decide)
    have hat : atPs [.one (.note (S (smallC nm))), .one (.plain (S [40, 99, 41]))] = .pt (.one (.note (S (smallC nm)))) :: ([40, 99, 41] : List Nat).map .sg := by
      rw [atPs_cons, at_plain]
      rfl
    refine q (91 :: 94 :: (nm ++ 93 :: [40, 99, 41])) [.one (.note (S (smallC nm))), .one (.plain (S [40, 99, 41]))] tp _ ((((s18.trans st).trans s9).trans sl).trans stp) ⟨lst, [.ref t, v9], upd_same, stp _ _ upd_same, .cons ?_ (.cons ?_ .nil)⟩ ⟨by rw [hat]; exact hgd, fun c hc => ?_, ?_, fun p hp => ?_, ?_, by show 2 ≤ 2; decide⟩
    · refine .tup (xs := [V.str "note", vS (smallC nm)]) ?_ (.cons (dn_kind (by decide +kernel)) (.cons (dn_txt hna.small (by omega)) .nil))
      rw [dif_at (s18.free ht)]
      exact stp _ _ (sl _ _ (s9 _ _ upd_same))
    · exact d9.same (dif_grow (s18.trans st) (sl.trans stp))
    · simp only [List.mem_cons, List.mem_append, List.not_mem_nil, or_false] at hc
      rcases hc with z | z | z | z | z | z | z
      · omega
      · omega
      · exact hna c z
      · omega
      · omega
      · omega
      · omega
    · simp only [List.length_cons, List.length_append, List.length_nil]; omega
    · rcases List.mem_cons.mp hp with z | z
      · exact ⟨_, z, okn⟩
      · refine ⟨_, List.mem_singleton.mp z, ?_⟩
        show Asc (S [40, 99, 41]).cps.toList ∧ (S [40, 99, 41]).cps.toList ≠ []
        rw [S_list]
        exact ⟨by unfold Asc; decide, by simp⟩
    · rw [hat]
      show (S (smallC nm)).cps.toList.length + 20 + (1 + (1 + (1 + 0))) ≤ 900
      rw [S_list]
      omega
  refine s_no1 ((t_eqi (i := m % 11) (j := 10) (fun R r => ⟨_, rfl, _, _, rfl, rfl, show (0 : Int) < 11 by decide, r⟩) ev_c).eq (decide_eq_false c8)) fun H8 s8 => ?_
  have s18 := s17.trans s8
  -- nearly a link or a mark
  refine ⟨big (show (7 : Nat) ≤ 1000000 by decide), fun o1 ho1 => ?_⟩
  dsimp only [gName, List.set_cons_succ, List.set_cons_zero]
  have t1 := same_new ho1 (.lst ((oddL.take 7).map vS))
  have x1 : upd H8 o1 (.lst ((oddL.take 7).map vS)) o1 = some (.lst ((oddL.take 7).map vS)) := upd_same
  refine ⟨_, rfl, big (show (3 : Nat) ≤ 1000000 by decide), fun o2 ho2 => ?_⟩
  have t2 := same_new ho2 (.lst ((oddL.drop 7).map vS))
  refine ⟨o1, o2, (oddL.take 7).map vS, (oddL.drop 7).map vS, rfl, rfl, t2 _ _ x1, upd_same, by rw [hs]; decide, fun o3 ho3 => ?_⟩
  dsimp only [gName, List.set_cons_succ, List.set_cons_zero]
  have t3 := same_new ho3 (.lst ((oddL.take 7).map vS ++ (oddL.drop 7).map vS))
  have s19 := ((s18.trans t1).trans t2).trans t3
  obtain ⟨j, hj, hjl⟩ : ∃ j : Nat, m % 10 = (j : Int) ∧ j < oddL.length := ⟨(m % 10).toNat, by omega, by show _ < 10; omega⟩
  have hat : atI ((oddL.take 7).map vS ++ (oddL.drop 7).map vS) (m % 10) = some (vS oddL[j]) := by
    rw [hj, ← List.map_append, List.take_append_drop]
    exact atI_nat (by rw [List.getElem?_map, List.getElem?_eq_getElem hjl]; rfl)
  refine ⟨_, rfl, _, rfl, _, _, rfl, rfl, show (0 : Int) < 10 by decide, o3, _, _, _, rfl, rfl, SqL.of upd_same, hat, ?_⟩
  refine ⟨_, rfl, _, rfl, _, _, rfl, rfl, show (0 : Int) < 10 by decide, o3, _, _, _, rfl, rfl, SqL.of upd_same, hat, ?_⟩
  have hmem : oddL[j] ∈ oddL := List.getElem_mem hjl
  generalize oddL[j] = od at hmem ⊢
  have hod : ∀ l ∈ oddL, (∀ c ∈ l, c < 128) ∧ l.length ≤ 20 := by decide
  obtain ⟨ho1', ho2'⟩ := hod od hmem
  refine ⟨big (show (2 : Nat) ≤ 1000000 by decide), fun t ht => ⟨big (show (1 : Nat) ≤ 1000000 by decide), fun lst hlst => ⟨big (show (2 : Nat) ≤ 1000000 by decide), fun tp htp => ?_⟩⟩⟩
  obtain ⟨k1, k2⟩ := one_told (raw := od) (p := .one (.plain (S od))) s19 rfl (.cons (dn_kind (by decide +kernel)) (.cons (dn_txt ho1' (by omega)) .nil)) ht hlst htp
  exact q _ _ tp _ k1 k2 (unit_plain (gd_odds od hmem) ho1' (by omega))
end
end K4

set_option Elab.async false
set_option linter.all false
set_option maxRecDepth 100000
set_option maxHeartbeats 4000000
namespace K4
open PySem L2 Lm Lw PySem.Builtin.Int
theorem cutV_to (xs : List V) (k : Nat) : cutV xs none (some (k : Int)) = xs.take k := by
  unfold cutV
  rw [HT.sIx_nat, HT.sIx_none, List.drop_zero, Nat.sub_zero]
  rcases Nat.le_total k xs.length with h | h
  · rw [Nat.min_eq_left h]
  · rw [Nat.min_eq_right h, List.take_length, List.take_of_length_le h]
theorem told_kind {G : Hp} {v : V} {p : PC} (h : Dn G v (dP p)) : ∃ a ys, v = .ref a ∧ G a = some (.tup (.str (kdP p) :: ys)) ∧ ∀ s, p = .one (.plain s) → ys = [.str s] := by
  obtain ⟨ds, hd⟩ : ∃ ds, dP p = .tuple (.str (kdP p) :: ds) := by
    match p with
    | .one (.plain _) => exact ⟨_, rfl⟩
    | .one (.code _) => exact ⟨_, rfl⟩
    | .one (.link _ _) => exact ⟨_, rfl⟩
    | .one (.note _) => exact ⟨_, rfl⟩
    | .strong _ => exact ⟨_, rfl⟩
  have h0 := h
  rw [hd] at h
  obtain ⟨a, xs, es, rfl, he, ea, da⟩ | ⟨_, z⟩ := Dn.tupCase h
  rotate_left
  · exact absurd rfl (z _)
  cases he
  cases da with | cons d1 da =>
  cases d1
  refine ⟨a, _, rfl, ea, fun s hs => ?_⟩
  subst hs
  cases hd
  cases da with | cons d2 da =>
  cases d2
  cases da
  rfl
theorem kd_plain (p : PC) : decide (kdP p = ("plain" : Str)) = p.isPlain := by
  match p with
  | .one (.plain _) => rfl
  | .one (.code _) => exact decide_eq_false (show ¬ kCode = ("plain" : Str) by decide +kernel)
  | .one (.link _ _) => exact decide_eq_false (show ¬ kLink = ("plain" : Str) by decide +kernel)
  | .one (.note _) => exact decide_eq_false (show ¬ kNote = ("plain" : Str) by decide +kernel)
  | .strong _ => exact decide_eq_false (show ¬ kStrong = ("plain" : Str) by decide +kernel)
theorem szA_take (ps : List PC) (i : Nat) : szA (atPs (ps.take i)) ≤ szA (atPs ps) := by
  conv => rhs; rw [← List.take_append_drop i ps, atPs_app, szA_app]
  omega
theorem at_len : ∀ (A : List Atm), (mgA [] A).length ≤ A.length := fun A => by have := mgA_len A []; simpa using this
theorem mem_sz {l : List PC} {p : PC} (h : p ∈ l) : szC p ≤ (l.map szC).sum := by
  induction l with
  | nil => cases h
  | cons q l ih =>
    rw [List.map_cons, List.sum_cons]
    rcases List.mem_cons.mp h with z | z
    · rw [z]; omega
    · have := ih z; omega
theorem jn_len (F : List PC) (p : PC) : (jn F p).length ≤ F.length + 1 := by
  unfold jn
  split
  · rw [List.length_append, List.length_dropLast]; show _ + 1 ≤ _; omega
  · rw [List.length_append]; exact Nat.le_refl _
section
variable {P : Program} {w : World} {K : PySem.W.Frag} {mg : Str → Option Value} {base : Heap}
abbrev sJoined : Stmt := top 38
theorem scJoined : FnScope ["_law_parts", "_law_found", "_law_part"] ["_law_parts"] (defScope sJoined) := ⟨rfl, rfl, rfl, by decide +kernel, rfl, by decide +kernel, by decide +kernel⟩
def spJoined : Sp := fun vs H Q _ => ∃ (G0 : Hp) (l : Addr) (xs : List V) (ps : List PC), vs = [.ref l] ∧ Same G0 H ∧ H l = some (.lst xs) ∧ DnAll (dif G0 H) xs (ps.map dP) ∧ (∀ p ∈ ps, OkC p) ∧ ps.length ≤ 1000 ∧ szA (atPs ps) ≤ 50000 ∧
  ∀ r ys H', Same H H' → H r = none → H' r = some (.lst ys) → DnAll (dif G0 H') ys ((joinP ps).map dP) → Q (.ref r) H'
theorem ok_joined {f : Addr} {fd : FuncData} (F : Fun K "_law_joined" "_law_joined" sJoined f fd) (T : TxL mg) : FnOk P w K mg base CX0 1 f fd ["_law_parts"] spJoined := by
  have sc := scJoined
  refine F.ok sc (fun vs H Q E h => ?_) (fun cdv A outer s H vs Q E hr h => ?_)
  · obtain ⟨G0, l, xs, ps, rfl, _⟩ := h
    rfl
  obtain ⟨G0, l, xs, ps, rfl, s0, el, hin, hok, hpl, hsz, q⟩ := h
  have hu : (A.deeper (PyProof.Rows.envOfC "_law_joined" (defScope sJoined) s.heap.objs.size f cdv)).units + 64 < cLine := by
    have := hr.un
    omega
  refine of_XB (xbc (xset (i := 1) sc.nd rfl (Or.inl rfl) (xlst xa0))
    (xbc (xfor PassesOwn.never rfl (xil (xv 0)) (xgn (i := 2) sc.nd rfl (Or.inl rfl))
    (xb1 (xif (xand (xcmpT op_eq (xix ix_tup (xv 2) xint (fun _ _ => rfl)) xstr (nomark _)) (xand (xcmpT (op_ne0 hu) (xv 1) (xlst xa0) (nomark _)) (xand1 (xcmpT op_eq (xix ix_tup (xix ix_list (xv 1) (xop op_sub (xcB call_len_seq T.n_len PySem.boot_len (xac (xv 1) xa0)) xint) (fun _ _ => rfl)) xint (fun _ _ => rfl)) xstr (nomark _))))).xt (xb1 (xset (i := 1) sc.nd rfl (Or.inl rfl) (xop op_cat (xsl sl_list (xv 1) xo0 (xo1 (xop op_sub (xcB call_len_seq T.n_len PySem.boot_len (xac (xv 1) xa0)) xint))) (xlst (xac (xtup (xac xstr (xac (xop op_add_str (xix ix_tup (xix ix_list (xv 1) (xop op_sub (xcB call_len_seq T.n_len PySem.boot_len (xac (xv 1) xa0)) xint) (fun _ _ => rfl)) xint (fun _ _ => rfl)) (xix ix_tup (xv 2) xint (fun _ _ => rfl))) xa0))) xa0))))) (xb1 (xset (i := 1) sc.nd rfl (Or.inl rfl) (xop op_cat (xv 1) (xlst (xac (xv 2) xa0))))))))
    (xb1 (xret (xv 1))))) ?_
  have hs : sizeLine = 16777216 := sizeLine_eq
  have hxl : xs.length = ps.length := by rw [hin.len, List.length_map]
  rw [show start ["_law_parts", "_law_found", "_law_part"] [V.ref l] = [some (.ref l), none, none] from rfl]
  refine ⟨big (show (0 : Nat) ≤ 1000000 by decide), fun f0 hf0 => ?_⟩
  have s1 := same_new hf0 (.lst [])
  have e1 : upd H f0 (.lst []) f0 = some (.lst []) := upd_same
  dsimp only [gName, List.set_cons_succ, List.set_cons_zero]
  generalize upd H f0 (.lst []) = H1 at s1 e1 ⊢
  refine ⟨_, rfl, l, rfl, ⟨_, SqL.of (s1 _ _ el)⟩, ?_⟩
  have hpre : ∀ i, (ps.take i).foldl jn [] = mgA [] (atPs (ps.take i)) := fun i => join_eq fun p hp => hok p (List.mem_of_mem_take hp)
  refine for_list (xs := xs) (fun i σ H' => ∃ (fr : Addr) (ys : List V) (x2 : Option V), σ = [some (.ref l), some (.ref fr), x2] ∧ Same H H' ∧ H fr = none ∧ H' fr = some (.lst ys) ∧ DnAll (dif G0 H') ys (((ps.take i).foldl jn []).map dP) ∧ ((ps.take i).foldl jn []).length ≤ i) ⟨f0, [], none, rfl, s1, hf0, e1, .nil, Nat.zero_le _⟩ ?_ ?_ ?_
  · rintro i σ H3 _ ⟨fr, ys, x2, _, s3, _⟩
    exact SqL.of (s3 _ _ el)
  · rintro i x σ H3 hx ⟨fr, ys, x2, rfl, s3, hfr, ef, hd, hfl⟩
    obtain ⟨hil, _⟩ := List.getElem?_eq_some_iff.mp hx
    obtain ⟨p, hp⟩ : ∃ p, ps[i]? = some p := ⟨_, List.getElem?_eq_getElem (by omega)⟩
    have hpm := List.mem_of_getElem? hp
    have htk : (ps.take (i + 1)).foldl jn [] = jn ((ps.take i).foldl jn []) p := by
      rw [List.take_add_one, hp]
      show List.foldl jn [] (ps.take i ++ [p]) = _
      rw [List.foldl_append]
      rfl
    have hall : ∀ p ∈ (ps.take i).foldl jn [], OkC p := by
      rw [hpre i]
      exact mgA_ok _ [] (atPs_ok fun p hp => hok p (List.mem_of_mem_take hp)) (fun _ z => nomatch z)
    have hsum : (((ps.take i).foldl jn []).map szC).sum ≤ 50000 := by
      rw [hpre i, mgA_sz]
      have := szA_take ps i
      show 0 + _ ≤ _
      omega
    have hjl := jn_len ((ps.take i).foldl jn []) p
    rw [htk]
    generalize (ps.take i).foldl jn [] = F at hd hfl hall hsum hjl ⊢
    have hyl : ys.length = F.length := by rw [hd.len, List.length_map]
    have hdx : Dn (dif G0 H) x (dP p) := by
      obtain ⟨v, h1, h2⟩ := hin.get (i := i) (d := dP p) (by rw [List.getElem?_map, hp]; rfl)
      rw [hx] at h1
      cases h1
      exact h2
    obtain ⟨b, zs, rfl, eb, hzs⟩ := told_kind hdx
    have eb3 := s3 _ _ (dif_some eb).2
    dsimp only [gName, List.set_cons_succ, List.set_cons_zero]
    have evK : ∀ H', Same H3 H' → Ev (tOp (rIxT K) (tVar 2) (tC (.int 0))) [some (.ref l), some (.ref fr), some (.ref b)] H' (.str (kdP p)) := fun H' s' => ev_ixT (ev_v rfl) ev_c (SqT.of (s' _ _ eb3)) (atI_nat (j := 0) rfl)
    -- not merged
    have plain1 : ∀ H4, Same H3 H4 → jn F p = F ++ [p] → ∀ D : Ends, (∀ σ' H', (∃ (fr : Addr) (ys : List V) (x2 : Option V), σ' = [some (.ref l), some (.ref fr), x2] ∧ Same H H' ∧ H fr = none ∧ H' fr = some (.lst ys) ∧ DnAll (dif G0 H') ys ((jn F p).map dP) ∧ (jn F p).length ≤ i + 1) → D.nx σ' H') →
        tAsg (tOp rCat (tVar 1) (tLst (tCons (tVar 2) tNil))) (gName 1) D [some (.ref l), some (.ref fr), some (.ref b)] H4 := by
      intro H4 s4 hj D hD
      refine ⟨_, rfl, _, rfl, big (show (1 : Nat) ≤ 1000000 by decide), fun o ho => ?_⟩
      have so := same_new ho (.lst [V.ref b])
      refine ⟨fr, o, ys, [.ref b], rfl, rfl, so _ _ (s4 _ _ ef), upd_same, by rw [hs]; simp only [List.length_cons, List.length_nil]; omega, fun r hr0 => hD _ _ ?_⟩
      have sr := so.trans (same_new hr0 (.lst (ys ++ [V.ref b])))
      refine ⟨r, ys ++ [.ref b], _, rfl, (s3.trans s4).trans sr, ((s3.trans s4).trans so).free hr0, upd_same, ?_, by omega⟩
      rw [hj, List.map_append]
      refine (hd.same (dif_grow (Same.refl _) (s4.trans sr))).app (.cons ?_ .nil)
      exact hdx.same (dif_grow (Same.refl _) ((s3.trans s4).trans sr))
    by_cases hpp : p.isPlain = true
    rotate_left
    · have hpp := Bool.eq_false_iff.mpr hpp
      refine s_if false (t_and false false ((t_eqS (evK H3 (Same.refl _)) ev_c).eq (by rw [kd_plain, hpp])) (fun z => Bool.noConfusion z)) (fun _ _ z => Bool.noConfusion z) fun H4 s4 _ => ?_
      exact plain1 H4 s4 (jn_np hpp) _ fun σ' H' h => h
    obtain ⟨sp, rfl⟩ : ∃ sp, p = .one (.plain sp) := by
      match p, hpp with
      | .one (.plain s), _ => exact ⟨s, rfl⟩
    have hzs := hzs sp rfl
    subst hzs
    have tK : ∀ H', Same H3 H' → Tells (tTest (tOp rEq (tOp (rIxT K) (tVar 2) (tC (.int 0))) (tC (.str "plain")))) [some (.ref l), some (.ref fr), some (.ref b)] H' true := fun H' s' => (t_eqS (evK H' s') ev_c).eq (kd_plain _)
    rcases List.eq_nil_or_concat F with hF | ⟨F', lp, hF⟩
    · subst hF
      have hy0 : ys = [] := List.eq_nil_of_length_eq_zero hyl
      refine s_if false (t_and true false (tK H3 (Same.refl _)) fun _ H4 s4 => t_and false false ((t_ne0 (ev_v rfl) (SqL.of (s4 _ _ ef))).eq (by rw [hy0]; rfl)) (fun z => Bool.noConfusion z)) (fun _ _ z => Bool.noConfusion z) fun H4 s4 _ => ?_
      exact plain1 H4 s4 (jn_no fun s z => nomatch z) _ fun σ' H' h => h
    rw [List.concat_eq_append] at hF
    subst hF
    obtain ⟨ys', yl, hys⟩ : ∃ ys' yl, ys = ys' ++ [yl] := by
      rcases List.eq_nil_or_concat ys with z | ⟨a, b, z⟩
      · rw [z] at hyl; simp at hyl
      · exact ⟨a, b, by rw [z, List.concat_eq_append]⟩
    subst hys
    rw [List.length_append, List.length_append] at hyl
    have hyl' : ys'.length = F'.length := by simpa using hyl
    have hlast : Dn (dif G0 H3) yl (dP lp) := by
      obtain ⟨v, h1, h2⟩ := hd.get (i := F'.length) (d := dP lp) (by rw [List.getElem?_map, List.getElem?_append_right (Nat.le_refl _), Nat.sub_self]; rfl)
      rw [← hyl', List.getElem?_append_right (Nat.le_refl _), Nat.sub_self] at h1
      cases h1
      exact h2
    obtain ⟨bl, zl, rfl, ebl, hzl⟩ := told_kind hlast
    have ebl3 := (dif_some ebl).2
    have hat : atI (ys' ++ [V.ref bl]) ((ys'.length : Nat) : Int) = some (.ref bl) := atI_nat (by rw [List.getElem?_append_right (Nat.le_refl _), Nat.sub_self]; rfl)
    have evL : ∀ H', Same H3 H' → Ev (tOp (rIxL K) (tVar 1) (tOp (rI0 fun i j => .int (i - j)) (tCB (fun xs H Q => ∃ p ys, xs = [.ref p] ∧ (SqL K H p ys ∨ SqT K H p ys) ∧ Q (.int ys.length) H) (tCons (tVar 1) tNil)) (tC (.int 1)))) [some (.ref l), some (.ref fr), some (.ref b)] H' (.ref bl) := fun H' s' =>
      ev_ixL (ev_v rfl) (ev_op (ev_lenS (ev_v rfl) (.inl (SqL.of (s' _ _ ef)))) ev_c (by show V.int (((ys' ++ [V.ref bl]).length : Nat) - 1) = V.int ((ys'.length : Nat) : Int); rw [List.length_append]; show V.int (((ys'.length + 1 : Nat) : Int) - 1) = _; congr 1; omega)) (SqL.of (s' _ _ ef)) hat
    have tAll : Tells (tAnd (tTest (tOp rEq (tOp (rIxT K) (tVar 2) (tC (.int 0))) (tC (.str "plain")))) (tAnd (tTest (tOp (rEq0 K true) (tVar 1) (tLst tNil))) (tTest (tOp rEq (tOp (rIxT K) (tOp (rIxL K) (tVar 1) (tOp (rI0 fun i j => .int (i - j)) (tCB (fun xs H Q => ∃ p ys, xs = [.ref p] ∧ (SqL K H p ys ∨ SqT K H p ys) ∧ Q (.int ys.length) H) (tCons (tVar 1) tNil)) (tC (.int 1)))) (tC (.int 0))) (tC (.str "plain")))))) [some (.ref l), some (.ref fr), some (.ref b)] H3 (true && (true && lp.isPlain)) :=
      t_and true _ (tK H3 (Same.refl _)) fun _ H4 s4 => t_and true _ ((t_ne0 (ev_v rfl) (SqL.of (s4 _ _ ef))).eq (by simp)) fun _ H5 s5 => (t_eqS (ev_ixT (evL H5 (s4.trans s5)) ev_c (SqT.of ((s4.trans s5) _ _ ebl3)) (atI_nat (j := 0) rfl)) ev_c).eq (kd_plain lp)
    by_cases hlp : lp.isPlain = true
    rotate_left
    · have hlp := Bool.eq_false_iff.mpr hlp
      refine s_if false (tAll.eq (by rw [hlp]; rfl)) (fun _ _ z => Bool.noConfusion z) fun H4 s4 _ => ?_
      refine plain1 H4 s4 (jn_no fun s z => ?_) _ fun σ' H' h => h
      rw [List.getLast?_concat] at z
      cases z
      cases hlp
    obtain ⟨sq, rfl⟩ : ∃ sq, lp = .one (.plain sq) := by
      match lp, hlp with
      | .one (.plain s), _ => exact ⟨s, rfl⟩
    have hzl := hzl sq rfl
    subst hzl
    refine s_if true (tAll.eq rfl) (fun H4 s4 _ => ?_) fun _ _ z => Bool.noConfusion z
    have s34 := s3.trans s4
    have ef4 := s4 _ _ ef
    -- the merged one
    have okq := hall (.one (.plain sq)) (List.mem_append_right _ (List.mem_singleton.mpr rfl))
    have okp := hok _ hpm
    have hq1 : sq.cps.toList.length ≤ 50000 := Nat.le_trans (mem_sz (p := .one (.plain sq)) (List.mem_append_right F' (List.mem_singleton.mpr rfl))) hsum
    have hp1 : sp.cps.toList.length ≤ 50000 := by
      have h1 : szA (atP (.one (.plain sp))) ≤ szA (atPs ps) := by
        obtain ⟨a, b, e⟩ := List.append_of_mem hpm
        rw [e, atPs_app, szA_app, atPs_cons, szA_app]
        omega
      have h2 : szA (atP (.one (.plain sp))) = sp.cps.toList.length := szA_signs _
      omega
    refine ⟨_, rfl, ?_⟩
    refine ev_op (g := fun i j => .int (i - j)) (ev_lenS (ev_v rfl) (.inl (SqL.of ef4))) ev_c (v := V.int ((ys'.length : Nat) : Int)) (by show V.int (((ys' ++ [V.ref bl]).length : Nat) - 1) = V.int ((ys'.length : Nat) : Int); rw [List.length_append]; show V.int (((ys'.length + 1 : Nat) : Int) - 1) = _; congr 1; omega) _ ⟨_, rfl, ?_⟩
    refine ⟨fr, _, rfl, SqL.of ef4, fun c0 hc0 => ?_⟩
    rw [cutV_to, List.take_left]
    have sc0 := same_new hc0 (.lst ys')
    have ec0 : upd H4 c0 (.lst ys') c0 = some (.lst ys') := upd_same
    generalize upd H4 c0 (.lst ys') = H5 at sc0 ec0 ⊢
    have s45 := s4.trans sc0
    refine ev_ixT (evL H5 s45) ev_c (SqT.of (s45 _ _ ebl3)) (atI_nat (j := 1) rfl) _ ?_
    refine ev_ixT (ev_v rfl) ev_c (SqT.of (s45 _ _ eb3)) (atI_nat (j := 1) rfl) _ ?_
    refine ⟨_, _, rfl, rfl, by rw [strLen, strLen, hs]; omega, big (show (2 : Nat) ≤ 1000000 by decide), fun t ht => ⟨big (show (1 : Nat) ≤ 1000000 by decide), fun o ho => ?_⟩⟩
    have st := same_new ht (.tup [V.str "plain", V.str (sq ++ sp)])
    have so := same_new ho (.lst [V.ref t])
    refine ⟨c0, o, ys', [.ref t], rfl, rfl, so _ _ (st _ _ ec0), upd_same, by rw [hs]; simp only [List.length_cons, List.length_nil]; rw [List.length_append] at hfl; omega, fun r hr0 => ?_⟩
    have sr := same_new hr0 (.lst (ys' ++ [V.ref t]))
    have s5r := (st.trans so).trans sr
    have s3r := s45.trans s5r
    dsimp only [gName, List.set_cons_succ, List.set_cons_zero]
    refine ⟨r, ys' ++ [.ref t], _, rfl, s3.trans s3r, ((s34.trans sc0).trans (st.trans so)).free hr0, upd_same, ?_, by omega⟩
    rw [jn_two, List.map_append]
    have hd' : DnAll (dif G0 H3) ys' (F'.map dP) := by
      have := hd.take F'.length
      rw [← hyl', List.take_left, hyl', List.map_append, ← List.length_map (f := dP) (as := F'), List.take_left] at this
      exact this
    refine (hd'.same (dif_grow (Same.refl _) s3r)).app (.cons ?_ .nil)
    refine .tup (xs := [V.str "plain", V.str (sq ++ sp)]) ?_ (.cons (dn_kind (by decide +kernel)) (.cons ?_ .nil))
    · rw [dif_at (s0.free ((s34.trans sc0).free ht))]
      exact sr _ _ (so _ _ upd_same)
    · have e : sq ++ sp = S (sq.cps.toList ++ sp.cps.toList) := by rw [← S_app, S_of, S_of]
      rw [e]
      exact dn_txt (asc_app okq.1 okp.1) (by rw [List.length_append]; omega)
  · rintro σ H3 ⟨fr, ys, x2, rfl, s3, hfr, ef, hd, hfl⟩
    rw [hxl, List.take_length] at hd
    exact ⟨_, rfl, q fr ys H3 s3 hfr ef hd⟩
end
end K4

set_option Elab.async false
set_option linter.all false
set_option maxRecDepth 100000
set_option maxHeartbeats 4000000
namespace K4
open PySem L2 Lm Lw PySem.Builtin.Int
section
variable {P : Program} {w : World} {K : PySem.W.Frag} {mg : Str → Option Value} {base : Heap}
abbrev sPiece : Stmt := top 43
theorem scPiece : FnScope ["_law_number", "_law_kind", "_law_more", "_law_raw", "_law_parts", "_law_turn", "_law_piece_here"] ["_law_number"] (defScope sPiece) := ⟨rfl, rfl, rfl, by decide +kernel, rfl, by decide +kernel, by decide +kernel⟩
def spPiece : Sp := fun vs H Q _ => ∃ n : Int, vs = [.int n] ∧ 0 ≤ n ∧ n ≤ 4294967296 ∧ ∀ raw ps tp H', Same H H' → Told H H' tp raw ps → BlockOk raw ps → Q (.ref tp) H'
theorem flat_rep1 {α : Type} (x : List α) : ∀ k : Nat, k ≤ 1 → (List.replicate k x).flatten = if k = 0 then [] else x
  | 0, _ => rfl
  | 1, _ => by show x ++ [] = x; rw [List.append_nil]
  | k + 2, h => by omega
/-- the text of a strong one as far as it goes -/
structure InOk (raw : List Nat) (ps : List PC) (t : Nat) : Prop where
  gd : (raw = [] ∧ ps = [] ∧ t = 0) ∨ Gd raw (atPs ps)
  asc : Asc raw
  len : raw.length ≤ 1 + 800 * t
  one : ∀ p ∈ ps, ∃ q, p = .one q ∧ Ok1 q
  sz : szA (atPs ps) ≤ 1 + 900 * t
  n : ps.length ≤ 1 + 2 * t
theorem InOk.add {raw r2 : List Nat} {ps p2 : List PC} {t : Nat} (h : InOk raw ps t) (k : UnitOk r2 p2) : InOk (raw ++ r2) (ps ++ p2) (t + 1) := by
  refine ⟨.inr ?_, asc_app h.asc k.asc, ?_, fun p hp => ?_, ?_, ?_⟩
  · rcases h.gd with ⟨rfl, rfl, _⟩ | g
    · exact k.gd
    · rw [atPs_app]; exact g.app k.gd
  · rw [List.length_append]; have := h.len; have := k.len; omega
  · rcases List.mem_append.mp hp with z | z
    · exact h.one p z
    · exact k.one p z
  · rw [atPs_app, szA_app]; have := h.sz; have := k.sz; omega
  · rw [List.length_append]; have := h.n; have := k.n; omega
theorem in_nil : InOk [] [] 0 := ⟨.inl ⟨rfl, rfl, rfl⟩, (fun _ z => nomatch z), Nat.zero_le _, (fun _ z => nomatch z), Nat.zero_le _, Nat.zero_le _⟩
theorem ok_blank : Ok1 (.plain (S [32])) := by
  show Asc (S [32]).cps.toList ∧ (S [32]).cps.toList ≠ []
  rw [S_list]
  exact ⟨by unfold Asc; decide, by simp⟩
theorem in_blank : InOk [32] [.one (.plain (S [32]))] 0 := ⟨.inr (by rw [at_plain]; exact Gd.signs (by decide) ⟨32, _, rfl, by decide⟩), by unfold Asc; decide, by decide, fun p hp => ⟨_, List.mem_singleton.mp hp, ok_blank⟩, by rw [at_plain]; decide, by decide⟩
theorem ok_piece {f : Addr} {fd : FuncData} (F : Fun K "_law_piece" "_law_piece" sPiece f fd) (T : TxL mg) (D_l_mixed : Def P w K mg base 1 "_law_mixed" ["_law_cell_here", "_law_k"] spMixed)
    (D_l_simple : Def P w K mg base 3 "_law_simple" ["_law_number"] spSimple) (D_l_joined : Def P w K mg base 1 "_law_joined" ["_law_parts"] spJoined) : FnOk P w K mg base CX0 4 f fd ["_law_number"] spPiece := by
  have sc := scPiece
  refine F.ok sc (fun vs H Q E h => ?_) (fun cdv A outer s H vs Q E hr h => ?_)
  · obtain ⟨n, rfl, _⟩ := h
    rfl
  obtain ⟨n, rfl, n0, n1, q⟩ := h
  refine of_XB (xbc (xset (i := 1) sc.nd rfl (Or.inl rfl) (xop op_mod (xv 0) xint))
    (xbc (xset (i := 2) sc.nd rfl (Or.inl rfl) (xop op_fdiv (xv 0) xint))
    (xbc (xif (xcmpT op_gt (xv 1) xint (nomark _)) (xb1 (xret (xcD D_l_simple (hr.mono (by omega)) (xac (xv 2) xa0)))) xb0)
    (xbc (xif (xand (xcmpT op_eq (xv 1) xint (nomark _)) (xand1 (xcmpT op_eq (xop op_mod (xv 2) xint) xint (nomark _)))).xt (xb1 (xret (xl_tup (xlsc (xl_str (by decide +kernel)) (xlsc (xl_lst (xlsc (xl_tup (xlsc (xl_str (by decide +kernel)) (xlsc (xl_str (by decide +kernel)) xls0))) xls0)) xls0))))) xb0)
    (xbc (xif (xcmpT op_eq (xv 1) xint (nomark _)) (xb1 (xret (xcD D_l_simple (hr.mono (by omega)) (xac (xv 2) xa0)))) xb0)
    (xbc (xset (i := 3) sc.nd rfl (Or.inl rfl) (xop op_mul_str xstr (xop op_fdiv (xop op_mod (xv 2) xint) xint)))
    (xbc (xset (i := 4) sc.nd rfl (Or.inl rfl) (xop op_rep (xl_lst (xlsc (xl_tup (xlsc (xl_str (by decide +kernel)) (xlsc (xl_str (by decide +kernel)) xls0))) xls0)) (xop op_fdiv (xop op_mod (xv 2) xint) xint)))
    (xbc (xfor PassesOwn.never rfl (xir1 rfl T.n_range (xac (xop op_add xint (xop op_mod (xop op_fdiv (xv 2) xint) xint)) xa0)) (xgn (i := 5) sc.nd rfl (Or.inl rfl))
    (xbc (xset (i := 6) sc.nd rfl (Or.inl rfl) (xcD D_l_simple (hr.mono (by omega)) (xac (xcD D_l_mixed (hr.mono (by omega)) (xac (xv 2) (xac (xop op_add (xv 5) xint) xa0))) xa0)))
    (xbc (xset (i := 3) sc.nd rfl (Or.inl rfl) (xop op_add_str (xv 3) (xix ix_tup (xv 6) xint (fun _ _ => rfl))))
    (xb1 (xset (i := 4) sc.nd rfl (Or.inl rfl) (xop op_cat (xv 4) (xix ix_tup (xv 6) xint (fun _ _ => rfl))))))))
    (xb1 (xret (xtup (xac (xop op_add_str (xop op_add_str xstr (xv 3)) xstr) (xac (xlst (xac (xtup (xac xstr (xac (xcD D_l_joined (hr.mono (by omega)) (xac (xv 4) xa0)) xa0))) xa0)) xa0))))))))))))) ?_
  have hs : sizeLine = 16777216 := sizeLine_eq
  rw [show start ["_law_number", "_law_kind", "_law_more", "_law_raw", "_law_parts", "_law_turn", "_law_piece_here"] [V.int n] = [some (V.int n), none, none, none, none, none, none] from rfl]
  refine ⟨_, rfl, _, _, rfl, rfl, show (0 : Int) < 6 by decide, ?_⟩
  dsimp only [gName, List.set_cons_succ, List.set_cons_zero]
  refine ⟨_, rfl, _, _, rfl, rfl, ⟨by decide, by decide⟩, ?_⟩
  dsimp only [gName, List.set_cons_succ, List.set_cons_zero]
  have hk6 : 0 ≤ n % 6 ∧ n % 6 < 6 := by omega
  have hm0 : 0 ≤ n / 6 ∧ n / 6 ≤ 4294967296 := by omega
  generalize n % 6 = kd at hk6 ⊢
  generalize n / 6 = m at hm0 ⊢
  have simple : ∀ {H1 : Hp}, Same H H1 → ∀ raw ps tp H', Same H1 H' → Told H1 H' tp raw ps → UnitOk raw ps → Q (.ref tp) H' := fun {H1} s1 raw ps tp H' s' ⟨l, xs, a, b, d⟩ hu => q raw ps tp H' (s1.trans s') ⟨l, xs, a, b, d.same (dif_grow s1 (Same.refl _))⟩ hu.bk
  by_cases c1 : kd > 1
  · refine s_yes ((t_cmp (g := fun i j => .bl (decide (i > j))) (ev_v rfl) ev_c rfl).eq (decide_eq_true c1)) fun H1 s1 => ?_
    exact ⟨_, rfl, m, rfl, hm0.1, hm0.2, simple s1⟩
  refine s_no1 ((t_cmp (g := fun i j => .bl (decide (i > j))) (ev_v rfl) ev_c rfl).eq (decide_eq_false c1)) fun H1 s1 => ?_
  have tA : ∀ H', Tells (tAnd (tTest (tOp rEq (tVar 1) (tC (.int 1)))) (tTest (tOp rEq (tOp (rI (fun _ j => 0 < j) fun i j => .int (i % j)) (tVar 2) (tC (.int 3))) (tC (.int 0))))) [some (V.int n), some (V.int kd), some (V.int m), none, none, none, none] H' (decide (kd = 1) && decide (m % 3 = 0)) := fun H' => t_and _ _ (t_eqi (ev_v rfl) ev_c) fun _ H2 s2 => t_eqi (i := m % 3) (j := 0) (fun R r => ⟨_, rfl, _, _, rfl, rfl, show (0 : Int) < 3 by decide, r⟩) ev_c
  by_cases c2 : kd = 1 ∧ m % 3 = 0
  · refine s_yes ((tA H1).eq (by rw [decide_eq_true c2.1, decide_eq_true c2.2]; rfl)) fun H2 s2 => ?_
    intro v H3 s3 d3
    have d3 : Dn (dif H2 H3) v (.tuple [.str (S [42, 42]), .list ([PC.one (.plain (S [42, 42]))].map dP)]) := d3
    obtain ⟨tp, xs, ds, rfl, hds, et, da⟩ | ⟨_, z⟩ := Dn.tupCase d3
    rotate_left
    · exact absurd rfl (z _)
    cases hds
    cases da with | cons d1 da =>
    cases da with | cons d2 da =>
    cases da
    cases d1
    obtain ⟨l, ys, es, rfl, hes, el, dl, _⟩ | ⟨_, z⟩ := Dn.lstCase d2
    rotate_left
    · exact absurd rfl (z _)
    cases hes
    exact q [42, 42] _ tp H3 ((s1.trans s2).trans s3) ⟨l, ys, (dif_some et).2, (dif_some el).2, dl.same (dif_grow (s1.trans s2) (Same.refl _))⟩ block_stars
  refine s_no1 ((tA H1).eq (by
    rw [Bool.and_eq_false_iff]
    by_cases z : kd = 1
    · exact .inr (decide_eq_false fun y => c2 ⟨z, y⟩)
    · exact .inl (decide_eq_false z))) fun H2 s2 => ?_
  by_cases c3 : kd = 1
  · refine s_yes ((t_eqi (ev_v rfl) ev_c).eq (decide_eq_true c3)) fun H3 s3 => ?_
    exact ⟨_, rfl, m, rfl, hm0.1, hm0.2, simple ((s1.trans s2).trans s3)⟩
  refine s_no1 ((t_eqi (ev_v rfl) ev_c).eq (decide_eq_false c3)) fun H3 s3 => ?_
  have s13 := (s1.trans s2).trans s3
  obtain ⟨j, hj, hj1⟩ : ∃ j : Nat, m % 9 / 8 = (j : Int) ∧ j ≤ 1 := ⟨(m % 9 / 8).toNat, by omega, by omega⟩
  refine ⟨_, rfl, _, _, rfl, rfl, show (0 : Int) < 9 by decide, _, _, rfl, rfl, ⟨by decide, by decide⟩, _, _, rfl, rfl, rfl, by omega, by omega, ?_⟩
  rw [hj, show Txt.mul (Str.ofString " ") (j : Int) = S (List.replicate j 32) from mul_S 32 j]
  dsimp only [gName, List.set_cons_succ, List.set_cons_zero]
  intro v4 H4 s4 d4
  have d4 : Dn (dif H3 H4) v4 (.list ([PC.one (.plain (S [32]))].map dP)) := d4
  obtain ⟨a4, xs4, ds4, rfl, hds4, ea4, da4, _⟩ | ⟨_, z⟩ := Dn.lstCase d4
  rotate_left
  · exact absurd rfl (z _)
  cases hds4
  have s14 := s13.trans s4
  have hx4 : xs4.length = 1 := da4.len
  refine ⟨_, rfl, _, _, rfl, rfl, show (0 : Int) < 9 by decide, _, _, rfl, rfl, ⟨by decide, by decide⟩, ?_⟩
  refine ⟨a4, (j : Int), xs4, rfl, congrArg V.int hj, (dif_some ea4).2, by omega, by omega, by rw [hx4, hs]; omega, fun p4 hp4 => ?_⟩
  rw [Int.toNat_natCast, flat_rep1 _ j hj1]
  dsimp only [gName, List.set_cons_succ, List.set_cons_zero]
  -- the state ahead of the loop
  have s5 := s14.trans (same_new hp4 (.lst (if j = 0 then [] else xs4)))
  have e5 : upd H4 p4 (.lst (if j = 0 then [] else xs4)) p4 = some (.lst (if j = 0 then [] else xs4)) := upd_same
  have st : ∃ raw ps, S (List.replicate j 32) = S raw ∧ InOk raw ps 0 ∧ DnAll (dif H (upd H4 p4 (.lst (if j = 0 then [] else xs4)))) (if j = 0 then [] else xs4) (ps.map dP) := by
    match j, hj1 with
    | 0, _ => exact ⟨[], [], rfl, in_nil, .nil⟩
    | 1, _ => exact ⟨[32], [.one (.plain (S [32]))], rfl, in_blank, da4.same (dif_grow s13 (same_new hp4 _))⟩
  obtain ⟨raw0, ps0, hraw, hin0, hd0⟩ := st
  rw [hraw]
  generalize (if j = 0 then [] else xs4) = xs5 at s5 e5 hd0 ⊢
  generalize upd H4 p4 (.lst xs5) = H5 at s5 e5 hd0 ⊢
  refine ⟨_, rfl, _, _, rfl, rfl, ⟨by decide, by decide⟩, _, _, rfl, rfl, show (0 : Int) < 3 by decide, _, _, rfl, rfl, _, rfl, by omega, by omega, ?_⟩
  obtain ⟨cnt, hcnt⟩ : ∃ cnt : Nat, cnt = (1 + m / 9 % 3).toNat := ⟨_, rfl⟩
  have hcnt3 : 1 ≤ cnt ∧ cnt ≤ 3 := by omega
  rw [← hcnt]
  refine for_range (n := cnt) (fun t σ H' => ∃ (raw : List Nat) (ps : List PC) (pl : Addr) (xs : List V) (x5 x6 : Option V), σ = [some (.int n), some (.int kd), some (.int m), some (vS raw), some (.ref pl), x5, x6] ∧ Same H H' ∧ H' pl = some (.lst xs) ∧ DnAll (dif H H') xs (ps.map dP) ∧ InOk raw ps t) ⟨raw0, ps0, p4, xs5, none, none, rfl, s5, e5, hd0, hin0⟩ ?_ ?_
  · rintro t σ H6 ht ⟨raw, ps, pl, xs, x5, x6, rfl, s6, e6, hd6, hin6⟩
    have hmx := mixF_ok m ((t : Int) + 60)
    refine ⟨_, rfl, _, rfl, _, _, rfl, rfl, m, 0 + (t : Int) + 60, rfl, bits64 (by omega) (by omega), by omega, by omega, mixF m (0 + (t : Int) + 60), rfl, ?_, ?_, fun r2 p2 tp H7 s7 htold hu => ?_⟩
    · rw [Int.zero_add]; omega
    · rw [Int.zero_add]; omega
    obtain ⟨l2, xs2, et, el, d2⟩ := htold
    dsimp only [gName, List.set_cons_succ, List.set_cons_zero]
    have s67 := s6.trans s7
    have hlr := hin6.len
    have hl2 := hu.len
    refine ⟨_, rfl, ev_ixT (ev_v rfl) ev_c (SqT.of et) (atI_nat (j := 0) rfl) _ ⟨_, _, rfl, rfl, by rw [S_len, S_len, hs]; omega, ?_⟩⟩
    rw [S_app]
    dsimp only [gName, List.set_cons_succ, List.set_cons_zero]
    have hxl : xs.length = ps.length := by rw [hd6.len, List.length_map]
    have hxl2 : xs2.length = p2.length := by rw [d2.len, List.length_map]
    have hn6 := hin6.n
    have hn2 := hu.n
    refine ⟨_, rfl, ev_ixT (ev_v rfl) ev_c (SqT.of et) (atI_nat (j := 1) rfl) _ ⟨pl, l2, xs, xs2, rfl, rfl, s7 _ _ e6, el, by rw [hs]; omega, fun r hr0 => ?_⟩⟩
    dsimp only [gName, List.set_cons_succ, List.set_cons_zero]
    refine ⟨raw ++ r2, ps ++ p2, r, xs ++ xs2, _, _, rfl, s67.trans (same_new hr0 _), upd_same, ?_, hin6.add hu⟩
    rw [List.map_append]
    exact (hd6.same (dif_grow (Same.refl _) (s7.trans (same_new hr0 _)))).app (d2.same (dif_grow s6 (same_new hr0 _)))
  · rintro σ H6 ⟨raw, ps, pl, xs, x5, x6, rfl, s6, e6, hd6, hin6⟩
    have hgd : Gd raw (atPs ps) := by
      rcases hin6.gd with ⟨_, _, z⟩ | g
      · omega
      · exact g
    have hlr := hin6.len
    have hsz := hin6.sz
    have hn6 := hin6.n
    have hokP : ∀ p ∈ ps, OkC p := fun p hp => by obtain ⟨q, rfl, hq⟩ := hin6.one p hp; exact hq
    have e1 : V.str (Str.ofString "*" ++ S raw ++ Str.ofString "*") = vS (42 :: (raw ++ [42])) := by
      show V.str (S [42] ++ S raw ++ S [42]) = _
      rw [S_app [42] raw, catV]
      rfl
    refine ⟨_, rfl, _, _, rfl, rfl, by show 1 + (S raw).length ≤ _; rw [S_len raw, hs]; omega, _, _, rfl, rfl, by show (S [42] ++ S raw).length + 1 ≤ _; rw [S_app, S_len, hs, List.length_append]; show 1 + _ + 1 ≤ _; omega, ?_⟩
    rw [e1]
    refine ⟨_, rfl, H, pl, xs, ps, rfl, s6, e6, hd6, hokP, by omega, by omega, fun r ys H7 s7 hr0 er dr => ?_⟩
    refine ⟨big (show (2 : Nat) ≤ 1000000 by decide), fun t ht => ⟨big (show (1 : Nat) ≤ 1000000 by decide), fun lst hlst => ⟨big (show (2 : Nat) ≤ 1000000 by decide), fun tp htp => ?_⟩⟩⟩
    have hones : ∀ p ∈ joinP ps, one? p ≠ none := by rw [join_eq hokP]; exact mgA_ones _ [] (at_ones hin6.one)
    have hjl : (joinP ps).length ≤ 100000 := by
      rw [join_eq hokP]
      have h1 := at_len (atPs ps)
      have h2 : ∀ A : List Atm, (∀ x ∈ A, match x with | .sg _ => True | .pt p => 1 ≤ szC p) → A.length ≤ szA A := fun A => by
        induction A with
        | nil => intro _; exact Nat.le_refl 0
        | cons x A ih =>
          intro h
          have h1 := ih fun y hy => h y (List.mem_cons_of_mem _ hy)
          have h2 := h x List.mem_cons_self
          cases x with
          | sg c => show A.length + 1 ≤ 1 + szA A; omega
          | pt p => show A.length + 1 ≤ szC p + szA A; have h2 : 1 ≤ szC p := h2; omega
      have h3 := h2 (atPs ps) fun x hx => by
        cases x with
        | sg c => trivial
        | pt p =>
          show 1 ≤ szC p
          obtain ⟨p', hp', hx⟩ := List.mem_flatMap.mp hx
          obtain ⟨q', rfl, hq'⟩ := hin6.one p' hp'
          cases q' with
          | plain s => obtain ⟨y, _, e⟩ := List.mem_map.mp hx; cases e
          | code s => cases List.mem_singleton.mp hx; show 1 ≤ _ + 2; omega
          | link a b => cases List.mem_singleton.mp hx; show 1 ≤ _ + 20; omega
          | note s => cases List.mem_singleton.mp hx; show 1 ≤ _ + 20; omega
      omega
    have s6r := s6.trans s7
    obtain ⟨k1, k2⟩ := one_told (raw := 42 :: (raw ++ [42])) (p := .strong (ones (joinP ps))) s6r (ds := [.str kStrong, .list ((ones (joinP ps)).map d1)]) rfl (.cons (dn_kind (by decide +kernel)) (.cons (.lst (by rw [dif_at (s6.free hr0)]; exact er) (by rw [(ones_mapD hones).1]; exact dr) (by rw [dr.len, List.length_map]; exact hjl)) .nil)) ht hlst htp
    exact q _ _ tp _ k1 k2 (block_strong hgd hin6.asc (by omega) hin6.one (by omega))
end
end K4

set_option Elab.async false
set_option linter.all false
set_option maxRecDepth 100000
set_option maxHeartbeats 4000000
namespace K4
open PySem L2 Lm Lw PySem.Builtin.Int
theorem lc_tup {K : PySem.W.Frag} {a : Addr} {xs : List V} {k : Nat} {fr : List Nat} {g : TG} {tt : TT} {te : TE} {σ : St} {H0 : Hp} {Q : Addr → Hp → Prop} (p : V → Bool) (f : V → V) (hx : H0 a = some (.tup xs)) (hl : xs.length ≤ sizeLine)
    (ht : ∀ x ∈ xs, ∀ H', Same H0 H' → ∀ (C : V → Hp → Prop) (N : Hp → Prop), (∀ H4, Same H' H4 → p x = true → C (f x) H4) → (∀ H3, Same H' H3 → p x = false → N H3) →
      g x (nfS k fr σ) H' fun σ2 H2 => nfLe k fr σ σ2 ∧ tt σ2 H2 fun b H3 => if b = true then te σ2 H3 C else N H3)
    (hq : ∀ D H', H0 D = none → Same H0 H' → H' D = some (.lst ((xs.filter p).map f)) → Q D H') : rLC k fr g tt te σ (Itt K a) H0 Q :=
  lc_seq p f hl (fun i H sm hi => ⟨xs, xs[i], SqT.of (sm _ _ hx), by simp [hi]⟩) (fun i H x H' _ sm y => ⟨y.1, by obtain ⟨e, y⟩ := y; exact y xs (SqT.of (sm _ _ hx))⟩) (fun i H sm hi => ⟨xs, SqT.of (sm _ _ hx), hi⟩) ht hq
structure TxS (mg : Str → Option Value) : Prop where
  n_len : mg "len" = none
  n_isinstance : mg "isinstance" = none
  n_all : mg "all" = none
  n_str : mg "str" = none
  n_list : mg "list" = none
  n_tuple : mg "tuple" = none
/-- a told part, taken apart -/
theorem told_tup {G : Hp} {v : V} {p : PC} (h : Dn G v (dP p)) : ∃ a ys, v = .ref a ∧ G a = some (.tup (.str (kdP p) :: ys)) ∧ 1 ≤ ys.length ∧ ys.length ≤ 2 ∧ ((∃ ps m, p = .strong ps ∧ ys = [.ref m] ∧ Dn G (.ref m) (.list (ps.map d1))) ∨ (one? p ≠ none ∧ ∀ y ∈ ys, ∃ s, y = .str s)) := by
  match p, h with
  | .one (.plain s), h =>
    cases h with | tup e r => cases r with | cons a r => cases r with | cons b r => cases r; cases a; cases b; exact ⟨_, _, rfl, e, by simp, by simp, .inr ⟨fun z => (nomatch z), fun y hy => ⟨_, List.mem_singleton.mp hy⟩⟩⟩
  | .one (.code s), h =>
    cases h with | tup e r => cases r with | cons a r => cases r with | cons b r => cases r; cases a; cases b; exact ⟨_, _, rfl, e, by simp, by simp, .inr ⟨fun z => (nomatch z), fun y hy => ⟨_, List.mem_singleton.mp hy⟩⟩⟩
  | .one (.note s), h =>
    cases h with | tup e r => cases r with | cons a r => cases r with | cons b r => cases r; cases a; cases b; exact ⟨_, _, rfl, e, by simp, by simp, .inr ⟨fun z => (nomatch z), fun y hy => ⟨_, List.mem_singleton.mp hy⟩⟩⟩
  | .one (.link s n), h =>
    cases h with | tup e r => cases r with | cons a r => cases r with | cons b r => cases r with | cons d r => cases r; cases a; cases b; cases d; exact ⟨_, _, rfl, e, by simp, by simp, .inr ⟨fun z => (nomatch z), fun y hy => by
      rcases List.mem_cons.mp hy with z | z
      · exact ⟨_, z⟩
      · exact ⟨_, List.mem_singleton.mp z⟩⟩⟩
  | .strong ps, h =>
    cases h with | tup e r => cases r with | cons a r => cases r with | cons b r => cases r; cases a; cases b with | lst e2 r2 l2 => exact ⟨_, _, rfl, e, by simp, by simp, .inl ⟨ps, _, rfl, rfl, .lst e2 r2 l2⟩⟩
theorem kd_strong (p : PC) : decide (kdP p = ("strong" : Str)) = (one? p).isNone := by
  match p with
  | .one (.plain _) => exact decide_eq_false (show ¬ kPlain = ("strong" : Str) by decide +kernel)
  | .one (.code _) => exact decide_eq_false (show ¬ kCode = ("strong" : Str) by decide +kernel)
  | .one (.link _ _) => exact decide_eq_false (show ¬ kLink = ("strong" : Str) by decide +kernel)
  | .one (.note _) => exact decide_eq_false (show ¬ kNote = ("strong" : Str) by decide +kernel)
  | .strong _ => rfl
section
variable {P : Program} {w : World} {K : PySem.W.Frag} {mg : Str → Option Value} {base : Heap}
abbrev sShape : Stmt := top 40
theorem scShape : FnScope ["_law_told", "_law_part"] ["_law_told"] (defScope sShape) := ⟨rfl, rfl, rfl, by decide +kernel, rfl, by decide +kernel, by decide +kernel⟩
def spShape (R : PC → Prop) : Sp := fun vs H Q _ => ∃ (v : V) (ps : List PC), vs = [v] ∧ Dn H v (.list (ps.map dP)) ∧ (∀ p ∈ ps, R p) ∧ ∀ H', Same H H' → Q (.bl true) H'
theorem ok_shape {f : Addr} {fd : FuncData} {k : Nat} {R : PC → Prop} {spI : Sp} (F : Fun K "_law_shape" "_law_shape" sShape f fd) (T : TxS mg) (D_l_shape : Def P w K mg base k "_law_shape" ["_law_told"] spI) (hI : ∀ ps, R (.strong ps) → ∀ vs H Q E, spShape R1 vs H Q E → spI vs H Q E) : FnOk P w K mg base CX0 (k + 1) f fd ["_law_told"] (spShape R) := by
  have sc := scShape
  refine F.ok sc (fun vs H Q E h => ?_) (fun cdv A outer s H vs Q E hr h => ?_)
  · obtain ⟨v, ps, rfl, _⟩ := h
    rfl
  obtain ⟨v, ps, rfl, hd, hR, q⟩ := h
  refine of_XB (xbc (xif (xnotT (xvalT (xcB call_isT T.n_isinstance rfl (xac (xv 0) (xac (xty (T := "list") T.n_list rfl) xa0))))) (xb1 (xret xbl)) xb0)
    (xbc (xfor PassesOwn.never rfl (xil (xv 0)) (xgn (i := 1) sc.nd rfl (Or.inl rfl))
    (xbc (xif (xor (xnotT (xvalT (xcB call_isT T.n_isinstance rfl (xac (xv 1) (xac (xty (T := "tuple") T.n_tuple rfl) xa0))))) (xor1 (xcmpT op_lt (xcB call_len_seq T.n_len PySem.boot_len (xac (xv 1) xa0)) xint (nomark _)))).xt (xb1 (xret xbl)) xb0)
    (xbc (xif (xand (xcmpT op_eq (xix ix_tup (xv 1) xint (fun _ _ => rfl)) xstr (nomark _)) (xand1 (xnotT (xvalT (xcD D_l_shape (hr.mono (by omega)) (xac (xix ix_tup (xv 1) xint (fun _ _ => rfl)) xa0)))))).xt (xb1 (xret xbl)) xb0)
    (xb1 (xif (xand (xcmpT op_ne (xix ix_tup (xv 1) xint (fun _ _ => rfl)) xstr (nomark _)) (xand1 (xnotT (xvalT (xcB (call_all rfl) T.n_all rfl (xac (xlc (cl := []) (own := ["_law_one"]) (fr := []) (N' := ["_law_one"]) rfl (compN (xs := []) trivial trivial (by decide +kernel)) (by decide +kernel) (by decide +kernel) (by with_unfolding_all rfl)
    (xit (xv 1))
    (fun _ _ _ _ => xgn (i := 0) (show (["_law_one"] : List Str).Nodup by decide +kernel) rfl (Or.inl rfl)) (fun _ _ _ _ => xq0) (fun _ _ _ _ => (xcB call_isTC T.n_isinstance rfl (xac (xv 0) (xac (xty (T := "str") T.n_str rfl) xa0))))) xa0)))))).xt (xb1 (xret xbl)) xb0)))))
    (xb1 (xret xbl)))) ?_
  have hs : sizeLine = 16777216 := sizeLine_eq
  rw [show start ["_law_told", "_law_part"] [v] = [some v, none] from rfl]
  obtain ⟨l, xs, ds, rfl, hds, el, da, hdl⟩ | ⟨_, z⟩ := Dn.lstCase hd
  rotate_left
  · exact absurd rfl (z _)
  cases hds
  have hxl : xs.length = ps.length := by rw [da.len, List.length_map]
  refine s_no1 (t_not true fun R' k' => ⟨_, rfl, _, _, _, _, rfl, .lst el, kit_same _ _, _, rfl, k' _ (Same.refl _)⟩) fun H1 s1 => ?_
  refine ⟨_, rfl, l, rfl, ⟨_, SqL.of (s1 _ _ el)⟩, ?_⟩
  refine for_list (xs := xs) (fun i σ H' => ∃ x1, σ = [some (.ref l), x1] ∧ Same H H') ⟨none, rfl, s1⟩ ?_ ?_ ?_
  · rintro i σ H3 _ ⟨x1, _, s3⟩
    exact SqL.of (s3 _ _ el)
  · rintro i x σ H3 hx ⟨x1, rfl, s3⟩
    obtain ⟨hil, _⟩ := List.getElem?_eq_some_iff.mp hx
    obtain ⟨p, hp⟩ : ∃ p, ps[i]? = some p := ⟨_, List.getElem?_eq_getElem (by omega)⟩
    have hpm := List.mem_of_getElem? hp
    have hdx : Dn H x (dP p) := by
      obtain ⟨v, h1, h2⟩ := da.get (i := i) (d := dP p) (by rw [List.getElem?_map, hp]; rfl)
      rw [hx] at h1
      cases h1
      exact h2
    obtain ⟨b, ys, rfl, eb, hy1, hy2, hcase⟩ := told_tup hdx
    have eb3 := s3 _ _ eb
    dsimp only [gName, List.set_cons_succ, List.set_cons_zero]
    refine s_no1 (t_or false false (t_not true fun R' k' => ⟨_, rfl, _, _, _, _, rfl, .tup eb3, kit_same _ _, _, rfl, k' _ (Same.refl _)⟩) fun _ H4 s4 => (t_cmp (g := fun i j => .bl (decide (i < j))) (ev_lenS (ev_v rfl) (.inr (SqT.of (s4 _ _ eb3)))) ev_c (by show V.bl (decide (((ys.length + 1 : Nat) : Int) < 2)) = _; rw [decide_eq_false (by omega)]))) fun H4 s4 => ?_
    have s34 := s3.trans s4
    have evK : ∀ H', Same H H' → Ev (tOp (rIxT K) (tVar 1) (tC (.int 0))) [some (.ref l), some (.ref b)] H' (.str (kdP p)) := fun H' s' => ev_ixT (ev_v rfl) ev_c (SqT.of (s' _ _ eb)) (atI_nat (j := 0) rfl)
    rcases hcase with ⟨ps2, m, rfl, rfl, dm⟩ | ⟨hone, hstr⟩
    · refine s_no1 (t_and true false ((t_eqS (evK H4 s34) ev_c).eq (kd_strong _)) fun _ H5 s5 => t_not true fun R' k' => ?_) fun H5 s5 => ?_
      · refine ev_ixT (ev_v rfl) ev_c (SqT.of ((s34.trans s5) _ _ eb)) (atI_nat (j := 1) rfl) _ ?_
        refine hI ps2 (hR _ hpm) _ _ _ _ ⟨.ref m, ps2.map .one, rfl, ?_, fun p hp => ?_, fun H6 s6 => ⟨_, rfl, k' H6 s6⟩⟩
        · have := dm.same (s34.trans s5)
          rw [show (ps2.map PC.one).map dP = ps2.map d1 by rw [List.map_map]; rfl]
          exact this
        · obtain ⟨x, _, rfl⟩ := List.mem_map.mp hp
          unfold R1
          simp [one?]
      · have s35 := s34.trans s5
        refine s_if false (t_and false false (fun R' k' => evK H5 s35 _ ⟨rfl, _, rfl, ?_⟩) fun z => Bool.noConfusion z) (fun _ _ z => Bool.noConfusion z) fun H6 s6 _ => ⟨_, rfl, s35.trans s6⟩
        rw [show (!decide (V.str (kdP (.strong ps2)) = V.str "strong")) = false by
          rw [decide_eq_true (by rfl)]; rfl]
        exact k' _ (Same.refl _)
    · have hks : decide (kdP p = ("strong" : Str)) = false := by
        rw [kd_strong]
        cases e : one? p with
        | none => exact absurd e hone
        | some _ => rfl
      refine s_no1 (t_and false false ((t_eqS (evK H4 s34) ev_c).eq hks) fun z => Bool.noConfusion z) fun H5 s5 => ?_
      have s35 := s34.trans s5
      refine s_if false (t_and true false (fun R' k' => evK H5 s35 _ ⟨rfl, _, rfl, ?_⟩) fun _ H6 s6 => t_not true fun R' k' => ?_) (fun _ _ z => Bool.noConfusion z) fun H6 s6 _ => ⟨_, rfl, s35.trans s6⟩
      · rw [show (!decide (V.str (kdP p) = V.str "strong")) = true by
          rw [decide_eq_false (fun z => of_decide_eq_false hks (V.str.inj z))]; rfl]
        exact k' _ (Same.refl _)
      · have eb6 := (s35.trans s6) _ _ eb
        refine ⟨_, rfl, b, rfl, ⟨_, SqT.of eb6⟩, ?_⟩
        refine lc_tup (fun _ => true) (fun _ => .bl true) eb6 (by rw [hs, List.length_cons]; omega) ?_ ?_
        · intro y hy H7 s7 C N hC hN
          refine ⟨(nfLe.refl _ _ _).set (by decide) _, iteT (B := N H7) ?_⟩
          have hys : ∃ s, y = .str s := by
            rcases List.mem_cons.mp hy with z | z
            · exact ⟨_, z⟩
            · exact hstr y z
          obtain ⟨st, rfl⟩ := hys
          exact ⟨_, rfl, _, _, _, _, rfl, .str _, kit_same _ _, hC H7 (Same.refl _) rfl⟩
        · intro D H7 hD s7 eD
          refine ⟨D, (List.replicate (ys.length + 1) true), rfl, SqL.of ?_, _, rfl, ?_⟩
          · rw [eD, List.filter_eq_self.mpr (fun _ _ => rfl), List.map_replicate, List.map_const', List.length_cons]
          · rw [show (List.replicate (ys.length + 1) true).all id = true by simp]
            exact k' H7 s7
  · rintro σ H3 ⟨x1, rfl, s3⟩
    exact q H3 s3
end
end K4

set_option Elab.async false
set_option linter.all false
set_option maxRecDepth 100000
set_option maxHeartbeats 4000000
namespace K4
open PySem L2 Lm Lw PySem.Builtin.Int
theorem told2 {G : Hp} {v : V} {k s : Str} (h : Dn G v (.tuple [.str k, .str s])) : ∃ a, v = .ref a ∧ G a = some (.tup [.str k, .str s]) := by
  cases h with | tup e r => cases r with | cons a r => cases r with | cons b r => cases r; cases a; cases b; exact ⟨_, rfl, e⟩
theorem told3 {G : Hp} {v : V} {k s n : Str} (h : Dn G v (.tuple [.str k, .str s, .str n])) : ∃ a, v = .ref a ∧ G a = some (.tup [.str k, .str s, .str n]) := by
  cases h with | tup e r => cases r with | cons a r => cases r with | cons b r => cases r with | cons c r => cases r; cases a; cases b; cases c; exact ⟨_, rfl, e⟩
theorem toldS {G : Hp} {v : V} {k : Str} {d : PyData} (h : Dn G v (.tuple [.str k, d])) : ∃ a y, v = .ref a ∧ G a = some (.tup [.str k, y]) ∧ Dn G y d := by
  cases h with | tup e r => cases r with | cons a r => cases r with | cons b r => cases r; cases a; exact ⟨_, _, rfl, e, b⟩
section
variable {P : Program} {w : World} {K : PySem.W.Frag} {mg : Str → Option Value} {base : Heap}
abbrev sLSaid : Stmt := top 39
theorem scLSaid : FnScope ["_law_due", "_law_word", "_law_found", "_law_part"] ["_law_due", "_law_word"] (defScope sLSaid) := ⟨rfl, rfl, rfl, by decide +kernel, rfl, by decide +kernel, by decide +kernel⟩
abbrev sayL (wd : List Nat) : List Nat → List Nat := fun n => wd ++ n
abbrev sayN (wd : List Nat) : List Nat → List Nat := fun n => n ++ wd
theorem sayL_len {wd : List Nat} (h : wd.length ≤ 10) (n : List Nat) : (sayL wd n).length ≤ n.length + 10 := by show (wd ++ n).length ≤ _; rw [List.length_append]; omega
theorem sayN_len {wd : List Nat} (h : wd.length ≤ 10) (n : List Nat) : (sayN wd n).length ≤ n.length + 10 := by show (n ++ wd).length ≤ _; rw [List.length_append]; omega
def spLSaid (R : PC → Prop) : Sp := fun vs H Q _ => ∃ (v : V) (ps : List PC) (wd : List Nat), vs = [v, vS wd] ∧ wd.length ≤ 10 ∧ Dn H v (.list (ps.map dP)) ∧ (∀ p ∈ ps, R p) ∧ (ps.map szC).sum ≤ 90000 ∧ ∀ H', Same H H' → Q (vS ((ps.map (saidC (sayL wd) (sayN wd))).flatten)) H'
theorem sum_take (ps : List PC) (i : Nat) : ((ps.take i).map szC).sum ≤ (ps.map szC).sum := by
  conv => rhs; rw [← List.take_append_drop i ps, List.map_append, List.sum_append]
  omega
theorem sum_at {ps : List PC} {i : Nat} {p : PC} (h : ps[i]? = some p) : ((ps.take i).map szC).sum + szC p ≤ (ps.map szC).sum := by
  have := sum_take ps (i + 1)
  rw [List.take_add_one, h] at this
  show _ ≤ _
  simp only [Option.toList_some, List.map_append, List.sum_append, List.map_cons, List.map_nil, List.sum_cons, List.sum_nil] at this
  omega
theorem ok_lsaid {f : Addr} {fd : FuncData} {k : Nat} {R : PC → Prop} {spI : Sp} (F : Fun K "_law_said" "_law_said" sLSaid f fd) (D_l_said : Def P w K mg base k "_law_said" ["_law_due", "_law_word"] spI) (hI : ∀ ps, R (.strong ps) → ∀ vs H Q E, spLSaid R1 vs H Q E → spI vs H Q E) : FnOk P w K mg base CX0 (k + 1) f fd ["_law_due", "_law_word"] (spLSaid R) := by
  have sc := scLSaid
  refine F.ok sc (fun vs H Q E h => ?_) (fun cdv A outer s H vs Q E hr h => ?_)
  · obtain ⟨v, ps, wd, rfl, _⟩ := h
    rfl
  obtain ⟨v, ps, wd, rfl, hwd, hd, hR, hsum, q⟩ := h
  refine of_XB (xbc (xset (i := 2) sc.nd rfl (Or.inl rfl) xstr)
    (xbc (xfor PassesOwn.never rfl (xil (xv 0)) (xgn (i := 3) sc.nd rfl (Or.inl rfl))
    (xb1 (xif (xcmpT op_eq (xix ix_tup (xv 3) xint (fun _ _ => rfl)) xstr (nomark _)) (xb1 (xset (i := 2) sc.nd rfl (Or.inl rfl) (xop op_add_str (xv 2) (xix ix_tup (xv 3) xint (fun _ _ => rfl))))) (xb1 (xif (xcmpT op_eq (xix ix_tup (xv 3) xint (fun _ _ => rfl)) xstr (nomark _)) (xb1 (xset (i := 2) sc.nd rfl (Or.inl rfl) (xop op_add_str (xop op_add_str (xop op_add_str (xv 2) xstr) (xix ix_tup (xv 3) xint (fun _ _ => rfl))) xstr))) (xb1 (xif (xcmpT op_eq (xix ix_tup (xv 3) xint (fun _ _ => rfl)) xstr (nomark _)) (xb1 (xset (i := 2) sc.nd rfl (Or.inl rfl) (xop op_add_str (xop op_add_str (xop op_add_str (xv 2) xstr) (xcD D_l_said (hr.mono (by omega)) (xac (xix ix_tup (xv 3) xint (fun _ _ => rfl)) (xac (xv 1) xa0)))) xstr))) (xb1 (xif (xcmpT op_eq (xix ix_tup (xv 3) xint (fun _ _ => rfl)) xstr (nomark _)) (xb1 (xset (i := 2) sc.nd rfl (Or.inl rfl) (xop op_add_str (xop op_add_str (xop op_add_str (xop op_add_str (xop op_add_str (xv 2) (xix ix_tup (xv 3) xint (fun _ _ => rfl))) xstr) (xv 1)) (xix ix_tup (xv 3) xint (fun _ _ => rfl))) xstr))) (xb1 (xset (i := 2) sc.nd rfl (Or.inl rfl) (xop op_add_str (xop op_add_str (xop op_add_str (xop op_add_str (xv 2) xstr) (xix ix_tup (xv 3) xint (fun _ _ => rfl))) (xv 1)) xstr))))))))))))
    (xb1 (xret (xv 2))))) ?_
  have hs : sizeLine = 16777216 := sizeLine_eq
  rw [show start ["_law_due", "_law_word", "_law_found", "_law_part"] [v, vS wd] = [some v, some (vS wd), none, none] from rfl]
  obtain ⟨l, xs, ds, rfl, hds, el, da, hdl⟩ | ⟨_, z⟩ := Dn.lstCase hd
  rotate_left
  · exact absurd rfl (z _)
  cases hds
  have hxl : xs.length = ps.length := by rw [da.len, List.length_map]
  refine s_asgC ?_
  dsimp only [List.set_cons_succ, List.set_cons_zero]
  refine ⟨_, rfl, l, rfl, ⟨_, SqL.of el⟩, ?_⟩
  have hfl := sayL_len hwd
  have hgl := sayN_len hwd
  refine for_list (xs := xs) (fun i σ H' => ∃ x3, σ = [some (.ref l), some (vS wd), some (vS (((ps.take i).map (saidC (sayL wd) (sayN wd))).flatten)), x3] ∧ Same H H') ⟨none, rfl, Same.refl _⟩ ?_ ?_ ?_
  · rintro i σ H3 _ ⟨x1, _, s3⟩
    exact SqL.of (s3 _ _ el)
  · rintro i x σ H3 hx ⟨x3, rfl, s3⟩
    obtain ⟨hil, _⟩ := List.getElem?_eq_some_iff.mp hx
    obtain ⟨p, hp⟩ : ∃ p, ps[i]? = some p := ⟨_, List.getElem?_eq_getElem (by omega)⟩
    have hpm := List.mem_of_getElem? hp
    have hdx : Dn H x (dP p) := by
      obtain ⟨v, h1, h2⟩ := da.get (i := i) (d := dP p) (by rw [List.getElem?_map, hp]; rfl)
      rw [hx] at h1
      cases h1
      exact h2
    have hlen : (((ps.take i).map (saidC (sayL wd) (sayN wd))).flatten).length ≤ ((ps.take i).map szC).sum := said_all hfl hgl _
    have hsz := sum_at hp
    have htk : ((ps.take (i + 1)).map (saidC (sayL wd) (sayN wd))).flatten = ((ps.take i).map (saidC (sayL wd) (sayN wd))).flatten ++ saidC (sayL wd) (sayN wd) p := by
      rw [List.take_add_one, hp]
      simp
    rw [htk]
    have hps := said_sz hfl hgl p
    have hRp := hR p hpm
    generalize ((ps.take i).map (saidC (sayL wd) (sayN wd))).flatten = fd0 at hlen ⊢
    dsimp only [gName, List.set_cons_succ, List.set_cons_zero]
    have done : ∀ (l2 : List Nat) (x : V) (H4 : Hp), Same H3 H4 → l2 = saidC (sayL wd) (sayN wd) p → ∃ x3, [some (V.ref l), some (vS wd), some (vS (fd0 ++ l2)), some x] = [some (.ref l), some (vS wd), some (vS (fd0 ++ saidC (sayL wd) (sayN wd) p)), x3] ∧ Same H H4 := fun l2 x H4 s4 e => ⟨some x, by rw [e], s3.trans s4⟩
    have eS : ∀ s : Str, V.str s = vS s.cps.toList := fun s => congrArg V.str (S_of s).symm
    match p, hdx, hps, hsz, hRp, done with
    | .one (.plain st), hdx, hps, hsz, hRp, done =>
      obtain ⟨tb, rfl, e⟩ := told2 hdx
      have et := s3 _ _ e
      have evK : ∀ H', Same H3 H' → Ev (tOp (rIxT K) (tVar 3) (tC (.int 0))) [some (.ref l), some (vS wd), some (vS fd0), some (.ref tb)] H' (.str kPlain) := fun H' s' => ev_ixT (ev_v rfl) ev_c (SqT.of (s' _ _ et)) (atI_nat (j := 0) rfl)
      have evA : ∀ H', Same H3 H' → Ev (tOp (rIxT K) (tVar 3) (tC (.int 1))) [some (.ref l), some (vS wd), some (vS fd0), some (.ref tb)] H' (vS st.cps.toList) := fun H' s' => by rw [← eS]; exact ev_ixT (ev_v rfl) ev_c (SqT.of (s' _ _ et)) (atI_nat (j := 1) rfl)
      refine s_if true ((t_eqS (evK H3 (Same.refl _)) ev_c).eq (by decide +kernel)) (fun H4 s4 _ => ?_) fun _ _ z => Bool.noConfusion z
      exact ev_cat (ev_v rfl) (evA H4 s4) (by show _ + _ ≤ _; have : (st.cps.toList).length ≤ szC (.one (.plain st)) := Nat.le_refl _; omega) _ (done _ _ _ s4 rfl)
    | .one (.code st), hdx, hps, hsz, hRp, done =>
      obtain ⟨tb, rfl, e⟩ := told2 hdx
      have et := s3 _ _ e
      have evK : ∀ H', Same H3 H' → Ev (tOp (rIxT K) (tVar 3) (tC (.int 0))) [some (.ref l), some (vS wd), some (vS fd0), some (.ref tb)] H' (.str kCode) := fun H' s' => ev_ixT (ev_v rfl) ev_c (SqT.of (s' _ _ et)) (atI_nat (j := 0) rfl)
      have evA : ∀ H', Same H3 H' → Ev (tOp (rIxT K) (tVar 3) (tC (.int 1))) [some (.ref l), some (vS wd), some (vS fd0), some (.ref tb)] H' (vS st.cps.toList) := fun H' s' => by rw [← eS]; exact ev_ixT (ev_v rfl) ev_c (SqT.of (s' _ _ et)) (atI_nat (j := 1) rfl)
      have hz : st.cps.toList.length + 2 ≤ szC (.one (.code st)) := Nat.le_refl _
      refine s_if false ((t_eqS (evK H3 (Same.refl _)) ev_c).eq (by decide +kernel)) (fun _ _ z => Bool.noConfusion z) fun H4 s4 _ => ?_
      refine s_if true ((t_eqS (evK H4 s4) ev_c).eq (by decide +kernel)) (fun H5 s5 _ => ?_) fun _ _ z => Bool.noConfusion z
      have s45 := s4.trans s5
      refine ev_cat (ev_cat (ev_cat (ev_v rfl) (ev_lit (b := [39]) rfl) (by show _ + 1 ≤ _; omega)) (evA H5 s45) (by rw [List.length_append]; show _ + 1 + _ ≤ _; omega)) (ev_lit (b := [39]) rfl) (by rw [List.length_append, List.length_append]; show _ + 1 + _ + 1 ≤ _; omega) _ ?_
      rw [List.append_assoc, List.append_assoc]
      exact done _ _ _ s45 (by show _ = [39] ++ st.cps.toList ++ [39]; rw [List.append_assoc])
    | .strong qs, hdx, hps, hsz, hRp, done =>
      obtain ⟨tb, vm, rfl, e, b⟩ := toldS hdx
      have et := s3 _ _ e
      have evK : ∀ H', Same H3 H' → Ev (tOp (rIxT K) (tVar 3) (tC (.int 0))) [some (.ref l), some (vS wd), some (vS fd0), some (.ref tb)] H' (.str kStrong) := fun H' s' => ev_ixT (ev_v rfl) ev_c (SqT.of (s' _ _ et)) (atI_nat (j := 0) rfl)
      have hz : (qs.map sz1).sum + 2 ≤ szC (.strong qs) := Nat.le_refl _
      refine s_if false ((t_eqS (evK H3 (Same.refl _)) ev_c).eq (by decide +kernel)) (fun _ _ z => Bool.noConfusion z) fun H4 s4 _ => ?_
      refine s_if false ((t_eqS (evK H4 s4) ev_c).eq (by decide +kernel)) (fun _ _ z => Bool.noConfusion z) fun H5 s5 _ => ?_
      have s45 := s4.trans s5
      refine s_if true ((t_eqS (evK H5 s45) ev_c).eq (by decide +kernel)) (fun H6 s6 _ => ?_) fun _ _ z => Bool.noConfusion z
      have s46 := s45.trans s6
      refine ⟨_, rfl, _, _, rfl, rfl, by show (S fd0).length + 1 ≤ _; rw [S_len, hs]; omega, ?_⟩
      rw [show S fd0 ++ Str.ofString "*" = S (fd0 ++ [42]) from S_app fd0 [42]]
      refine ev_ixT (ev_v rfl) ev_c (SqT.of (s46 _ _ et)) (atI_nat (j := 1) rfl) _ ⟨_, rfl, ?_⟩
      have em : (qs.map PC.one).map dP = qs.map d1 := by rw [List.map_map]; rfl
      have es : (qs.map PC.one).map szC = qs.map sz1 := by rw [List.map_map]; rfl
      have ex : (qs.map PC.one).map (saidC (sayL wd) (sayN wd)) = qs.map (said1 (sayL wd) (sayN wd)) := by rw [List.map_map]; rfl
      refine hI qs hRp _ _ _ _ ⟨_, qs.map .one, wd, rfl, hwd, by rw [em]; exact b.same (s3.trans s46), fun p hp => ?_, by rw [es]; omega, fun H7 s7 => ?_⟩
      · obtain ⟨x, _, rfl⟩ := List.mem_map.mp hp
        unfold R1
        simp [one?]
      rw [ex]
      have hin : ((qs.map (said1 (sayL wd) (sayN wd))).flatten).length ≤ (qs.map sz1).sum := flat_sum qs _ _ (said_sz1 hfl hgl)
      refine ⟨_, _, rfl, rfl, by rw [S_len, S_len, hs, List.length_append]; show _ + 1 + _ ≤ _; omega, _, _, rfl, rfl, by rw [S_app, S_len, hs, List.length_append, List.length_append]; show _ + 1 + _ + 1 ≤ _; omega, ?_⟩
      rw [show ∀ X : List Nat, S (fd0 ++ [42]) ++ S X ++ Str.ofString "*" = S (fd0 ++ ([42] ++ (X ++ [42]))) from fun X => by rw [S_app (fd0 ++ [42]) X]; refine (S_app _ [42]).trans ?_; congr 1; simp]
      exact done _ _ _ (s46.trans s7) (by show _ = [42] ++ _ ++ [42]; rw [List.append_assoc])
    | .one (.link st nm), hdx, hps, hsz, hRp, done =>
      obtain ⟨tb, rfl, e⟩ := told3 hdx
      have et := s3 _ _ e
      have evK : ∀ H', Same H3 H' → Ev (tOp (rIxT K) (tVar 3) (tC (.int 0))) [some (.ref l), some (vS wd), some (vS fd0), some (.ref tb)] H' (.str kLink) := fun H' s' => ev_ixT (ev_v rfl) ev_c (SqT.of (s' _ _ et)) (atI_nat (j := 0) rfl)
      have evA : ∀ H', Same H3 H' → Ev (tOp (rIxT K) (tVar 3) (tC (.int 1))) [some (.ref l), some (vS wd), some (vS fd0), some (.ref tb)] H' (vS st.cps.toList) := fun H' s' => by rw [← eS]; exact ev_ixT (ev_v rfl) ev_c (SqT.of (s' _ _ et)) (atI_nat (j := 1) rfl)
      have evB : ∀ H', Same H3 H' → Ev (tOp (rIxT K) (tVar 3) (tC (.int 2))) [some (.ref l), some (vS wd), some (vS fd0), some (.ref tb)] H' (vS nm.cps.toList) := fun H' s' => by rw [← eS]; exact ev_ixT (ev_v rfl) ev_c (SqT.of (s' _ _ et)) (atI_nat (j := 2) rfl)
      have hz : st.cps.toList.length + nm.cps.toList.length + 20 ≤ szC (.one (.link st nm)) := Nat.le_refl _
      refine s_if false ((t_eqS (evK H3 (Same.refl _)) ev_c).eq (by decide +kernel)) (fun _ _ z => Bool.noConfusion z) fun H4 s4 _ => ?_
      refine s_if false ((t_eqS (evK H4 s4) ev_c).eq (by decide +kernel)) (fun _ _ z => Bool.noConfusion z) fun H5 s5 _ => ?_
      have s45 := s4.trans s5
      refine s_if false ((t_eqS (evK H5 s45) ev_c).eq (by decide +kernel)) (fun _ _ z => Bool.noConfusion z) fun H6 s6 _ => ?_
      have s46 := s45.trans s6
      refine s_if true ((t_eqS (evK H6 s46) ev_c).eq (by decide +kernel)) (fun H7 s7 _ => ?_) fun _ _ z => Bool.noConfusion z
      have s47 := s46.trans s7
      refine ev_cat (ev_cat (ev_cat (ev_cat (ev_cat (ev_v rfl) (evA H7 s47) (by omega)) (ev_lit (b := [32, 40]) rfl) (by rw [List.length_append]; show _ + _ + 2 ≤ _; omega)) (ev_v (v := vS wd) rfl) (by rw [List.length_append, List.length_append]; show _ + _ + 2 + _ ≤ _; omega)) (evB H7 s47) (by rw [List.length_append, List.length_append, List.length_append]; show _ + _ + 2 + _ + _ ≤ _; omega)) (ev_lit (b := [41]) rfl) (by rw [List.length_append, List.length_append, List.length_append, List.length_append]; show _ + _ + 2 + _ + _ + 1 ≤ _; omega) _ ?_
      rw [List.append_assoc, List.append_assoc, List.append_assoc, List.append_assoc]
      exact done _ _ _ s47 (by show _ = st.cps.toList ++ [32, 40] ++ (wd ++ nm.cps.toList) ++ [41]; simp)
    | .one (.note nm), hdx, hps, hsz, hRp, done =>
      obtain ⟨tb, rfl, e⟩ := told2 hdx
      have et := s3 _ _ e
      have evK : ∀ H', Same H3 H' → Ev (tOp (rIxT K) (tVar 3) (tC (.int 0))) [some (.ref l), some (vS wd), some (vS fd0), some (.ref tb)] H' (.str kNote) := fun H' s' => ev_ixT (ev_v rfl) ev_c (SqT.of (s' _ _ et)) (atI_nat (j := 0) rfl)
      have evA : ∀ H', Same H3 H' → Ev (tOp (rIxT K) (tVar 3) (tC (.int 1))) [some (.ref l), some (vS wd), some (vS fd0), some (.ref tb)] H' (vS nm.cps.toList) := fun H' s' => by rw [← eS]; exact ev_ixT (ev_v rfl) ev_c (SqT.of (s' _ _ et)) (atI_nat (j := 1) rfl)
      have hz : nm.cps.toList.length + 20 ≤ szC (.one (.note nm)) := Nat.le_refl _
      refine s_if false ((t_eqS (evK H3 (Same.refl _)) ev_c).eq (by decide +kernel)) (fun _ _ z => Bool.noConfusion z) fun H4 s4 _ => ?_
      refine s_if false ((t_eqS (evK H4 s4) ev_c).eq (by decide +kernel)) (fun _ _ z => Bool.noConfusion z) fun H5 s5 _ => ?_
      have s45 := s4.trans s5
      refine s_if false ((t_eqS (evK H5 s45) ev_c).eq (by decide +kernel)) (fun _ _ z => Bool.noConfusion z) fun H6 s6 _ => ?_
      have s46 := s45.trans s6
      refine s_if false ((t_eqS (evK H6 s46) ev_c).eq (by decide +kernel)) (fun _ _ z => Bool.noConfusion z) fun H7 s7 _ => ?_
      have s47 := s46.trans s7
      refine ev_cat (ev_cat (ev_cat (ev_cat (ev_v rfl) (ev_lit (b := [91]) rfl) (by show _ + 1 ≤ _; omega)) (evA H7 s47) (by rw [List.length_append]; show _ + 1 + _ ≤ _; omega)) (ev_v (v := vS wd) rfl) (by rw [List.length_append, List.length_append]; show _ + 1 + _ + _ ≤ _; omega)) (ev_lit (b := [93]) rfl) (by rw [List.length_append, List.length_append, List.length_append]; show _ + 1 + _ + _ + 1 ≤ _; omega) _ ?_
      rw [List.append_assoc, List.append_assoc, List.append_assoc]
      exact done _ _ _ s47 (by show _ = [91] ++ (nm.cps.toList ++ wd) ++ [93]; simp)
  · rintro σ H3 ⟨x1, rfl, s3⟩
    rw [hxl, List.take_length]
    exact ⟨_, rfl, q H3 s3⟩
end
end K4

set_option Elab.async false
set_option linter.all false
set_option maxRecDepth 100000
set_option maxHeartbeats 4000000
namespace K4
open PySem L2 Lm Lw PySem.Builtin.Int
structure TxC (K : PySem.W.Frag) (mg : Str → Option Value) (c : Cp) : Prop where
  n_isinstance : mg "isinstance" = none
  n_int : mg "int" = none
  o_Plain : Inst K c.Plain
  o_Code : Inst K c.Code
  o_Strong : Inst K c.Strong
  o_Link : Inst K c.Link
  o_Mark : Inst K c.Mark
  c_Plain : mg "Plain" = some (.ref c.Plain)
  c_Code : mg "Code" = some (.ref c.Code)
  c_Strong : mg "Strong" = some (.ref c.Strong)
  c_Link : mg "Link" = some (.ref c.Link)
  c_Mark : mg "Mark" = some (.ref c.Mark)
  c_Part : mg "Part" = some (.ref c.Part)
  j_Plain_Plain : PySem.W.kitOne K (.ref c.Plain) (.ref c.Plain) = some true
  j_Plain_Code : PySem.W.kitOne K (.ref c.Plain) (.ref c.Code) = some false
  j_Plain_Strong : PySem.W.kitOne K (.ref c.Plain) (.ref c.Strong) = some false
  j_Plain_Link : PySem.W.kitOne K (.ref c.Plain) (.ref c.Link) = some false
  j_Plain_Mark : PySem.W.kitOne K (.ref c.Plain) (.ref c.Mark) = some false
  j_Plain_Part : PySem.W.kitOne K (.ref c.Plain) (.ref c.Part) = some true
  j_Code_Plain : PySem.W.kitOne K (.ref c.Code) (.ref c.Plain) = some false
  j_Code_Code : PySem.W.kitOne K (.ref c.Code) (.ref c.Code) = some true
  j_Code_Strong : PySem.W.kitOne K (.ref c.Code) (.ref c.Strong) = some false
  j_Code_Link : PySem.W.kitOne K (.ref c.Code) (.ref c.Link) = some false
  j_Code_Mark : PySem.W.kitOne K (.ref c.Code) (.ref c.Mark) = some false
  j_Code_Part : PySem.W.kitOne K (.ref c.Code) (.ref c.Part) = some true
  j_Strong_Plain : PySem.W.kitOne K (.ref c.Strong) (.ref c.Plain) = some false
  j_Strong_Code : PySem.W.kitOne K (.ref c.Strong) (.ref c.Code) = some false
  j_Strong_Strong : PySem.W.kitOne K (.ref c.Strong) (.ref c.Strong) = some true
  j_Strong_Link : PySem.W.kitOne K (.ref c.Strong) (.ref c.Link) = some false
  j_Strong_Mark : PySem.W.kitOne K (.ref c.Strong) (.ref c.Mark) = some false
  j_Strong_Part : PySem.W.kitOne K (.ref c.Strong) (.ref c.Part) = some true
  j_Link_Plain : PySem.W.kitOne K (.ref c.Link) (.ref c.Plain) = some false
  j_Link_Code : PySem.W.kitOne K (.ref c.Link) (.ref c.Code) = some false
  j_Link_Strong : PySem.W.kitOne K (.ref c.Link) (.ref c.Strong) = some false
  j_Link_Link : PySem.W.kitOne K (.ref c.Link) (.ref c.Link) = some true
  j_Link_Mark : PySem.W.kitOne K (.ref c.Link) (.ref c.Mark) = some false
  j_Link_Part : PySem.W.kitOne K (.ref c.Link) (.ref c.Part) = some true
  j_Mark_Plain : PySem.W.kitOne K (.ref c.Mark) (.ref c.Plain) = some false
  j_Mark_Code : PySem.W.kitOne K (.ref c.Mark) (.ref c.Code) = some false
  j_Mark_Strong : PySem.W.kitOne K (.ref c.Mark) (.ref c.Strong) = some false
  j_Mark_Link : PySem.W.kitOne K (.ref c.Mark) (.ref c.Link) = some false
  j_Mark_Mark : PySem.W.kitOne K (.ref c.Mark) (.ref c.Mark) = some true
  j_Mark_Part : PySem.W.kitOne K (.ref c.Mark) (.ref c.Part) = some true
/-- of which classes a part is -/
structure ClsOf (K : PySem.W.Frag) (c : Cp) (H : Hp) (a : Addr) (b1 b2 b3 b4 b5 : Bool) : Prop where
  ex : ∃ t, TyOf K H (.ref a) t ∧ PySem.W.kitOne K t (.ref c.Plain) = some b1 ∧ PySem.W.kitOne K t (.ref c.Code) = some b2 ∧ PySem.W.kitOne K t (.ref c.Strong) = some b3 ∧ PySem.W.kitOne K t (.ref c.Link) = some b4 ∧ PySem.W.kitOne K t (.ref c.Mark) = some b5 ∧ PySem.W.kitOne K t (.ref c.Part) = some true
def kb : PC → Bool × Bool × Bool × Bool × Bool
  | .one (.plain _) => (true, false, false, false, false)
  | .one (.code _) => (false, true, false, false, false)
  | .strong _ => (false, false, true, false, false)
  | .one (.link _ _) => (false, false, false, true, false)
  | .one (.note _) => (false, false, false, false, true)
theorem TxC.cls {K : PySem.W.Frag} {mg : Str → Option Value} {c : Cp} (T : TxC K mg c) {H : Hp} {a : Addr} : ∀ {p : PC}, PCAt c H a p → ClsOf K c H a (kb p).1 (kb p).2.1 (kb p).2.2.1 (kb p).2.2.2.1 (kb p).2.2.2.2
  | .one (.plain _), ⟨_, _, e⟩ => ⟨_, T.o_Plain.ty e, T.j_Plain_Plain, T.j_Plain_Code, T.j_Plain_Strong, T.j_Plain_Link, T.j_Plain_Mark, T.j_Plain_Part⟩
  | .one (.code _), ⟨_, _, e⟩ => ⟨_, T.o_Code.ty e, T.j_Code_Plain, T.j_Code_Code, T.j_Code_Strong, T.j_Code_Link, T.j_Code_Mark, T.j_Code_Part⟩
  | .strong _, ⟨_, _, _, e, _⟩ => ⟨_, T.o_Strong.ty e, T.j_Strong_Plain, T.j_Strong_Code, T.j_Strong_Strong, T.j_Strong_Link, T.j_Strong_Mark, T.j_Strong_Part⟩
  | .one (.link _ _), ⟨_, _, _, e⟩ => ⟨_, T.o_Link.ty e, T.j_Link_Plain, T.j_Link_Code, T.j_Link_Strong, T.j_Link_Link, T.j_Link_Mark, T.j_Link_Part⟩
  | .one (.note _), ⟨_, _, e⟩ => ⟨_, T.o_Mark.ty e, T.j_Mark_Plain, T.j_Mark_Code, T.j_Mark_Strong, T.j_Mark_Link, T.j_Mark_Mark, T.j_Mark_Part⟩
def wordAt (H : Hp) (v : V) : V := match v with
  | .ref a => match H a with
    | some (.tup [x, _]) => x
    | _ => .non
  | _ => .non
def flagAt (H : Hp) (v : V) : Bool := match v with
  | .ref a => match H a with
    | some (.tup [_, .bl b]) => b
    | _ => false
  | _ => false
section
variable {P : Program} {w : World} {K : PySem.W.Frag} {mg : Str → Option Value} {base : Heap} {c : Cp}
abbrev sClass : Stmt := top 44
theorem scClass : FnScope ["_law_part", "_law_found"] ["_law_part"] (defScope sClass) := ⟨rfl, rfl, rfl, by decide +kernel, rfl, by decide +kernel, by decide +kernel⟩
def spClass (c : Cp) : Sp := fun vs H Q _ => ∃ a p, vs = [.ref a] ∧ PCAt c H a p ∧ ∀ r H', Same H H' → H r = none → H' r = some (.lst [.str (kdP p)]) → Q (.ref r) H'
theorem ok_class {f : Addr} {fd : FuncData} (F : Fun K "_law_class" "_law_class" sClass f fd) (T : TxC K mg c) : FnOk P w K mg base CX0 1 f fd ["_law_part"] (spClass c) := by
  have sc := scClass
  refine F.ok sc (fun vs H Q E h => ?_) (fun cdv A outer s H vs Q E hr h => ?_)
  · obtain ⟨a, p, rfl, _⟩ := h
    rfl
  obtain ⟨a, p, rfl, hp, q⟩ := h
  refine of_XB (xbc (xset (i := 1) sc.nd rfl (Or.inl rfl) (xlst (xac (xtup (xac xstr (xac (xcB call_isC T.n_isinstance rfl (xac (xv 0) (xac (xgC T.c_Plain) xa0))) xa0))) (xac (xtup (xac xstr (xac (xcB call_isC T.n_isinstance rfl (xac (xv 0) (xac (xgC T.c_Code) xa0))) xa0))) xa0))))
    (xbc (xset (i := 1) sc.nd rfl (Or.inl rfl) (xop op_cat (xv 1) (xlst (xac (xtup (xac xstr (xac (xcB call_isC T.n_isinstance rfl (xac (xv 0) (xac (xgC T.c_Strong) xa0))) xa0))) (xac (xtup (xac xstr (xac (xcB call_isC T.n_isinstance rfl (xac (xv 0) (xac (xgC T.c_Link) xa0))) xa0))) xa0)))))
    (xbc (xset (i := 1) sc.nd rfl (Or.inl rfl) (xop op_cat (xv 1) (xlst (xac (xtup (xac xstr (xac (xcB call_isC T.n_isinstance rfl (xac (xv 0) (xac (xgC T.c_Mark) xa0))) xa0))) xa0))))
    (xbc (xslc (i := 1) sc.nd rfl rfl (cl := []) (own := ["_law_word", "_law_is_one"]) (fr := []) (N' := ["_law_word", "_law_is_one"]) rfl (compN (xs := []) trivial trivial (by decide +kernel)) (by decide +kernel) (by decide +kernel) (by with_unfolding_all rfl)
    (xil (xv 1))
    (fun _ _ _ _ => xgtC (n := 2) rfl (xgsc (xgn (i := 0) (show (["_law_word", "_law_is_one"] : List Str).Nodup by decide +kernel) rfl (Or.inl rfl)) (xgsc (xgn (i := 1) (show (["_law_word", "_law_is_one"] : List Str).Nodup by decide +kernel) rfl (Or.inl rfl)) xgs0))) (fun _ _ _ _ => xq1 (xvalT (xv 1))) (fun _ _ _ _ => (xv 0)))
    (xb1 (xret (xop op_rep (xv 1) (xcTy call_int1 T.n_int rfl (xac (xcB call_isC T.n_isinstance rfl (xac (xv 0) (xac (xgC T.c_Part) xa0))) xa0))))))))) ?_
  rw [show start ["_law_part", "_law_found"] [V.ref a] = [some (V.ref a), none] from rfl]
  have kf : ∀ {H' : Hp}, Same H H' → ClsOf K c H' a (kb p).1 (kb p).2.1 (kb p).2.2.1 (kb p).2.2.2.1 (kb p).2.2.2.2 := fun s' => T.cls (hp.same s')
  have hfin : ∀ (b1 b2 b3 b4 b5 : Bool), (b1, b2, b3, b4, b5) = kb p → ∀ (HA : Hp) (t1 t2 t3 t4 t5 : Addr), (wordAt HA (.ref t1) = .str "plain" ∧ flagAt HA (.ref t1) = b1) → (wordAt HA (.ref t2) = .str "code" ∧ flagAt HA (.ref t2) = b2) → (wordAt HA (.ref t3) = .str "strong" ∧ flagAt HA (.ref t3) = b3) → (wordAt HA (.ref t4) = .str "link" ∧ flagAt HA (.ref t4) = b4) → (wordAt HA (.ref t5) = .str "note" ∧ flagAt HA (.ref t5) = b5) → ([V.ref t1, .ref t2, .ref t3, .ref t4, .ref t5].filter (flagAt HA)).map (wordAt HA) = [.str (kdP p)] := by
    intro b1 b2 b3 b4 b5 hk HA t1 t2 t3 t4 t5 g1 g2 g3 g4 g5
    match p, hk with
    | .one (.plain _), hk => cases hk; simp only [List.filter, g1.2, g2.2, g3.2, g4.2, g5.2, List.map, g1.1]; rfl
    | .one (.code _), hk => cases hk; simp only [List.filter, g1.2, g2.2, g3.2, g4.2, g5.2, List.map, g2.1]; rfl
    | .strong _, hk => cases hk; simp only [List.filter, g1.2, g2.2, g3.2, g4.2, g5.2, List.map, g3.1]; rfl
    | .one (.link _ _), hk => cases hk; simp only [List.filter, g1.2, g2.2, g3.2, g4.2, g5.2, List.map, g4.1]; rfl
    | .one (.note _), hk => cases hk; simp only [List.filter, g1.2, g2.2, g3.2, g4.2, g5.2, List.map, g5.1]; rfl
  generalize hkb : kb p = kk at kf hfin
  obtain ⟨b1, b2, b3, b4, b5⟩ := kk
  have hfin := hfin b1 b2 b3 b4 b5 rfl
  dsimp only at kf
  obtain ⟨ty0, ht0, f1, _⟩ := (kf (Same.refl H)).ex
  refine ⟨_, rfl, _, _, _, _, rfl, ht0, f1, big (show (2 : Nat) ≤ 1000000 by decide), fun t1 ht1 => ?_⟩
  have s1 := same_new ht1 (.tup [.str "plain", .bl b1])
  have e1 : upd H t1 (.tup [V.str "plain", .bl b1]) t1 = some (.tup [.str "plain", .bl b1]) := upd_same
  generalize upd H t1 (.tup [V.str "plain", .bl b1]) = H1 at s1 e1 ⊢
  obtain ⟨ty1, hty1, _, f2, _⟩ := (kf s1).ex
  refine ⟨_, rfl, _, _, _, _, rfl, hty1, f2, big (show (2 : Nat) ≤ 1000000 by decide), fun t2 ht2 => ⟨big (show (2 : Nat) ≤ 1000000 by decide), fun l1 hl1 => ?_⟩⟩
  have s2 := same_new ht2 (.tup [.str "code", .bl b2])
  have e2 : upd H1 t2 (.tup [V.str "code", .bl b2]) t2 = some (.tup [.str "code", .bl b2]) := upd_same
  generalize upd H1 t2 (.tup [V.str "code", .bl b2]) = H2 at s2 e2 hl1 ⊢
  have s3 := same_new hl1 (.lst [.ref t1, .ref t2])
  have e3 : upd H2 l1 (.lst [V.ref t1, .ref t2]) l1 = some (.lst [.ref t1, .ref t2]) := upd_same
  generalize upd H2 l1 (.lst [V.ref t1, .ref t2]) = H3 at s3 e3 ⊢
  have s03 := (s1.trans s2).trans s3
  dsimp only [gName, List.set_cons_succ, List.set_cons_zero]
  obtain ⟨ty3, hty3, _, _, f3, _⟩ := (kf s03).ex
  refine ⟨_, rfl, ⟨_, rfl, _, _, _, _, rfl, hty3, f3, big (show (2 : Nat) ≤ 1000000 by decide), fun t3 ht3 => ?_⟩⟩
  have s4 := same_new ht3 (.tup [.str "strong", .bl b3])
  have e4 : upd H3 t3 (.tup [V.str "strong", .bl b3]) t3 = some (.tup [.str "strong", .bl b3]) := upd_same
  generalize upd H3 t3 (.tup [V.str "strong", .bl b3]) = H4 at s4 e4 ⊢
  obtain ⟨ty4, hty4, _, _, _, f4, _⟩ := (kf (s03.trans s4)).ex
  refine ⟨_, rfl, _, _, _, _, rfl, hty4, f4, big (show (2 : Nat) ≤ 1000000 by decide), fun t4 ht4 => ⟨big (show (2 : Nat) ≤ 1000000 by decide), fun l2 hl2 => ?_⟩⟩
  have s5 := same_new ht4 (.tup [.str "link", .bl b4])
  have e5 : upd H4 t4 (.tup [V.str "link", .bl b4]) t4 = some (.tup [.str "link", .bl b4]) := upd_same
  generalize upd H4 t4 (.tup [V.str "link", .bl b4]) = H5 at s5 e5 hl2 ⊢
  have s6 := same_new hl2 (.lst [.ref t3, .ref t4])
  have e6 : upd H5 l2 (.lst [V.ref t3, .ref t4]) l2 = some (.lst [.ref t3, .ref t4]) := upd_same
  generalize upd H5 l2 (.lst [V.ref t3, .ref t4]) = H6 at s6 e6 ⊢
  have s36 := (s4.trans s5).trans s6
  refine ⟨l1, l2, _, _, rfl, rfl, s36 _ _ e3, e6, big (show (4 : Nat) ≤ 1000000 by decide), fun l3 hl3 => ?_⟩
  have s7 := same_new hl3 (.lst ([.ref t1, .ref t2] ++ [.ref t3, .ref t4]))
  have e7 : upd H6 l3 (.lst ([V.ref t1, .ref t2] ++ [.ref t3, .ref t4])) l3 = some (.lst ([.ref t1, .ref t2] ++ [.ref t3, .ref t4])) := upd_same
  generalize upd H6 l3 (.lst ([V.ref t1, .ref t2] ++ [.ref t3, .ref t4])) = H7 at s7 e7 ⊢
  have s07 := (s03.trans s36).trans s7
  dsimp only [gName, List.set_cons_succ, List.set_cons_zero]
  obtain ⟨ty7, hty7, _, _, _, _, f5, _⟩ := (kf s07).ex
  refine ⟨_, rfl, ⟨_, rfl, _, _, _, _, rfl, hty7, f5, big (show (2 : Nat) ≤ 1000000 by decide), fun t5 ht5 => ⟨big (show (1 : Nat) ≤ 1000000 by decide), fun l4 hl4 => ?_⟩⟩⟩
  have s8 := same_new ht5 (.tup [.str "note", .bl b5])
  have e8 : upd H7 t5 (.tup [V.str "note", .bl b5]) t5 = some (.tup [.str "note", .bl b5]) := upd_same
  generalize upd H7 t5 (.tup [V.str "note", .bl b5]) = H8 at s8 e8 hl4 ⊢
  have s9 := same_new hl4 (.lst [.ref t5])
  have e9 : upd H8 l4 (.lst [V.ref t5]) l4 = some (.lst [.ref t5]) := upd_same
  generalize upd H8 l4 (.lst [V.ref t5]) = H9 at s9 e9 ⊢
  refine ⟨l3, l4, _, _, rfl, rfl, (s8.trans s9) _ _ e7, e9, big (show (5 : Nat) ≤ 1000000 by decide), fun l5 hl5 => ?_⟩
  have sA := same_new hl5 (.lst (([.ref t1, .ref t2] ++ [.ref t3, .ref t4]) ++ [.ref t5]))
  have eA : upd H9 l5 (.lst (([V.ref t1, .ref t2] ++ [.ref t3, .ref t4]) ++ [.ref t5])) l5 = some (.lst [.ref t1, .ref t2, .ref t3, .ref t4, .ref t5]) := upd_same
  generalize upd H9 l5 (.lst (([V.ref t1, .ref t2] ++ [.ref t3, .ref t4]) ++ [.ref t5])) = HA at sA eA ⊢
  have s0A := ((s07.trans s8).trans s9).trans sA
  have s6A := ((s7.trans s8).trans s9).trans sA
  have g1 : HA t1 = some (.tup [.str "plain", .bl b1]) := ((((s2.trans s3).trans s36).trans s6A)) _ _ e1
  have g2 : HA t2 = some (.tup [.str "code", .bl b2]) := (((s3.trans s36).trans s6A)) _ _ e2
  have g3 : HA t3 = some (.tup [.str "strong", .bl b3]) := (((s5.trans s6).trans s6A)) _ _ e4
  have g4 : HA t4 = some (.tup [.str "link", .bl b4]) := ((s6.trans s6A)) _ _ e5
  have g5 : HA t5 = some (.tup [.str "note", .bl b5]) := ((s9.trans sA)) _ _ e8
  dsimp only [gName, List.set_cons_succ, List.set_cons_zero]
  have one : ∀ {t : Addr} {y : Str} {b : Bool}, HA t = some (.tup [.str y, .bl b]) → wordAt HA (.ref t) = .str y ∧ flagAt HA (.ref t) = b := fun {t y b} h => by
    unfold wordAt flagAt
    dsimp only
    rw [h]
    exact ⟨rfl, rfl⟩
  refine ⟨_, rfl, l5, rfl, ⟨_, SqL.of eA⟩, lc_list (flagAt HA) (wordAt HA) (SqL.of eA) (big (show (5 : Nat) ≤ 1000000 by decide)) (fun x hx H' s' C N hC hN => ?_) (fun r HB hr0 sB eB => ?_)⟩
  · obtain ⟨t, y, b, rfl, ht⟩ : ∃ t y b, x = .ref t ∧ HA t = some (.tup [.str y, .bl b]) := by
      simp only [List.mem_cons, List.not_mem_nil, or_false] at hx
      rcases hx with rfl | rfl | rfl | rfl | rfl
      · exact ⟨_, _, _, rfl, g1⟩
      · exact ⟨_, _, _, rfl, g2⟩
      · exact ⟨_, _, _, rfl, g3⟩
      · exact ⟨_, _, _, rfl, g4⟩
      · exact ⟨_, _, _, rfl, g5⟩
    obtain ⟨w1, w2⟩ := one ht
    refine ⟨t, _, rfl, SqT.of (s' _ _ ht), rfl, _, _, rfl, _, _, rfl, rfl, ?_⟩
    refine ⟨(nfLe.refl _ _ _).set (by decide) _ |>.set (by decide) _, _, rfl, b, rfl, ?_⟩
    cases b with
    | true => rw [if_pos rfl]; exact ⟨_, rfl, w1 ▸ hC H' (Same.refl _) w2⟩
    | false => rw [if_neg Bool.false_ne_true]; exact hN H' (Same.refl _) w2
  · rw [hfin HA t1 t2 t3 t4 t5 (one g1) (one g2) (one g3) (one g4) (one g5)] at eB
    dsimp only [gName, List.set_cons_succ, List.set_cons_zero]
    obtain ⟨tyB, htyB, _, _, _, _, _, f6⟩ := (kf (s0A.trans sB)).ex
    refine ⟨_, rfl, _, rfl, _, _, _, _, rfl, htyB, f6, .inr ⟨_, rfl, r, 1, _, rfl, rfl, eB, by decide, by decide, big (show (1 : Nat) ≤ 1000000 by decide), fun z hz => ?_⟩⟩
    exact q z _ ((s0A.trans sB).trans (same_new hz _)) ((s0A.trans sB).free hz) upd_same
end
end K4

set_option Elab.async false
set_option linter.all false
set_option maxRecDepth 100000
/-! Lists, tuples and things kept, whatever becomes of the rest. -/
namespace Lw
open PySem L2 Lm
def Kd (o : HO) : Prop := (∃ xs, o = .lst xs) ∨ (∃ xs, o = .tup xs) ∨ ∃ C dx fs, o = .ins C dx fs
theorem Kd.lst {xs : List V} : Kd (.lst xs) := .inl ⟨xs, rfl⟩
theorem Kd.tup {xs : List V} : Kd (.tup xs) := .inr (.inl ⟨xs, rfl⟩)
theorem Kd.ins {C dx : Addr} {fs : List (Str × V)} : Kd (.ins C dx fs) := .inr (.inr ⟨C, dx, fs, rfl⟩)
def KS (H H' : Hp) : Prop := ∀ b o, Kd o → H b = some o → H' b = some o
theorem KS.trans {H H1 H2 : Hp} (a : KS H H1) (b : KS H1 H2) : KS H H2 := fun c o k h => b c o k (a c o k h)
theorem KS.of {H H' : Hp} (s : Same H H') : KS H H' := fun b o _ h => s b o h
mutual
theorem dn_ks {H H' : Hp} (s : KS H H') : ∀ {v : V} {d : PyData}, Dn H v d → Dn H' v d
  | _, _, .non => .non
  | _, _, .bl b => .bl b
  | _, _, .int i => .int i
  | _, _, .str x a b => .str x a b
  | _, _, .lst e r l => .lst (s _ _ Kd.lst e) (dnAll_ks s r) l
  | _, _, .tup e r => .tup (s _ _ Kd.tup e) (dnAll_ks s r)
theorem dnAll_ks {H H' : Hp} (s : KS H H') : ∀ {vs : List V} {ds : List PyData}, DnAll H vs ds → DnAll H' vs ds
  | _, _, .nil => .nil
  | _, _, .cons a b => .cons (dn_ks s a) (dnAll_ks s b)
end
mutual
theorem dn_det {H : Hp} : ∀ {v : V} {d d' : PyData}, Dn H v d → Dn H v d' → d = d'
  | _, _, _, .non, .non => rfl
  | _, _, _, .bl _, .bl _ => rfl
  | _, _, _, .int _, .int _ => rfl
  | _, _, _, .str _ _ _, .str _ _ _ => rfl
  | _, _, _, .lst e r _, .lst e' r' _ => by
    rw [e] at e'
    cases e'
    rw [dnAll_det r r']
  | _, _, _, .tup e r, .tup e' r' => by
    rw [e] at e'
    cases e'
    rw [dnAll_det r r']
  | _, _, _, .lst e r _, .tup e' r' => by rw [e] at e'; cases e'
  | _, _, _, .tup e r, .lst e' r' _ => by rw [e] at e'; cases e'
theorem dnAll_det {H : Hp} : ∀ {vs : List V} {ds ds' : List PyData}, DnAll H vs ds → DnAll H vs ds' → ds = ds'
  | _, _, _, .nil, .nil => rfl
  | _, _, _, .cons a b, .cons a' b' => by rw [dn_det a a', dnAll_det b b']
end
theorem p1_ks {c : Cp} {H H' : Hp} {a : Addr} (s : KS H H') : ∀ {p : P1}, P1At c H a p → P1At c H' a p
  | .plain _, ⟨g, dx, e⟩ => ⟨g, dx, s _ _ Kd.ins e⟩
  | .code _, ⟨g, dx, e⟩ => ⟨g, dx, s _ _ Kd.ins e⟩
  | .link _ _, ⟨g, g2, dx, e⟩ => ⟨g, g2, dx, s _ _ Kd.ins e⟩
  | .note _, ⟨g, dx, e⟩ => ⟨g, dx, s _ _ Kd.ins e⟩
theorem p1s_ks {c : Cp} {H H' : Hp} (s : KS H H') : ∀ {as : List Addr} {ps : List P1}, P1s c H as ps → P1s c H' as ps
  | [], [], _ => trivial
  | _ :: _, _ :: _, ⟨a, b⟩ => ⟨p1_ks s a, p1s_ks s b⟩
theorem pc_ks {c : Cp} {H H' : Hp} {a : Addr} (s : KS H H') : ∀ {p : PC}, PCAt c H a p → PCAt c H' a p
  | .one _, h => p1_ks s h
  | .strong _, ⟨dx, l, as, e1, e2, r⟩ => ⟨dx, l, as, s _ _ Kd.ins e1, s _ _ Kd.lst e2, p1s_ks s r⟩
theorem pcs_ks {c : Cp} {H H' : Hp} (s : KS H H') : ∀ {as : List Addr} {ps : List PC}, PCs c H as ps → PCs c H' as ps
  | [], [], _ => trivial
  | _ :: _, _ :: _, ⟨a, b⟩ => ⟨pc_ks s a, pcs_ks s b⟩
def R2 : PC → Prop
  | .one _ => True
  | .strong ps => ps.length ≤ 100000
theorem sz_pos {p : P1} (h : Ok1 p) : 1 ≤ sz1 p := by
  cases p with
  | plain s =>
    have : s.cps.toList ≠ [] := h.2
    show 1 ≤ s.cps.toList.length
    cases e : s.cps.toList with
    | nil => exact absurd e this
    | cons _ _ => simp
  | code s => show 1 ≤ _ + 2; omega
  | link a b => show 1 ≤ _ + 20; omega
  | note s => show 1 ≤ _ + 20; omega
theorem len_sz1 {l : List P1} (h : ∀ p ∈ l, Ok1 p) : l.length ≤ (l.map sz1).sum := by
  induction l with
  | nil => exact Nat.le_refl 0
  | cons p l ih =>
    have h1 := ih fun q hq => h q (List.mem_cons_of_mem _ hq)
    have h2 := sz_pos (h p List.mem_cons_self)
    rw [List.map_cons, List.sum_cons, List.length_cons]
    omega
theorem len_sz {l : List PC} (h : ∀ p ∈ l, OkC p) : l.length ≤ (l.map szC).sum := by
  induction l with
  | nil => exact Nat.le_refl 0
  | cons p l ih =>
    have h1 := ih fun q hq => h q (List.mem_cons_of_mem _ hq)
    have h2 : 1 ≤ szC p := by
      have := h p List.mem_cons_self
      cases p with
      | one q => exact sz_pos this
      | strong q => show 1 ≤ _ + 2; omega
    rw [List.map_cons, List.sum_cons, List.length_cons]
    omega
theorem mem_szC {l : List PC} {p : PC} (h : p ∈ l) : szC p ≤ (l.map szC).sum := by
  induction l with
  | nil => cases h
  | cons q l ih =>
    rw [List.map_cons, List.sum_cons]
    rcases List.mem_cons.mp h with z | z
    · rw [z]; omega
    · have := ih z; omega
theorem r2_of {l : List PC} (h : ∀ p ∈ l, OkC p) (hs : (l.map szC).sum ≤ 90000) : ∀ p ∈ l, R2 p := fun p hp => by
  have h1 := mem_szC hp
  have h2 := h p hp
  cases p with
  | one q => trivial
  | strong q =>
    have h3 := len_sz1 h2
    have h4 : szC (.strong q) = (q.map sz1).sum + 2 := rfl
    show q.length ≤ 100000
    omega
end Lw

set_option Elab.async false
set_option linter.all false
set_option maxRecDepth 100000
set_option maxHeartbeats 4000000
namespace K4
open PySem L2 Lm Lw
def defPos (s : Stmt) : Pos := match s with
  | .FunctionDef _ _ _ _ _ _ _ _ _ p => p
  | _ => ⟨0, 0, 0, 0⟩
section
variable {P : Program} {w : World} {K : PySem.W.Frag} {mg : Str → Option Value} {base : Heap} {c : Cp}
abbrev sRight : Stmt := top 45
abbrev sCL : Stmt := (defBody sRight).getD 0 (.Pass ⟨0, 0, 0, 0⟩)
abbrev sCN : Stmt := (defBody sRight).getD 1 (.Pass ⟨0, 0, 0, 0⟩)
theorem scRight : FnScope ["_law_parts", "_law_due", "_law_word", "_law_link", "_law_note", "_law_told", "_law_one"] ["_law_parts", "_law_due", "_law_word"] (defScope sRight) := ⟨rfl, rfl, rfl, by decide +kernel, rfl, by decide +kernel, by decide +kernel⟩
theorem scCL : CloScope ["_law_name_here", "_law_word"] ["_law_name_here"] ["_law_word"] (defScope sCL) := ⟨rfl, rfl, rfl, by decide +kernel, rfl, by decide +kernel, by decide +kernel⟩
theorem scCN : CloScope ["_law_name_here", "_law_word"] ["_law_name_here"] ["_law_word"] (defScope sCN) := ⟨rfl, rfl, rfl, by decide +kernel, rfl, by decide +kernel, by decide +kernel⟩
theorem frCL : ∀ y ∈ (defScope sCL).names, y.2 = .free → (defScope sRight).names.lookup y.1 = some .cell := by decide +kernel
theorem frCN : ∀ y ∈ (defScope sCN).names, y.2 = .free → (defScope sRight).names.lookup y.1 = some .cell := by decide +kernel
def qCL : Str := qualnameIn (PyProof.Rows.envOfC "_law_right" (defScope sRight) 0 0 .none) "_law_link" "_law_link"
def qCN : Str := qualnameIn (PyProof.Rows.envOfC "_law_right" (defScope sRight) 0 0 .none) "_law_note" "_law_note"
def qsRight : List (Pos × Str) := [(defPos sCL, qCL), (defPos sCN, qCN)]
theorem posNe : (defPos sCL).line ≠ (defPos sCN).line := by decide +kernel
theorem ok_CL {g c' : Addr} {cl : List (Str × Addr)} {doc pm ct : Value} {wd : List Nat} (lk : base.get? g = some (PySem.W.fnMade "_law_link" qCL (defArgs sCL) (defBody sCL) (defScope sCL) cl doc pm c' ct)) (hcd : base.CodeRec (.ref c') qCL)
    (C : CloCells base cl (defScope sCL) ["_law_word"] [vS wd]) (hw : wd.length ≤ 10) : FnV P w K mg base 2 g ["_law_name_here"] (spSay (sayL wd)) := by
  have sc := scCL
  refine fn_ofC0 lk hcd sc C (fun vs H Q E h => ?_) (fun us hl => ?_) (fun A outer s H vs Q E hr h => ?_)
  · obtain ⟨n, rfl, _⟩ := h
    rfl
  · match us, hl with
    | [_], _ => rfl
  obtain ⟨n, rfl, hn, q⟩ := h
  refine of_XB (xb1 (xret (xop op_add_str (xv 1 rfl (Or.inr (Or.inr rfl))) (xv 0)))) ?_
  have hs : sizeLine = 16777216 := sizeLine_eq
  refine ⟨_, rfl, _, rfl, _, _, rfl, rfl, by rw [S_len, S_len, hs]; omega, ?_⟩
  rw [S_app]
  exact q H (Same.refl H)
theorem ok_CN {g c' : Addr} {cl : List (Str × Addr)} {doc pm ct : Value} {wd : List Nat} (lk : base.get? g = some (PySem.W.fnMade "_law_note" qCN (defArgs sCN) (defBody sCN) (defScope sCN) cl doc pm c' ct)) (hcd : base.CodeRec (.ref c') qCN)
    (C : CloCells base cl (defScope sCN) ["_law_word"] [vS wd]) (hw : wd.length ≤ 10) : FnV P w K mg base 2 g ["_law_name_here"] (spSay (sayN wd)) := by
  have sc := scCN
  refine fn_ofC0 lk hcd sc C (fun vs H Q E h => ?_) (fun us hl => ?_) (fun A outer s H vs Q E hr h => ?_)
  · obtain ⟨n, rfl, _⟩ := h
    rfl
  · match us, hl with
    | [_], _ => rfl
  obtain ⟨n, rfl, hn, q⟩ := h
  refine of_XB (xb1 (xret (xop op_add_str (xv 0) (xv 1 rfl (Or.inr (Or.inr rfl)))))) ?_
  have hs : sizeLine = 16777216 := sizeLine_eq
  refine ⟨_, rfl, _, rfl, _, _, rfl, rfl, by rw [S_len, S_len, hs]; omega, ?_⟩
  rw [S_app]
  exact q H (Same.refl H)
def spRight (c : Cp) (Pt : Addr) : Sp := fun vs H Q _ => ∃ (l d : Addr) (as : List Addr) (D : List PC) (wd : List Nat), vs = [.ref l, .ref d, vS wd] ∧ wd.length ≤ 10 ∧ Asc wd ∧ H l = some (.lst (as.map V.ref)) ∧ PCs c H as D ∧ Dn H (.ref d) (.list (D.map dP)) ∧ (∀ p ∈ D, OkC p) ∧ (D.map szC).sum ≤ 90000 ∧ Tab Pt qsRight H ∧
  ∀ H', KS H H' → Tab Pt qsRight H' → Q (.bl true) H'
theorem tab_ne {Pt b : Addr} {H : Hp} {o : HO} (t : Tab Pt qsRight H) (h : H b = some o) (ho : ∀ xs, o ≠ .tbl xs) : b ≠ Pt := fun z => by
  obtain ⟨ps, e, _⟩ := t
  rw [← z, h] at e
  cases e
  exact ho _ rfl
theorem kd_tbl {o : HO} (h : Kd o) : ∀ xs, o ≠ .tbl xs := by
  rcases h with ⟨xs, rfl⟩ | ⟨xs, rfl⟩ | ⟨C, dx, fs, rfl⟩ <;> exact fun _ z => nomatch z
theorem kd_ext {o : HO} (h : Kd o) : ∀ φ, o ≠ .ext φ := by
  rcases h with ⟨xs, rfl⟩ | ⟨xs, rfl⟩ | ⟨C, dx, fs, rfl⟩ <;> exact fun _ z => nomatch z
theorem made_ks {Pt : Addr} {H H' : Hp} {d : Clo} (t : Tab Pt qsRight H) (M : Made Pt qsRight H H' d) : KS H H' := fun b o k h => M.keep b o (tab_ne t h (kd_tbl k)) h
theorem kinds_eq {D : List PC} : (List.range D.length).map (fun i => PyData.list [.str (kdP (D.getD i (.one (.note ""))))]) = D.map fun p => PyData.list [.str (kdP p)] := range_get D _ fun p => PyData.list [.str (kdP p)]
theorem kd_ok (p : PC) : (PyData.strOk (kdP p) && decide ((kdP p).length ≤ 100000)) = true := by
  match p with
  | .one (.plain _) => exact (by decide +kernel : (PyData.strOk kPlain && decide (kPlain.length ≤ 100000)) = true)
  | .one (.code _) => exact (by decide +kernel : (PyData.strOk kCode && decide (kCode.length ≤ 100000)) = true)
  | .one (.link _ _) => exact (by decide +kernel : (PyData.strOk kLink && decide (kLink.length ≤ 100000)) = true)
  | .one (.note _) => exact (by decide +kernel : (PyData.strOk kNote && decide (kNote.length ≤ 100000)) = true)
  | .strong _ => exact (by decide +kernel : (PyData.strOk kStrong && decide (kStrong.length ≤ 100000)) = true)
theorem dDepth (D : List PC) : (PyData.list (D.map dP)).depth ≤ 64 := Nat.le_trans (depth_list (n := 3) fun d hd => by
  obtain ⟨p, _, rfl⟩ := List.mem_map.mp hd
  exact dP_depth p) (by decide)
theorem kDepth (D : List PC) : (PyData.list (D.map fun p => PyData.list [.str (kdP p)])).depth ≤ 64 := Nat.le_trans (depth_list (n := 1) fun d hd => by
  obtain ⟨p, _, rfl⟩ := List.mem_map.mp hd
  exact depth_list (n := 0) fun x hx => by rw [List.mem_singleton.mp hx, depth_str]; exact Nat.le_refl 0) (by decide)
def kindOf : PyData → Option Str
  | .tuple (.str k :: _) => some k
  | _ => none
theorem strong_ne {qs : List P1} {q : P1} (h : Lw.d1 q = dP (.strong qs)) : False := by
  have h := congrArg kindOf h
  cases q with
  | plain s => exact absurd (Option.some.inj h) (show ¬ kPlain = kStrong by decide +kernel)
  | code s => exact absurd (Option.some.inj h) (show ¬ kCode = kStrong by decide +kernel)
  | link a b => exact absurd (Option.some.inj h) (show ¬ kLink = kStrong by decide +kernel)
  | note s => exact absurd (Option.some.inj h) (show ¬ kNote = kStrong by decide +kernel)
theorem ok_right {f cc Pt : Addr} {fd : FuncData} {k : Nat} (F : Fun K "_law_right" "_law_right" sRight f fd) (hc : fd.code = .ref cc) (hT : PySem.W.CodeHd base cc Pt ∧ base.BuiltinsAt mg Pt) (hk : k ≤ 7)
    (D_told_parts : Def P w K mg base 4 "told_parts" ["parts"] (spTolds c R2)) (hM : ToldV P w K mg base k c R2) (D_l_shape : Def P w K mg base 3 "_law_shape" ["_law_told"] (spShape fun _ => True)) (D_l_class : Def P w K mg base 1 "_law_class" ["_law_part"] (spClass c))
    (D_l_said : Def P w K mg base 3 "_law_said" ["_law_due", "_law_word"] (spLSaid fun _ => True)) (hm_said_of : ∃ f, mg "said_of" = some (.ref f) ∧ PySem.W.keepIn K (.ref f) = true)
    (D_said : ∀ (base' : Heap) (gl gn : Addr) (sf sg : List Nat → List Nat) (x1 x2 : Str), K.In base' → base'.Ns mainGlobals mg → SayOk sf → SayOk sg → FnV P w K mg base' 2 gl [x1] (spSay sf) → FnV P w K mg base' 2 gn [x2] (spSay sg) → Def P w K mg base' 6 "said_of" ["parts", "link", "note"] (spSaids c gl gn sf sg R2)) :
    FnOk P w K mg base CX0 8 f fd ["_law_parts", "_law_due", "_law_word"] (spRight c Pt) := by
  have sc := scRight
  refine F.okT hc sc (fun vs H Q E h => ?_) (fun A outer s H vs Q E hr h => ?_)
  · obtain ⟨l, d, as, D, wd, rfl, _⟩ := h
    rfl
  obtain ⟨l, d, as, D, wd, rfl, hwd, hwa, el, hps, hdd, hok, hsum, tab, q⟩ := h
  have hu : (A.deeper (PyProof.Rows.envOfC "_law_right" (defScope sRight) s.heap.objs.size f (.ref cc))).units + 64 < cLine := by
    have := hr.un
    omega
  have DA : DefAt (cxOf CX0 P w K mg base ["_law_parts", "_law_due", "_law_word", "_law_link", "_law_note", "_law_told", "_law_one"] "_law_right" (defScope sRight) f (.ref cc) A outer s H E).nox cc Pt := ⟨rfl, hT.1, hT.2⟩
  have hcl__law_link : ∀ n, (n, NameKind.free) ∈ (defScope sCL).names → ∃ c', (PyProof.Rows.envOfC "_law_right" (defScope sRight) s.heap.objs.size f (.ref cc)).cells.lookup n = some c' := fun n hn => cell_has (frCL _ hn rfl)
  have hcl__law_note : ∀ n, (n, NameKind.free) ∈ (defScope sCN).names → ∃ c', (PyProof.Rows.envOfC "_law_right" (defScope sRight) s.heap.objs.size f (.ref cc)).cells.lookup n = some c' := fun n hn => cell_has (frCN _ hn rfl)
  have hq__law_link : (defPos sCL, qualnameIn (PyProof.Rows.envOfC "_law_right" (defScope sRight) s.heap.objs.size f (.ref cc)) "_law_link" "_law_link") ∈ qsRight := List.mem_cons_self
  have hq__law_note : (defPos sCN, qualnameIn (PyProof.Rows.envOfC "_law_right" (defScope sRight) s.heap.objs.size f (.ref cc)) "_law_note" "_law_note") ∈ qsRight := List.mem_cons_of_mem _ List.mem_cons_self
  have hqs__law_link : ∀ q ∈ qsRight, q.1.line = (defPos sCL).line → q.1.col = (defPos sCL).col → q.2 = qualnameIn (PyProof.Rows.envOfC "_law_right" (defScope sRight) s.heap.objs.size f (.ref cc)) "_law_link" "_law_link" := fun q hq h1 _ => by
    rcases List.mem_cons.mp hq with z | z
    · rw [z]; rfl
    · rw [List.mem_singleton.mp z] at h1; exact absurd h1.symm posNe
  have hqs__law_note : ∀ q ∈ qsRight, q.1.line = (defPos sCN).line → q.1.col = (defPos sCN).col → q.2 = qualnameIn (PyProof.Rows.envOfC "_law_right" (defScope sRight) s.heap.objs.size f (.ref cc)) "_law_note" "_law_note" := fun q hq h1 _ => by
    rcases List.mem_cons.mp hq with z | z
    · rw [z] at h1; exact absurd h1 posNe
    · rw [List.mem_singleton.mp z]; rfl
  refine of_XB (xbc (xdef (i := 3) DA hcl__law_link hq__law_link hqs__law_link sc.nd rfl (Or.inl rfl))
    (xbc (xdef (i := 4) DA hcl__law_note hq__law_note hqs__law_note sc.nd rfl (Or.inl rfl))
    (xbc (xset (i := 5) sc.nd rfl (Or.inl rfl) (xcD D_told_parts (hr.mono (by omega)) (xac (xv 0) xa0)))
    (xbc (xif (xor (xnotT (xvalT (xcD D_l_shape (hr.mono (by omega)) (xac (xv 5) xa0)))) (xor (xcmpT (op_neW hu) (xv 5) (xv 1) (nomark _)) (xor1 (xcmpT (op_neW hu) (xlc (cl := []) (own := ["_law_part"]) (fr := []) (N' := ["_law_part"]) rfl (compN (xs := []) trivial trivial (by decide +kernel)) (by decide +kernel) (by decide +kernel) (by with_unfolding_all rfl)
    (xil (xv 0))
    (fun _ _ _ _ => xgn (i := 0) (show (["_law_part"] : List Str).Nodup by decide +kernel) rfl (Or.inl rfl)) (fun _ _ _ _ => xq0) (fun _ _ _ _ => (xcD D_l_class (hr.mono (by omega)) (xac (xv 0) xa0)))) (xlc (cl := []) (own := ["_law_one"]) (fr := []) (N' := ["_law_one"]) rfl (compN (xs := []) trivial trivial (by decide +kernel)) (by decide +kernel) (by decide +kernel) (by with_unfolding_all rfl)
    (xil (xv 1))
    (fun _ _ _ _ => xgn (i := 0) (show (["_law_one"] : List Str).Nodup by decide +kernel) rfl (Or.inl rfl)) (fun _ _ _ _ => xq0) (fun _ _ _ _ => (xlst (xac (xix ix_tupC (xv 0) xint (fun _ _ => rfl)) xa0)))) (nomark _))))).xt (xb1 (xret xbl)) xb0)
    (xbc (xfor PassesOwn.never rfl (xil (xv 5)) (xgn (i := 6) sc.nd rfl (Or.inl rfl))
    (xb1 (xif (xcmpT op_eq (xix ix_tup (xv 6) xint (fun _ _ => rfl)) xstr (nomark _)) (xb1 (xexpr (xm PySem.F.plainAttrs_list PySem.F.slot_list_append PySem.F.type_list_append mt_append (xix ix_tup (xv 6) xint (fun _ _ => rfl)) (xac (xl_tup (xlsc (xl_str (by decide +kernel)) (xlsc (xl_str (by decide +kernel)) xls0))) xa0)))) xb0)))
    (xbc (xexpr (xm PySem.F.plainAttrs_list PySem.F.slot_list_append PySem.F.type_list_append mt_append (xv 5) (xac (xl_tup (xlsc (xl_str (by decide +kernel)) (xlsc (xl_str (by decide +kernel)) xls0))) xa0)))
    (xbc (xif (xcmpT op_ne (xcX (k := 6) (ps := ["parts", "link", "note"]) hm_said_of (fun _ => rfl) (hr.mono (by omega)) (xac (xv 0) (xac (xv 3) (xac (xv 4) xa0)))) (xcD D_l_said (hr.mono (by omega)) (xac (xv 1) (xac (xv 2) xa0))) (nomark _)) (xb1 (xret xbl)) xb0)
    (xb1 (xret (xandV (xcmp (op_eqW hu) (xcD D_told_parts (hr.mono (by omega)) (xac (xv 0) xa0)) (xv 1) (nomark _)) (xone (xcmp (op_eqW hu) (xlc (cl := []) (own := ["_law_part"]) (fr := []) (N' := ["_law_part"]) rfl (compN (xs := []) trivial trivial (by decide +kernel)) (by decide +kernel) (by decide +kernel) (by with_unfolding_all rfl)
    (xil (xv 0))
    (fun _ _ _ _ => xgn (i := 0) (show (["_law_part"] : List Str).Nodup by decide +kernel) rfl (Or.inl rfl)) (fun _ _ _ _ => xq0) (fun _ _ _ _ => (xmV0C (k := k) (xv 0) (hr.mono (by omega))))) (xv 1) (nomark _))))))))))))) ?_
  have hs : sizeLine = 16777216 := sizeLine_eq
  have hlenD := hps.len
  have hDl := len_sz hok
  have hR2 := r2_of hok hsum
  refine ⟨tab, fun d1 H1 M1 mk1 => ⟨M1.tab, fun d2 H2 M2 mk2 => ?_⟩⟩
  obtain ⟨doc1, ct1, eobj1, equal1, ecs1⟩ := mk1
  obtain ⟨doc2, ct2, eobj2, equal2, ecs2⟩ := mk2
  have ks2 : KS H H2 := (made_ks tab M1).trans (made_ks M1.tab M2)
  have tab2 := M2.tab
  have hD2 : ∀ {H' : Hp}, Same H2 H' → ∀ d' ∈ [d1, d2], CloOk H' d' := fun {H'} s' d' hd' => by
    rcases List.mem_cons.mp hd' with z | z
    · rw [z]
      refine ⟨s' _ _ (M2.keep _ _ (tab_ne M1.tab M1.fn fun xs y => nomatch y) M1.fn), s' _ _ (M2.keep _ _ (tab_ne M1.tab M1.cd fun xs y => nomatch y) M1.cd), fun q hq => by rw [ecs1] at hq; cases hq⟩
    · rw [List.mem_singleton.mp z]
      exact ⟨s' _ _ M2.fn, s' _ _ M2.cd, fun q hq => by rw [ecs2] at hq; cases hq⟩
  have el2 := ks2 _ _ Kd.lst el
  have hps2 := pcs_ks ks2 hps
  have hdd2 := dn_ks ks2 hdd
  dsimp only [gName, List.set_cons_succ, List.set_cons_zero]
  obtain ⟨d', ys, ds, edd, hds, ed2, dall2, hdl⟩ | ⟨_, z⟩ := Dn.lstCase hdd2
  rotate_left
  · exact absurd rfl (z _)
  cases edd
  cases hds
  have hyl : ys.length = D.length := by rw [dall2.len, List.length_map]
  refine ⟨_, rfl, l, as, D, rfl, el2, hps2, hR2, by omega, fun r H3 s3 d3 => ?_⟩
  dsimp only [gName, List.set_cons_succ, List.set_cons_zero]
  refine s_no1 (t_or false false (t_not true fun R' k' => ⟨_, rfl, .ref r, D, rfl, d3.out, fun _ _ => trivial, fun H4 s4 => ⟨_, rfl, k' H4 s4⟩⟩) fun _ H4 s4 => t_or false false (fun R' k' => ⟨_, rfl, _, rfl, _, (d3.out.same s4).den, (hdd2.same (s3.trans s4)).den, dDepth D, _, rfl, k' _ (Same.refl _)⟩) fun _ H5 s5 R' k' => ?_) fun H6 s6 => ?_
  · have s25 := (s3.trans s4).trans s5
    refine ⟨_, rfl, l, rfl, ⟨_, SqL.of (s25 _ _ el2)⟩, ?_⟩
    refine lc_newD (fun i => PyData.list [.str (kdP (D.getD i (.one (.note ""))))]) (SqL.of (s25 _ _ el2)) (by rw [List.length_map]; omega) ?_ ?_
    · intro i x hx H7 s7 C N hC
      rw [List.getElem?_map] at hx
      cases hai : as[i]? with
      | none => rw [hai] at hx; cases hx
      | some a =>
      rw [hai] at hx
      cases hx
      obtain ⟨p, hp1, hp2⟩ := hps2.get hai
      refine ⟨(nfLe.refl _ _ _).set (by decide) _, iteT (B := N H7) ⟨_, rfl, a, p, rfl, hp2.same (s25.trans s7), fun z H8 s8 hz e8 => hC _ H8 s8 ?_⟩⟩
      rw [List.getD_eq_getElem?_getD, hp1]
      exact .lst (by rw [dif_at hz]; exact e8) (.cons (dn_kind (kd_ok p)) .nil) (by show 1 ≤ 100000; decide)
    · intro D1 H7 hD1 s7 dD1
      rw [List.length_map, hlenD, kinds_eq] at dD1
      have s27 := s25.trans s7
      refine ⟨_, rfl, d, rfl, ⟨_, SqL.of (s27 _ _ ed2)⟩, ?_⟩
      refine lc_newD (fun i => PyData.list [.str (kdP (D.getD i (.one (.note ""))))]) (SqL.of (s27 _ _ ed2)) (by omega) ?_ ?_
      · intro i x hx H8 s8 C N hC
        obtain ⟨hil, _⟩ := List.getElem?_eq_some_iff.mp hx
        obtain ⟨p, hp⟩ : ∃ p, D[i]? = some p := ⟨_, List.getElem?_eq_getElem (by omega)⟩
        have hdx : Dn H2 x (dP p) := by
          obtain ⟨v, h1, h2⟩ := dall2.get (i := i) (d := dP p) (by rw [List.getElem?_map, hp]; rfl)
          rw [hx] at h1
          cases h1
          exact h2
        obtain ⟨b, zs, rfl, eb, _⟩ := told_kind hdx
        refine ⟨(nfLe.refl _ _ _).set (by decide) _, iteT (B := N H8) ?_⟩
        refine ⟨_, rfl, b, _, _, _, rfl, rfl, SqT.of ((s27.trans s8) _ _ eb), atI_nat (j := 0) rfl, big (show (1 : Nat) ≤ 1000000 by decide), fun o ho => hC _ _ (same_new ho _) ?_⟩
        rw [List.getD_eq_getElem?_getD, hp]
        exact .lst (by rw [dif_at ho]; exact upd_same) (.cons (dn_kind (kd_ok p)) .nil) (by show 1 ≤ 100000; decide)
      · intro D2 H8 hD2 s8 dD2
        rw [hyl, kinds_eq] at dD2
        exact ⟨_, (dD1.out.same s8).den, dD2.out.den, kDepth D, _, rfl, k' H8 (s7.trans s8)⟩
  -- told is changed
  obtain ⟨r', ts, ds, err, hds, er, tall, htl⟩ | ⟨_, z⟩ := Dn.lstCase d3
  rotate_left
  · exact absurd rfl (z _)
  cases err
  cases hds
  obtain ⟨hr0, er3⟩ := dif_some er
  have htsl : ts.length = D.length := by rw [tall.len, List.length_map]
  have s26 := s3.trans s6
  have er6 := s6 _ _ er3
  refine ⟨_, rfl, r, rfl, ⟨_, SqL.of er6⟩, ?_⟩
  refine for_list (xs := ts) (fun i σ H' => ∃ x6, σ = [some (.ref l), some (.ref d), some (vS wd), some (.ref d1.g), some (.ref d2.g), some (.ref r), x6] ∧ Same H2 H' ∧ H' r = some (.lst ts) ∧ (∀ b xs, H6 b = some (.tup xs) → H' b = some (.tup xs)) ∧ (∀ m zs, m ≠ r → H6 m = some (.lst zs) → ∃ zs', H' m = some (.lst zs') ∧ zs'.length ≤ zs.length + i))
    ⟨none, rfl, s26, er6, (fun _ _ h => h), fun m zs _ h => ⟨zs, h, Nat.le_refl _⟩⟩ ?_ ?_ ?_
  · rintro i σ H7 _ ⟨x6, _, _, e7, _⟩
    exact SqL.of e7
  · rintro i x σ H7 hx ⟨x6, rfl, s7, e7, tp7, ls7⟩
    obtain ⟨hil, _⟩ := List.getElem?_eq_some_iff.mp hx
    obtain ⟨p, hp⟩ : ∃ p, D[i]? = some p := ⟨_, List.getElem?_eq_getElem (by omega)⟩
    have hpm := List.mem_of_getElem? hp
    have hdx : Dn (dif H2 H3) x (dP p) := by
      obtain ⟨v, h1, h2⟩ := tall.get (i := i) (d := dP p) (by rw [List.getElem?_map, hp]; rfl)
      rw [hx] at h1
      cases h1
      exact h2
    obtain ⟨b, zs, rfl, eb, _, _, hcase⟩ := told_tup hdx
    have eb7 := tp7 _ _ (s6 _ _ (dif_some eb).2)
    dsimp only [gName, List.set_cons_succ, List.set_cons_zero]
    have evK : Ev (tOp (rIxT K) (tVar 6) (tC (.int 0))) [some (.ref l), some (.ref d), some (vS wd), some (.ref d1.g), some (.ref d2.g), some (.ref r), some (.ref b)] H7 (.str (kdP p)) := ev_ixT (ev_v rfl) ev_c (SqT.of eb7) (atI_nat (j := 0) rfl)
    have keepS : ∀ {H8 : Hp}, Same H7 H8 → (∀ b xs, H6 b = some (.tup xs) → H8 b = some (.tup xs)) ∧ (∀ m zs, m ≠ r → H6 m = some (.lst zs) → ∃ zs', H8 m = some (.lst zs') ∧ zs'.length ≤ zs.length + i) := fun {H8} s8 => ⟨fun b xs h => s8 _ _ (tp7 b xs h), fun m zs hm h => by
      obtain ⟨zs', h1, h2⟩ := ls7 m zs hm h
      exact ⟨zs', s8 _ _ h1, h2⟩⟩
    rcases hcase with ⟨qs, m, rfl, rfl, dm⟩ | ⟨hone, _⟩
    · refine s_if true ((t_eqS evK ev_c).eq (kd_strong _)) (fun H8 s8 _ => ?_) fun _ _ z => Bool.noConfusion z
      obtain ⟨tp8, ls8⟩ := keepS s8
      obtain ⟨m', ms, ds, emm, hds, em, mall, hml⟩ | ⟨_, z⟩ := Dn.lstCase dm
      rotate_left
      · exact absurd rfl (z _)
      cases emm
      cases hds
      obtain ⟨hm0, em3⟩ := dif_some em
      have hmr : m ≠ r := fun z => by
        rw [z] at dm
        have := dn_det d3 dm
        injection this with this
        have hmem : dP (.strong qs) ∈ qs.map Lw.d1 := by rw [← this]; exact List.mem_map_of_mem hpm
        obtain ⟨q', _, hq'⟩ := List.mem_map.mp hmem
        exact strong_ne hq'
      obtain ⟨zs', ez8, hzl⟩ := ls8 m ms hmr (s6 _ _ em3)
      have hmsl : ms.length ≤ 100000 := by rw [mall.len]; exact hml
      refine ev_ixT (ev_v rfl) ev_c (SqT.of (s8 _ _ eb7)) (atI_nat (j := 1) rfl) _ ⟨.inl ⟨rfl, _, SqL.of ez8⟩, fun v9 H9 s9 d9 => ⟨m, zs', v9, rfl, rfl, s9 _ _ ez8, by rw [hs]; omega, ?_⟩⟩
      have ez9 := s9 _ _ ez8
      refine ⟨_, rfl, same_grow hm0 ((s7.trans s8).trans s9), (upd_ne (Ne.symm hmr)).trans (s9 _ _ (s8 _ _ e7)), fun b xs h => ?_, fun n zs hn h => ?_⟩
      · have h9 := s9 _ _ (tp8 b xs h)
        refine (upd_ne fun z => ?_).trans h9
        rw [z, ez9] at h9
        cases h9
      · obtain ⟨zs2, h1, h2⟩ := ls8 n zs hn h
        by_cases hnm : n = m
        · subst hnm
          rw [ez8] at h1
          cases h1
          exact ⟨_, upd_same, by rw [List.length_append]; show _ + 1 ≤ _; omega⟩
        · exact ⟨zs2, (upd_ne hnm).trans (s9 _ _ h1), by omega⟩
    · refine s_if false ((t_eqS evK ev_c).eq (by
        rw [kd_strong]
        cases e : one? p with
        | none => exact absurd e hone
        | some _ => rfl)) (fun _ _ z => Bool.noConfusion z) fun H8 s8 _ => ?_
      obtain ⟨tp8, ls8⟩ := keepS s8
      refine ⟨_, rfl, s7.trans s8, s8 _ _ e7, tp8, fun n zs hn h => ?_⟩
      obtain ⟨zs2, h1, h2⟩ := ls8 n zs hn h
      exact ⟨zs2, h1, by omega⟩
  rintro σ H7 ⟨x6, rfl, s7, e7, _, _⟩
  refine ⟨_, rfl, .inl ⟨rfl, _, SqL.of e7⟩, fun v8 H8 s8 d8 => ⟨r, ts, v8, rfl, rfl, s8 _ _ e7, by rw [hs]; omega, ?_⟩⟩
  have s9 : Same H2 (upd H8 r (.lst (ts ++ [v8]))) := same_grow hr0 (s7.trans s8)
  generalize upd H8 r (.lst (ts ++ [v8])) = H9 at s9 ⊢
  dsimp only
  -- said
  have hDD := hD2 s9
  have ksd : KS H9 (drop H9 [d1, d2]) := fun b o k h => by rw [drop_ne (clo_out hDD h (kd_ext k))]; exact h
  have ks29 : KS H2 H9 := KS.of s9
  have el9 := s9 _ _ el2
  have hsz := said_all (sayL_len hwd) (sayN_len hwd) D
  refine s_no1 (fun R' k' => ⟨_, rfl, _, rfl, _, rfl, [d1, d2], spSaids c d1.g d2.g (sayL wd) (sayN wd) R2, hDD, fun base' B => ?_, ?_⟩) fun HA sA => ?_
  · refine D_said base' d1.g d2.g (sayL wd) (sayN wd) "_law_name_here" "_law_name_here" B.kin B.glob (fun n hn => asc_app hwa hn) (fun n hn => asc_app hn hwa) (ok_CL (c' := d1.c) (doc := doc1) (pm := (mg "__name__").getD .none) (ct := ct1) ?_ ?_ (B.cells hcl__law_link rfl ?_) hwd) (ok_CN (c' := d2.c) (doc := doc2) (pm := (mg "__name__").getD .none) (ct := ct2) ?_ ?_ (B.cells hcl__law_note rfl ?_) hwd)
    · have := B.fn d1 List.mem_cons_self
      rw [eobj1] at this
      exact this
    · have := B.cd d1 List.mem_cons_self
      rw [equal1] at this
      exact this
    · intro i x v h1 h2
      match i, h1, h2 with
      | 0, h1, h2 => cases h1; cases h2; exact ⟨by decide +kernel, .inl rfl, 2, rfl, rfl⟩
    · have := B.fn d2 (List.mem_cons_of_mem _ List.mem_cons_self)
      rw [eobj2] at this
      exact this
    · have := B.cd d2 (List.mem_cons_of_mem _ List.mem_cons_self)
      rw [equal2] at this
      exact this
    · intro i x v h1 h2
      match i, h1, h2 with
      | 0, h1, h2 => cases h1; cases h2; exact ⟨by decide +kernel, .inl rfl, 2, rfl, rfl⟩
  · refine ⟨l, as, D, rfl, ksd _ _ Kd.lst el9, pcs_ks (ks29.trans ksd) hps2, fun p hp => ⟨hR2 p hp, (hok p hp).asc⟩, by omega, by omega, fun HA sA hno => ?_⟩
    have sB : Same H9 (back H9 [d1, d2] HA) := fun b o h => by
      by_cases hb : b ∈ adrs [d1, d2]
      · rw [back_in hb]; exact h
      · rw [back_ne hb]; exact sA b o (by rw [drop_ne hb]; exact h)
    generalize back H9 [d1, d2] HA = HB at sB ⊢
    refine ⟨_, rfl, _, rfl, .ref d, D, wd, rfl, hwd, hdd2.same (s9.trans sB), fun _ _ => trivial, hsum, fun HC sC => ⟨rfl, _, rfl, ?_⟩⟩
    rw [show ∀ a : List Nat, (!decide (vS a = vS a)) = false from fun a => by rw [decide_eq_true rfl]; rfl]
    exact k' HC (sB.trans sC)
  have s2A := s9.trans sA
  refine ⟨_, rfl, l, as, D, rfl, s2A _ _ el2, hps2.same s2A, hR2, by omega, fun r2 HB sB dB => ?_⟩
  have s2B := s2A.trans sB
  refine ⟨_, rfl, _, dB.out.den, (hdd2.same s2B).den, dDepth D, true, rfl, iteT ?_⟩
  refine ⟨_, rfl, l, rfl, ⟨_, SqL.of (s2B _ _ el2)⟩, ?_⟩
  refine lc_newD (fun i => dP (D.getD i (.one (.note "")))) (SqL.of (s2B _ _ el2)) (by rw [List.length_map]; omega) ?_ ?_
  · intro i x hx H7 s7' C N hC
    rw [List.getElem?_map] at hx
    cases hai : as[i]? with
    | none => rw [hai] at hx; cases hx
    | some a =>
    rw [hai] at hx
    cases hx
    obtain ⟨p, hp1, hp2⟩ := hps2.get hai
    obtain ⟨Cc, dx, fs, sp, e1, e2, V, hsp⟩ := hM p (hR2 p (List.mem_of_getElem? hp1)) H7 a (hp2.same (s2B.trans s7'))
    refine ⟨(nfLe.refl _ _ _).set (by decide) _, iteT (B := N H7) ⟨_, rfl, a, Cc, dx, fs, _, sp, rfl, e1, e2, V, hsp _ _ fun v H4 s4 d4 => hC v H4 s4 ?_⟩⟩
    rw [List.getD_eq_getElem?_getD, hp1]
    exact d4
  · intro D1 HC hD1 sC dC
    rw [List.length_map, hlenD, range_getD] at dC
    have s2C := s2B.trans sC
    exact ⟨_, rfl, _, dC.out.den, (hdd2.same s2C).den, dDepth D, q HC (ks2.trans (KS.of s2C)) (tab2.keep s2C)⟩
end
end K4

set_option Elab.async false
set_option linter.all false
set_option maxRecDepth 100000
set_option maxHeartbeats 4000000
namespace K4
open PySem L2 Lm Lw PySem.Builtin.Int
theorem mul1 (b : Bool) : Txt.mul (Str.ofString " ") (if b then 1 else 0) = S (if b then [32] else []) := by
  cases b
  · exact mul_S 32 0
  · exact mul_S 32 1
/-- the text and what is due, as far as they go -/
structure TxOk (t : List Nat) (ps : List PC) (i : Nat) : Prop where
  bk : (t = [] ∧ ps = [] ∧ i = 0) ∨ Bk t (atPs ps)
  asc : Asc t
  len : t.length ≤ 3001 * i
  ok : ∀ p ∈ ps, OkC p
  sz : szA (atPs ps) ≤ 4001 * i
  n : ps.length ≤ 11 * i
def gapP (b : Bool) : List PC := if b then [.one (.plain (S [32]))] else []
def gapT (b : Bool) : List Nat := if b then [32] else []
theorem TxOk.add {t r2 : List Nat} {ps p2 : List PC} {i : Nat} (h : TxOk t ps i) (k : BlockOk r2 p2) (b : Bool) : TxOk (t ++ gapT b ++ r2) (ps ++ gapP b ++ p2) (i + 1) := by
  have hb : Bk (gapT b ++ r2) (atPs (gapP b ++ p2)) := by
    cases b with
    | true => exact k.gap
    | false => exact k.bk
  have hg : szA (atPs (gapP b)) ≤ 1 ∧ (gapP b).length ≤ 1 ∧ (gapT b).length ≤ 1 ∧ Asc (gapT b) ∧ ∀ p ∈ gapP b, OkC p := by
    cases b with
    | true => exact ⟨by show szA (atPs [.one (.plain (S [32]))]) ≤ 1; rw [at_plain]; decide, by decide, by decide, by unfold Asc; decide, fun p hp => by rw [List.mem_singleton.mp hp]; exact ok_blank⟩
    | false => exact ⟨by decide, by decide, by decide, (fun _ z => nomatch z), (fun _ z => nomatch z)⟩
  obtain ⟨g1, g2, g3, g4, g5⟩ := hg
  have h1 := h.len
  have h2 := k.len
  have h3 := h.sz
  have h4 := k.sz
  have h5 := h.n
  have h6 := k.n
  refine ⟨.inr ?_, asc_app (asc_app h.asc g4) k.asc, ?_, fun p hp => ?_, ?_, ?_⟩
  · rw [List.append_assoc, List.append_assoc]
    rcases h.bk with ⟨rfl, rfl, _⟩ | g
    · exact hb
    · rw [atPs_app]
      exact g.app hb
  · rw [List.length_append, List.length_append]; omega
  · rcases List.mem_append.mp hp with z | z
    · rcases List.mem_append.mp z with z | z
      · exact h.ok p z
      · exact g5 p z
    · exact k.ok p z
  · rw [atPs_app, atPs_app, szA_app, szA_app]; omega
  · rw [List.length_append, List.length_append]; omega
def lastP (l : List Nat) : List PC := if l.isEmpty then [] else [.one (.plain (S l))]
theorem last_at (l : List Nat) : atPs (lastP l) = l.map Atm.sg := by
  unfold lastP
  cases l with
  | nil => rfl
  | cons x l => rw [if_neg (by simp), at_plain]
theorem last_facts : ∀ l ∈ lastL, (∀ c ∈ l, c < 128) ∧ l.length ≤ 10 := by decide
theorem TxOk.fin {t l : List Nat} {ps : List PC} {i : Nat} (h : TxOk t ps i) (hi : 1 ≤ i) (hi7 : i ≤ 7) (hl : l ∈ lastL) : partsC (t ++ l) = joinP (ps ++ lastP l) ∧ (∀ p ∈ ps ++ lastP l, OkC p) ∧ (ps ++ lastP l).length ≤ 1000 ∧ szA (atPs (ps ++ lastP l)) ≤ 50000 ∧ (t ++ l).length ≤ 100000 ∧ Asc (t ++ l) ∧ (∀ p ∈ joinP (ps ++ lastP l), OkC p) ∧ ((joinP (ps ++ lastP l)).map szC).sum ≤ 90000 := by
  obtain ⟨l1, l2⟩ := last_facts l hl
  have h1 := h.len
  have h3 := h.sz
  have h5 := h.n
  have hok : ∀ p ∈ ps ++ lastP l, OkC p := fun p hp => by
    rcases List.mem_append.mp hp with z | z
    · exact h.ok p z
    · unfold lastP at z
      split at z
      · cases z
      · rename_i hne
        rw [List.mem_singleton.mp z]
        show Asc (S l).cps.toList ∧ (S l).cps.toList ≠ []
        rw [S_list]
        exact ⟨l1, fun y => hne (by rw [y]; rfl)⟩
  have hbk : Bk t (atPs ps) := by
    rcases h.bk with ⟨_, _, z⟩ | g
    · omega
    · exact g
  have hsz : szA (atPs (ps ++ lastP l)) ≤ 50000 := by rw [atPs_app, szA_app, last_at, szA_signs]; omega
  have hasc : Asc (t ++ l) := asc_app h.asc l1
  have hj := join_eq hok
  refine ⟨?_, hok, ?_, hsz, by rw [List.length_append]; omega, hasc, ?_, ?_⟩
  · rw [parts_built hbk (lst_all l hl) hasc, hj, atPs_app, last_at]
  · rw [List.length_append]
    have : (lastP l).length ≤ 1 := by unfold lastP; split <;> simp
    omega
  · rw [hj]
    exact mgA_ok _ [] (atPs_ok hok) (fun _ z => nomatch z)
  · rw [hj, mgA_sz]
    show 0 + _ ≤ _
    omega
structure TxW (mg : Str → Option Value) : Prop where
  n_len : mg "len" = none
  n_range : mg "range" = none
  n_int : mg "int" = none
  n_isinstance : mg "isinstance" = none
  n_list : mg "list" = none
section
variable {P : Program} {w : World} {K : PySem.W.Frag} {mg : Str → Option Value} {base : Heap} {c : Cp}
abbrev sLaw : Stmt := top 46
theorem scLaw : FnScope ["_law_script", "_law_text_here", "_law_due", "_law_turn", "_law_cell_here", "_law_piece_here", "_law_gap", "_law_last", "_law_parts"] ["_law_script"] (defScope sLaw) := ⟨rfl, rfl, rfl, by decide +kernel, rfl, by decide +kernel, by decide +kernel⟩
def spLaw4 (K : PySem.W.Frag) (Pt : Addr) : Sp := fun vs H Q _ => ∃ (a : Addr) (ns : List Int), vs = [.ref a] ∧ SqL K H a (vI ns) ∧ (∀ n ∈ ns, intBits n ≤ 1048576) ∧ H Pt = some (.tbl #[]) ∧ ∀ H', Q (.bl true) H'
theorem rep_told {H H1 : Hp} {l : List Nat} {t o : Addr} (s : Same H H1) (ha : Asc l) (hl : l.length ≤ 1000) (ht : H1 t = none) (ho : upd H1 t (.tup [V.str "plain", vS l]) o = none) :
    Same H1 (upd (upd H1 t (.tup [V.str "plain", vS l])) o (.lst [.ref t])) ∧ Dn (dif H (upd (upd H1 t (.tup [V.str "plain", vS l])) o (.lst [.ref t]))) (.ref t) (dP (.one (.plain (S l)))) := by
  have s1 := same_new ht (.tup [V.str "plain", vS l])
  have s2 := same_new ho (.lst [V.ref t])
  refine ⟨s1.trans s2, .tup (xs := [V.str "plain", vS l]) ?_ (.cons (dn_kind (by decide +kernel)) (.cons (dn_txt ha (by omega)) .nil))⟩
  rw [dif_at (s.free ht)]
  exact s2 _ _ upd_same
theorem ok_law {f Pt : Addr} {fd : FuncData} (F : Fun K "law" "law" sLaw f fd) (T : TxW mg) (D_l_cell : Def P w K mg base 1 "_law_cell" ["_law_script", "_law_k"] (spCell K)) (D_l_mixed : Def P w K mg base 1 "_law_mixed" ["_law_cell_here", "_law_k"] spMixed)
    (D_l_piece : Def P w K mg base 4 "_law_piece" ["_law_number"] spPiece) (D_l_joined : Def P w K mg base 1 "_law_joined" ["_law_parts"] spJoined) (D_parts_of : Def P w K mg base 6 "parts_of" ["text"] (spPartsOf c))
    (D_l_right : Def P w K mg base 8 "_law_right" ["_law_parts", "_law_due", "_law_word"] (spRight c Pt)) : FnOk P w K mg base CX0 9 f fd ["_law_script"] (spLaw4 K Pt) := by
  have sc := scLaw
  refine F.ok sc (fun vs H Q E h => ?_) (fun cdv A outer s H vs Q E hr h => ?_)
  · obtain ⟨a, ns, rfl, _⟩ := h
    rfl
  obtain ⟨a, ns, rfl, hq, hb, eP, q⟩ := h
  have hu : (A.deeper (PyProof.Rows.envOfC "law" (defScope sLaw) s.heap.objs.size f cdv)).units + 64 < cLine := by
    have := hr.un
    omega
  refine of_XB (xbc (xset (i := 1) sc.nd rfl (Or.inl rfl) xstr)
    (xbc (xset (i := 2) sc.nd rfl (Or.inl rfl) (xlst xa0))
    (xbc (xfor PassesOwn.never rfl (xir1 rfl T.n_range (xac (xop op_add xint (xop op_mod (xcD D_l_cell (hr.mono (by omega)) (xac (xv 0) (xac xint xa0))) xint)) xa0)) (xgn (i := 3) sc.nd rfl (Or.inl rfl))
    (xbc (xset (i := 4) sc.nd rfl (Or.inl rfl) (xcD D_l_cell (hr.mono (by omega)) (xac (xv 0) (xac (xop op_add xint (xv 3)) xa0))))
    (xbc (xset (i := 5) sc.nd rfl (Or.inl rfl) (xcD D_l_piece (hr.mono (by omega)) (xac (xcD D_l_mixed (hr.mono (by omega)) (xac (xv 4) (xac (xop op_add (xv 3) xint) xa0))) xa0)))
    (xbc (xset (i := 6) sc.nd rfl (Or.inl rfl) (xop op_mul_str xstr (xcTy call_int1 T.n_int rfl (xac (xandV (xcmp op_gt (xv 3) xint (nomark _)) (xone (xcmp op_eq (xop op_mod (xcD D_l_mixed (hr.mono (by omega)) (xac (xv 4) (xac (xop op_add (xv 3) xint) xa0))) xint) xint (nomark _)))) xa0))))
    (xbc (xset (i := 1) sc.nd rfl (Or.inl rfl) (xop op_add_str (xop op_add_str (xv 1) (xv 6)) (xix ix_tup (xv 5) xint (fun _ _ => rfl))))
    (xb1 (xset (i := 2) sc.nd rfl (Or.inl rfl) (xop op_cat (xop op_cat (xv 2) (xop op_rep (xlst (xac (xtup (xac xstr (xac (xv 6) xa0))) xa0)) (xcB call_len_str T.n_len PySem.boot_len (xac (xv 6) xa0)))) (xix ix_tup (xv 5) xint (fun _ _ => rfl))))))))))
    (xbc (xset (i := 4) sc.nd rfl (Or.inl rfl) (xcD D_l_cell (hr.mono (by omega)) (xac (xv 0) (xac xint xa0))))
    (xbc (xset (i := 7) sc.nd rfl (Or.inl rfl) (xix ix_list (xlst (xac xstr (xac xstr (xac xstr (xac xstr (xac xstr (xac xstr (xac xstr (xac xstr (xac xstr (xac xstr (xac xstr xa0)))))))))))) (xop op_mod (xv 4) xint) (fun _ _ => rfl)))
    (xbc (xset (i := 1) sc.nd rfl (Or.inl rfl) (xop op_add_str (xv 1) (xv 7)))
    (xbc (xset (i := 2) sc.nd rfl (Or.inl rfl) (xcD D_l_joined (hr.mono (by omega)) (xac (xop op_cat (xv 2) (xop op_rep (xlst (xac (xtup (xac xstr (xac (xv 7) xa0))) xa0)) (xcTy call_int1 T.n_int rfl (xac (xcmp op_ne (xv 7) xstr (nomark _)) xa0)))) xa0)))
    (xbc (xset (i := 8) sc.nd rfl (Or.inl rfl) (xcD D_parts_of (hr.mono (by omega)) (xac (xv 1) xa0)))
    (xbc (xif (xor (xnotT (xvalT (xcB call_isT T.n_isinstance rfl (xac (xv 8) (xac (xty (T := "list") T.n_list rfl) xa0))))) (xor (xnotT (xvalT (xcD D_l_right (hr.mono (by omega)) (xac (xv 8) (xac (xv 2) (xac xstr xa0)))))) (xor1 (xcmpT (op_ne0 hu) (xcD D_parts_of (hr.mono (by omega)) (xac xstr xa0)) (xlst xa0) (nomark _))))).xt (xb1 (xret xbl)) xb0)
    (xbc (xexpr (xm PySem.F.plainAttrs_list PySem.F.slot_list_append PySem.F.type_list_append mt_append (xv 8) (xac xnon xa0)))
    (xb1 (xret (xcD D_l_right (hr.mono (by omega)) (xac (xcD D_parts_of (hr.mono (by omega)) (xac (xv 1) xa0)) (xac (xv 2) (xac xstr xa0)))))))))))))))) ?_
  have hs : sizeLine = 16777216 := sizeLine_eq
  rw [show start ["_law_script", "_law_text_here", "_law_due", "_law_turn", "_law_cell_here", "_law_piece_here", "_law_gap", "_law_last", "_law_parts"] [V.ref a] = [some (V.ref a), none, none, none, none, none, none, none, none] from rfl]
  refine s_asgC ?_
  dsimp only [List.set_cons_succ, List.set_cons_zero]
  refine ⟨big (show (0 : Nat) ≤ 1000000 by decide), fun d0 hd0 => ?_⟩
  have s1 := same_new hd0 (.lst [])
  have e1 : upd H d0 (.lst []) d0 = some (.lst []) := upd_same
  dsimp only [gName, List.set_cons_succ, List.set_cons_zero]
  generalize upd H d0 (.lst []) = H1 at s1 e1 ⊢
  refine ⟨_, rfl, a, ns, 0, rfl, by decide, s1.seq hq, hb, fun cl0 hcl0 => ?_⟩
  refine ⟨_, _, rfl, rfl, show (0 : Int) < 7 by decide, _, _, rfl, rfl, _, rfl, by omega, by omega, ?_⟩
  obtain ⟨cnt, hcnt⟩ : ∃ cnt : Nat, cnt = (1 + cl0 % 7).toNat := ⟨_, rfl⟩
  have hcnt7 : 1 ≤ cnt ∧ cnt ≤ 7 := by omega
  rw [← hcnt]
  refine for_range (n := cnt) (fun t σ H' => ∃ (tx : List Nat) (ps : List PC) (dl : Addr) (xs : List V) (x3 x4 x5 x6 : Option V), σ = [some (.ref a), some (vS tx), some (.ref dl), x3, x4, x5, x6, none, none] ∧ Same H H' ∧ H' dl = some (.lst xs) ∧ DnAll (dif H H') xs (ps.map dP) ∧ TxOk tx ps t)
    ⟨[], [], d0, [], none, none, none, none, rfl, s1, e1, .nil, ⟨.inl ⟨rfl, rfl, rfl⟩, (fun _ z => nomatch z), Nat.zero_le _, (fun _ z => nomatch z), Nat.zero_le _, Nat.zero_le _⟩⟩ ?_ ?_
  · rintro t σ H2 ht ⟨tx, ps, dl, xs, x3, x4, x5, x6, rfl, s2, e2, hd2, hok2⟩
    refine ⟨_, rfl, _, rfl, _, _, rfl, rfl, a, ns, _, rfl, by omega, s2.seq hq, hb, fun cl hcl => ?_⟩
    dsimp only [gName, List.set_cons_succ, List.set_cons_zero]
    have hmx := mixF_ok cl (0 + (t : Int) + 1)
    refine ⟨_, rfl, _, rfl, _, _, rfl, rfl, cl, 0 + (t : Int) + 1, rfl, hcl, by omega, by omega, mixF cl (0 + (t : Int) + 1), rfl, by omega, by omega, fun raw p2 tp H3 s3 htold hbk => ?_⟩
    obtain ⟨l3, xs3, et3, el3, dl3⟩ := htold
    dsimp only [gName, List.set_cons_succ, List.set_cons_zero]
    have s23 := s2.trans s3
    have hxl : xs.length = ps.length := by rw [hd2.len, List.length_map]
    have hxl3 : xs3.length = p2.length := by rw [dl3.len, List.length_map]
    have hn2 := hok2.n
    have hn3 := hbk.n
    have hlen2 := hok2.len
    have hlen3 := hbk.len
    -- behind the gap
    have gap : ∀ b : Bool, ∀ D : Ends, (∀ σ' H', (∃ (tx : List Nat) (ps : List PC) (dl : Addr) (xs : List V) (x3 x4 x5 x6 : Option V), σ' = [some (.ref a), some (vS tx), some (.ref dl), x3, x4, x5, x6, none, none] ∧ Same H H' ∧ H' dl = some (.lst xs) ∧ DnAll (dif H H') xs (ps.map dP) ∧ TxOk tx ps (t + 1)) → D.nx σ' H') →
        tSeq (tAsg (tOp (fun x y H Q => ∃ i j, x = .str i ∧ y = .str j ∧ i.length + j.length ≤ sizeLine ∧ Q (.str (i ++ j)) H) (tOp (fun x y H Q => ∃ i j, x = .str i ∧ y = .str j ∧ i.length + j.length ≤ sizeLine ∧ Q (.str (i ++ j)) H) (tVar 1) (tVar 6)) (tOp (rIxT K) (tVar 5) (tC (.int 0)))) (gName 1))
          (tAsg (tOp rCat (tOp rCat (tVar 2) (tOp rRep (tLst (tCons (tTup (tCons (tC (.str "plain")) (tCons (tVar 6) tNil))) tNil)) (tCB (fun xs H Q => ∃ z, xs = [.str z] ∧ z.length ≤ sizeLine ∧ Q (.int z.length) H) (tCons (tVar 6) tNil)))) (tOp (rIxT K) (tVar 5) (tC (.int 1)))) (gName 2))
          D [some (.ref a), some (vS tx), some (.ref dl), some (.int (0 + (t : Int))), some (.int cl), some (.ref tp), some (vS (gapT b)), none, none] H3 := by
      intro b D hD
      have hgl : (gapT b).length ≤ 1 := by cases b <;> decide
      refine ⟨_, rfl, _, rfl, _, _, rfl, rfl, by rw [S_len, S_len, hs]; omega, ?_⟩
      rw [S_app]
      refine ev_ixT (ev_v rfl) ev_c (SqT.of et3) (atI_nat (j := 0) rfl) _ ⟨_, _, rfl, rfl, by rw [S_len, S_len, hs, List.length_append]; omega, ?_⟩
      rw [S_app]
      dsimp only [gName, List.set_cons_succ, List.set_cons_zero]
      refine ⟨_, rfl, _, rfl, big (show (2 : Nat) ≤ 1000000 by decide), fun tt htt => ⟨big (show (1 : Nat) ≤ 1000000 by decide), fun o ho => ?_⟩⟩
      obtain ⟨sO, dO⟩ := rep_told (l := gapT b) s23 (by cases b <;> (unfold Asc; decide)) (by omega) htt ho
      have eO : upd (upd H3 tt (.tup [V.str "plain", vS (gapT b)])) o (.lst [V.ref tt]) o = some (.lst [.ref tt]) := upd_same
      generalize upd (upd H3 tt (.tup [V.str "plain", vS (gapT b)])) o (.lst [V.ref tt]) = H4 at sO dO eO ⊢
      refine ⟨_, rfl, _, rfl, bigS (by omega), ?_⟩
      refine ⟨o, ((gapT b).length : Int), [.ref tt], rfl, by rw [S_len], eO, by omega, by omega, by rw [Int.toNat_natCast, hs]; show 1 * _ ≤ _; omega, fun p4 hp4 => ?_⟩
      rw [Int.toNat_natCast]
      have hrep : (List.replicate (gapT b).length [V.ref tt]).flatten = if b then [.ref tt] else [] := by cases b <;> rfl
      rw [hrep]
      have s4 := same_new hp4 (.lst (if b = true then [V.ref tt] else []))
      have e4 : upd H4 p4 (.lst (if b = true then [V.ref tt] else [])) p4 = some (.lst (if b = true then [V.ref tt] else [])) := upd_same
      have d4 : DnAll (dif H (upd H4 p4 (.lst (if b = true then [V.ref tt] else [])))) (if b = true then [V.ref tt] else []) ((gapP b).map dP) := by
        cases b with
        | true => exact .cons (dO.same (dif_grow (Same.refl _) s4)) .nil
        | false => exact .nil
      have l4 : (if b = true then [V.ref tt] else []).length ≤ 1 := by cases b <;> simp
      generalize (if b = true then [V.ref tt] else []) = ys at s4 e4 d4 l4 ⊢
      generalize upd H4 p4 (.lst ys) = H5 at s4 e4 d4 ⊢
      have s35 := sO.trans s4
      refine ⟨dl, p4, xs, ys, rfl, rfl, s35 _ _ (s3 _ _ e2), e4, by rw [hs]; omega, fun p5 hp5 => ?_⟩
      have s5 := same_new hp5 (.lst (xs ++ ys))
      have e5 : upd H5 p5 (.lst (xs ++ ys)) p5 = some (.lst (xs ++ ys)) := upd_same
      generalize upd H5 p5 (.lst (xs ++ ys)) = H6 at s5 e5 ⊢
      have s36 := s35.trans s5
      refine ev_ixT (ev_v rfl) ev_c (SqT.of (s36 _ _ et3)) (atI_nat (j := 1) rfl) _ ⟨p5, l3, xs ++ ys, xs3, rfl, rfl, e5, s36 _ _ el3, by rw [hs, List.length_append]; omega, fun p6 hp6 => ?_⟩
      have s6 := same_new hp6 (.lst (xs ++ ys ++ xs3))
      have s37 := s36.trans s6
      dsimp only [gName, List.set_cons_succ, List.set_cons_zero]
      refine hD _ _ ⟨tx ++ gapT b ++ raw, ps ++ gapP b ++ p2, p6, xs ++ ys ++ xs3, _, _, _, _, rfl, s23.trans s37, upd_same, ?_, hok2.add hbk b⟩
      rw [List.map_append, List.map_append]
      exact ((hd2.same (dif_grow (Same.refl _) (s3.trans s37))).app (d4.same (dif_grow (Same.refl _) (s5.trans s6)))).app (dl3.same (dif_grow s2 s37))
    by_cases htz : 0 + (t : Int) > 0
    · refine ⟨_, rfl, _, _, rfl, rfl, _, rfl, ?_⟩
      rw [decide_eq_true htz]
      refine iteT ?_
      refine ⟨_, rfl, _, rfl, _, _, rfl, rfl, cl, 0 + (t : Int) + 20, rfl, hcl, by omega, by omega, _, _, rfl, rfl, show (0 : Int) < 2 by decide, rfl, .inr ⟨_, rfl, _, _, rfl, rfl, rfl, ?_, ?_, ?_⟩⟩
      · split <;> decide
      · split <;> decide
      rw [mul1]
      exact gap _ _ fun σ' H' h => h
    · refine ⟨_, rfl, _, _, rfl, rfl, _, rfl, ?_⟩
      rw [decide_eq_false htz]
      refine iteF ?_
      refine .inr ⟨_, rfl, _, _, rfl, rfl, rfl, ?_, ?_, ?_⟩
      · decide
      · decide
      rw [mul1]
      exact gap false _ fun σ' H' h => h
  · rintro σ H2 ⟨tx, ps, dl, xs, x3, x4, x5, x6, rfl, s2, e2, hd2, hok2⟩
    refine ⟨_, rfl, a, ns, 9, rfl, by decide, s2.seq hq, hb, fun cl hcl => ?_⟩
    dsimp only [gName, List.set_cons_succ, List.set_cons_zero]
    refine ⟨big (show (11 : Nat) ≤ 1000000 by decide), fun o ho => ?_⟩
    obtain ⟨j, hj, hjl⟩ : ∃ j : Nat, cl % 11 = (j : Int) ∧ j < lastL.length := ⟨(cl % 11).toNat, by omega, by show _ < 11; omega⟩
    have hat : atI (lastL.map vS) (cl % 11) = some (vS lastL[j]) := by
      rw [hj]
      exact atI_nat (by rw [List.getElem?_map, List.getElem?_eq_getElem hjl]; rfl)
    have so := same_new ho (.lst (lastL.map vS))
    refine ⟨_, rfl, _, _, rfl, rfl, show (0 : Int) < 11 by decide, o, lastL.map vS, _, vS lastL[j], rfl, rfl, SqL.of upd_same, hat, ?_⟩
    dsimp only [gName, List.set_cons_succ, List.set_cons_zero]
    have hlm : lastL[j] ∈ lastL := List.getElem_mem hjl
    have s3 : Same H (upd H2 o (.lst (lastL.map vS))) := s2.trans so
    have e3 : upd H2 o (.lst (lastL.map vS)) dl = some (.lst xs) := so _ _ e2
    have hd3 : DnAll (dif H (upd H2 o (.lst (lastL.map vS)))) xs (ps.map dP) := hd2.same (dif_grow (Same.refl _) so)
    show tSeq _ _ _ _ (upd H2 o (.lst (lastL.map vS)))
    generalize upd H2 o (.lst (lastL.map vS)) = H3 at s3 e3 hd3 ⊢
    generalize lastL[j] = l at hlm ⊢
    obtain ⟨f1, f2⟩ := last_facts l hlm
    obtain ⟨hp, hokF, hlF, hszF, htl, hta, hokJ, hsumJ⟩ := hok2.fin hcnt7.1 hcnt7.2 hlm
    have hlen2 := hok2.len
    have hn2 := hok2.n
    have hxl : xs.length = ps.length := by rw [hd2.len, List.length_map]
    refine ⟨_, rfl, _, rfl, _, _, rfl, rfl, by rw [S_len, S_len, hs]; omega, ?_⟩
    rw [S_app]
    dsimp only [gName, List.set_cons_succ, List.set_cons_zero]
    refine ⟨_, rfl, _, rfl, big (show (2 : Nat) ≤ 1000000 by decide), fun tt htt => ⟨big (show (1 : Nat) ≤ 1000000 by decide), fun o2 ho2 => ?_⟩⟩
    obtain ⟨sO, dO⟩ := rep_told (l := l) s3 f1 (by omega) htt ho2
    have eO : upd (upd H3 tt (.tup [V.str "plain", vS l])) o2 (.lst [V.ref tt]) o2 = some (.lst [.ref tt]) := upd_same
    generalize upd (upd H3 tt (.tup [V.str "plain", vS l])) o2 (.lst [V.ref tt]) = H4 at sO dO eO ⊢
    refine ⟨_, rfl, rfl, .inr ⟨_, rfl, ?_⟩⟩
    have hbl : (!decide (vS l = V.str "")) = !l.isEmpty := by
      cases l with
      | nil => rfl
      | cons x r =>
        rw [decide_eq_false]
        · rfl
        · intro z
          have := S_inj (show S (x :: r) = S [] from V.str.inj z)
          cases this
    rw [hbl]
    refine ⟨o2, _, [.ref tt], rfl, rfl, eO, by split <;> decide, by split <;> decide, by rw [hs]; split <;> simp, fun p4 hp4 => ?_⟩
    have hrep : (List.replicate (if (!l.isEmpty) = true then (1 : Int) else 0).toNat [V.ref tt]).flatten = if l.isEmpty then [] else [.ref tt] := by cases l <;> rfl
    rw [hrep]
    have s4 := same_new hp4 (.lst (if l.isEmpty = true then [] else [V.ref tt]))
    have e4 : upd H4 p4 (.lst (if l.isEmpty = true then [] else [V.ref tt])) p4 = some (.lst (if l.isEmpty = true then [] else [V.ref tt])) := upd_same
    have d4 : DnAll (dif H (upd H4 p4 (.lst (if l.isEmpty = true then [] else [V.ref tt])))) (if l.isEmpty = true then [] else [V.ref tt]) ((lastP l).map dP) := by
      cases l with
      | nil => exact .nil
      | cons x r => exact .cons (dO.same (dif_grow (Same.refl _) s4)) .nil
    have l4 : (if l.isEmpty = true then [] else [V.ref tt]).length ≤ 1 := by split <;> simp
    generalize (if l.isEmpty = true then [] else [V.ref tt]) = ys at s4 e4 d4 l4 ⊢
    generalize upd H4 p4 (.lst ys) = H5 at s4 e4 d4 ⊢
    have s35 := sO.trans s4
    refine ⟨dl, p4, xs, ys, rfl, rfl, s35 _ _ e3, e4, by rw [hs]; omega, fun p5 hp5 => ?_⟩
    have s5 := same_new hp5 (.lst (xs ++ ys))
    have e5 : upd H5 p5 (.lst (xs ++ ys)) p5 = some (.lst (xs ++ ys)) := upd_same
    have d5 : DnAll (dif H (upd H5 p5 (.lst (xs ++ ys)))) (xs ++ ys) ((ps ++ lastP l).map dP) := by
      rw [List.map_append]
      exact (hd3.same (dif_grow (Same.refl _) (s35.trans s5))).app (d4.same (dif_grow (Same.refl _) s5))
    generalize upd H5 p5 (.lst (xs ++ ys)) = H6 at s5 e5 d5 ⊢
    have s06 := (s3.trans s35).trans s5
    refine ⟨H, p5, xs ++ ys, ps ++ lastP l, rfl, s06, e5, d5, hokF, hlF, hszF, fun r zs H7 s7 hr0 er dr => ?_⟩
    dsimp only [gName, List.set_cons_succ, List.set_cons_zero]
    have s07 := s06.trans s7
    rw [← hp] at dr hokJ hsumJ
    have hDl := len_sz hokJ
    have hdue : Dn H7 (.ref r) (.list ((partsC (tx ++ l)).map dP)) := .lst er (dr.same dif_same) (by rw [dr.len, List.length_map]; omega)
    refine ⟨_, rfl, tx ++ l, rfl, htl, hta, fun pl as H8 s8 hpl e8 k8 => ?_⟩
    dsimp only [gName, List.set_cons_succ, List.set_cons_zero]
    have hal := k8.len
    have tab8 : Tab Pt qsRight H8 := Tab.new ((s07.trans s8) _ _ eP)
    generalize hDD : partsC (tx ++ l) = DD at hp k8 hdue hokJ hsumJ hDl hal ⊢
    refine ⟨_, rfl, _, _, _, _, rfl, .lst e8, kit_same _ _, _, rfl, ?_⟩
    refine ite2 (fun z => Bool.noConfusion z) (fun _ => ?_)
    refine ⟨_, rfl, _, rfl, pl, r, as, DD, [60], rfl, by decide, by unfold Asc; decide, e8, k8.same dif_same, hdue.same s8, hokJ, hsumJ, tab8, fun H9 ks9 tab9 => ⟨_, rfl, ?_⟩⟩
    refine ite2 (fun z => Bool.noConfusion z) (fun _ => ?_)
    refine ⟨[], rfl, by decide, (fun _ z => nomatch z), fun r2 as2 HA sA hr2 eA kA => ?_⟩
    have has2 : as2 = [] := by
      have h0 : partsC [] = [] := by unfold partsC; rw [pieces_nil]; rfl
      rw [h0] at kA
      exact List.eq_nil_of_length_eq_zero kA.len
    subst has2
    refine ⟨big (show (0 : Nat) ≤ 1000000 by decide), fun o9 ho9 => ?_⟩
    have s9 := same_new ho9 (.lst [])
    refine ⟨r2, o9, _, rfl, rfl, SqL.of (s9 _ _ eA), SqL.of upd_same, _, rfl, ?_⟩
    refine ite2 (fun z => Bool.noConfusion z) (fun _ => ?_)
    have sAB := sA.trans s9
    generalize upd HA o9 (.lst []) = HB at s9 sAB ⊢
    have epl : HB pl = some (.lst (as.map V.ref)) := sAB _ _ (ks9 _ _ Kd.lst e8)
    refine ⟨_, rfl, .inl ⟨rfl, _, SqL.of epl⟩, pl, _, _, rfl, rfl, epl, by rw [List.length_map, hs]; omega, ?_⟩
    have ksB : KS H7 (upd HB pl (.lst (as.map V.ref ++ [V.non]))) := fun b ob kb h => by
      refine (upd_ne fun z => ?_).trans (sAB _ _ (ks9 _ _ kb (s8 _ _ h)))
      rw [z, hpl] at h
      cases h
    have tabB : Tab Pt qsRight (upd HB pl (.lst (as.map V.ref ++ [V.non]))) := (tab9.keep sAB).keepW fun b ob hob h => by
      refine (upd_ne fun z => ?_).trans h
      rw [z, epl] at h
      cases h
      exact hob _ rfl
    generalize upd HB pl (.lst (as.map V.ref ++ [V.non])) = HC at ksB tabB ⊢
    refine ⟨_, rfl, tx ++ l, rfl, htl, hta, fun pl2 as3 HD sD hpl2 eD kD => ?_⟩
    rw [hDD] at kD
    exact ⟨_, rfl, pl2, r, as3, DD, [103, 111, 101, 115, 32], rfl, by decide, by unfold Asc; decide, eD, kD.same dif_same, dn_ks (ksB.trans (KS.of sD)) hdue, hokJ, hsumJ, tabB.keep sD, fun H' _ _ => q H'⟩
end
end K4

set_option Elab.async false
set_option linter.all false
set_option maxRecDepth 100000
set_option maxHeartbeats 4000000
namespace K4
open PySem L2 Lm Lw
structure FnIn (K : PySem.W.Frag) (x : Str) (st : Stmt) (p : Value → Prop) : Prop where
  ex : ∃ (f : Addr) (oc : Value) (od : Option Addr) (kV dc pm : Value) (an : Option Addr) (cd ct : Value) (sl : Array (Option Value)), PySem.W.nsIn K mainGlobals x = some (some (.ref f)) ∧
    K.lookup f = some ⟨oc, od, .func (PySem.W.fnOf x x (defArgs st) (defBody st) (defScope st) .none kV dc pm an cd ct), sl⟩ ∧ PySem.W.codeIn K cd x = true ∧ PySem.W.keepIn K (.ref f) = true ∧ p cd
theorem fnIn_mk {K : PySem.W.Frag} {x : Str} {st : Stmt} {p : Value → Prop} {f : Addr} {oc : Value} {od : Option Addr} {kV dc pm : Value} {an : Option Addr} {cd ct : Value} {sl : Array (Option Value)} (a : PySem.W.nsIn K mainGlobals x = some (some (.ref f)))
    (l : K.lookup f = some ⟨oc, od, .func (PySem.W.fnOf x x (defArgs st) (defBody st) (defScope st) .none kV dc pm an cd ct), sl⟩) (c : PySem.W.codeIn K cd x = true) (k : PySem.W.keepIn K (.ref f) = true) (q : p cd) : FnIn K x st p :=
  ⟨f, oc, od, kV, dc, pm, an, cd, ct, sl, a, l, c, k, q⟩
theorem FnIn.drop {K : PySem.W.Frag} {Ps : List Addr} {x : Str} {st : Stmt} {p : Value → Prop} (h : Tabs0 K Ps) (F : FnIn K x st p) : FnIn (dropK K Ps) x st p := by
  obtain ⟨f, oc, od, kV, dc, pm, an, cd, ct, sl, a, l, c, kp, q⟩ := F.ex
  have l' : (dropK K Ps).lookup f = some ⟨oc, od, .func (PySem.W.fnOf x x (defArgs st) (defBody st) (defScope st) .none kV dc pm an cd ct), sl⟩ := dropK_other h l (fun z => by injection z with _ _ z _; cases z)
  refine ⟨f, oc, od, kV, dc, pm, an, cd, ct, sl, by rw [nsIn_drop h]; exact a, l', by rw [codeIn_drop h]; exact c, ?_, q⟩
  show (match (dropK K Ps).lookup f with | some ⟨_, _, .func _, _⟩ => true | some ⟨_, _, .cls _, _⟩ => PySem.W.specialIn (dropK K Ps) (.ref f) "__call__" == some (some (.builtin "type.__call__")) | _ => false) = true
  rw [l']
section
variable {P : Program} {w : World} {K : PySem.W.Frag} {h : Heap} {mg : Str → Option Value} {base : Heap} {x : Str} {st : Stmt} {ps : List Str} {k : Nat} {sp : Sp}
theorem def_of {p : Value → Prop} (X : K.In h) (G : h.Ns mainGlobals mg) (F : FnIn K x st p)
    (hb : ∀ (kV doc pm : Value) (an : Option Addr) (cdv ct : Value) (us : List Value), us.length = ps.length → bindArgs (PySem.W.fnOf x x (defArgs st) (defBody st) (defScope st) .none kV doc pm an cdv ct) ⟨us, []⟩ = pure (ps.zip us))
    (ok : ∀ f fd, Fun K x x st f fd → p fd.code → FnOk P w K mg base CX0 k f fd ps sp) : Def P w K mg base k x ps sp := by
  obtain ⟨f, oc, od, kV, dc, pm, an, cd, ct, sl, a, l, c, kp, q⟩ := F.ex
  have F1 := fun_mk (st := st) l c kp
  exact ⟨f, _, ok f _ F1 q, PySem.W.mg_of X G a, F1.kp, F1.binds hb⟩
theorem mg_fn {p : Value → Prop} (X : K.In h) (G : h.Ns mainGlobals mg) (F : FnIn K x st p) : ∃ f, mg x = some (.ref f) ∧ PySem.W.keepIn K (.ref f) = true := by
  obtain ⟨f, oc, od, kV, dc, pm, an, cd, ct, sl, a, l, c, kp, q⟩ := F.ex
  exact ⟨f, PySem.W.mg_of X G a, kp⟩
end
/-- never called -/
def spNo : Sp := fun _ _ _ _ => False
theorem ok_no {P : Program} {w : World} {K : PySem.W.Frag} {mg : Str → Option Value} {base : Heap} {k : Nat} {ps : List Str} {CX : CXT} {f : Addr} {fd : FuncData} : FnOk P w K mg base CX k f fd ps spNo := ⟨fun _ _ _ _ z => z.elim, fun _ _ _ _ _ _ _ _ _ _ _ _ _ z => z.elim⟩
theorem cst_mk {K : PySem.W.Frag} {x : Str} {p : Value → Prop} {v : Value} (e : PySem.W.nsIn K mainGlobals x = some (some v)) (f : p v) : ∃ v, PySem.W.nsIn K mainGlobals x = some (some v) ∧ p v := ⟨v, e, f⟩
theorem ownx_VE {K : PySem.W.Frag} {C : Addr} (q : PySem.W.excIn K C [.type "ValueError", .type "Exception", .type "BaseException", .type "object"] "ValueError.__new__" = true) : OwnX K C := ⟨_, _, _, _, q, PySem.F.excBase_ValueError⟩
/-- a method, as the fragment knows it -/
structure MIn (K : PySem.W.Frag) (C : Addr) (x qual : Str) (st : Stmt) : Prop where
  ex : ∃ (f : Addr) (oc : Value) (od : Option Addr) (kV dc pm : Value) (an : Option Addr) (cd ct : Value) (sl : Array (Option Value)), PySem.W.findIn K (.ref C) x = some (some (.ref f)) ∧ PySem.W.isFn K (.ref f) = true ∧
    K.lookup f = some ⟨oc, od, .func (PySem.W.fnOf x qual (defArgs st) (defBody st) (defScope st) .none kV dc pm an cd ct), sl⟩ ∧ PySem.W.codeIn K cd qual = true ∧ PySem.W.keepIn K (.ref f) = true
theorem new_of {P : Program} {w : World} {K : PySem.W.Frag} {mg : Str → Option Value} {base : Heap} {x qual : Str} {C : Addr} {st : Stmt} {ps : List Str} {k : Nat} {sp : Sp} (hm : mg x = some (.ref C)) (mk : PySem.W.makesIn K C = true) (kc : PySem.W.keepIn K (.ref C) = true) (M : MIn K C "__init__" qual st)
    (hb : ∀ (kV doc pm : Value) (an : Option Addr) (cdv ct : Value) (us : List Value), us.length = ps.length → bindArgs (PySem.W.fnOf "__init__" qual (defArgs st) (defBody st) (defScope st) .none kV doc pm an cdv ct) ⟨us, []⟩ = pure (ps.zip us))
    (ok : ∀ f fd, Fun K "__init__" qual st f fd → FnOk P w K mg base CX0 k f fd ps sp) : New P w K mg base k x C ps sp := by
  obtain ⟨f, oc, od, kV, dc, pm, an, cd, ct, sl, a, i, l, c, kp⟩ := M.ex
  have F1 := fun_mk (st := st) l c kp
  exact ⟨f, _, ⟨mk, a, i, kc⟩, ok f _ F1, hm, F1.binds hb⟩
theorem meth_of {P : Program} {w : World} {K : PySem.W.Frag} {mg : Str → Option Value} {base : Heap} {x qual : Str} {C : Addr} {st : Stmt} {ps : List Str} {k : Nat} {sp : Sp} (hc : Cls K C) (M : MIn K C x qual st)
    (hb : ∀ (kV doc pm : Value) (an : Option Addr) (cdv ct : Value) (us : List Value), us.length = ps.length → bindArgs (PySem.W.fnOf x qual (defArgs st) (defBody st) (defScope st) .none kV doc pm an cdv ct) ⟨us, []⟩ = pure (ps.zip us))
    (ok : ∀ f fd, Fun K x qual st f fd → FnOk P w K mg base CX0 k f fd ps sp) : MethV P w K mg base k C x ps sp := by
  obtain ⟨f, oc, od, kV, dc, pm, an, cd, ct, sl, a, i, l, c, kp⟩ := M.ex
  have F1 := fun_mk (st := st) l c kp
  exact ⟨f, _, hc, ⟨a, i, kp⟩, ok f _ F1, F1.binds hb⟩
/-- a method, of the whole part, and found in the rest of it -/
structure MIn2 (K K2 : PySem.W.Frag) (C : Addr) (x qual : Str) (st : Stmt) : Prop where
  ex : ∃ (f : Addr) (oc : Value) (od : Option Addr) (kV dc pm : Value) (an : Option Addr) (cd ct : Value) (sl : Array (Option Value)), PySem.W.findIn K2 (.ref C) x = some (some (.ref f)) ∧ PySem.W.isFn K2 (.ref f) = true ∧
    K.lookup f = some ⟨oc, od, .func (PySem.W.fnOf x qual (defArgs st) (defBody st) (defScope st) .none kV dc pm an cd ct), sl⟩ ∧ PySem.W.codeIn K cd qual = true
theorem mIn2_mk {K K2 : PySem.W.Frag} {C : Addr} {x qual : Str} {st : Stmt} {f : Addr} {oc : Value} {od : Option Addr} {kV dc pm : Value} {an : Option Addr} {cd ct : Value} {sl : Array (Option Value)} (_ : PySem.W.findIn K (.ref C) x = some (some (.ref f)))
    (l : K.lookup f = some ⟨oc, od, .func (PySem.W.fnOf x qual (defArgs st) (defBody st) (defScope st) .none kV dc pm an cd ct), sl⟩) (c : PySem.W.codeIn K cd qual = true) (a2 : PySem.W.findIn K2 (.ref C) x = some (some (.ref f))) (i2 : PySem.W.isFn K2 (.ref f) = true) : MIn2 K K2 C x qual st :=
  ⟨f, oc, od, kV, dc, pm, an, cd, ct, sl, a2, i2, l, c⟩
theorem MIn2.to {K : PySem.W.Frag} {Ps : List Addr} {C : Addr} {x qual : Str} {st : Stmt} (h : Tabs0 K Ps) (M : MIn2 K (dropK K Ps) C x qual st) : MIn (dropK K Ps) C x qual st := by
  obtain ⟨f, oc, od, kV, dc, pm, an, cd, ct, sl, a, i, l, c⟩ := M.ex
  have l' : (dropK K Ps).lookup f = some ⟨oc, od, .func (PySem.W.fnOf x qual (defArgs st) (defBody st) (defScope st) .none kV dc pm an cd ct), sl⟩ := dropK_other h l (fun z => by injection z with _ _ z _; cases z)
  refine ⟨f, oc, od, kV, dc, pm, an, cd, ct, sl, a, i, l', by rw [codeIn_drop h]; exact c, ?_⟩
  show (match (dropK K Ps).lookup f with | some ⟨_, _, .func _, _⟩ => true | some ⟨_, _, .cls _, _⟩ => PySem.W.specialIn (dropK K Ps) (.ref f) "__call__" == some (some (.builtin "type.__call__")) | _ => false) = true
  rw [l']
/-- a class of parts -/
structure PIn (K : PySem.W.Frag) (C : Addr) : Prop where
  mkc : PySem.W.makesIn K C = true
  kc : PySem.W.keepIn K (.ref C) = true
  pg : PySem.W.plainGet K C Str.empty = true
  hd : PySem.W.hasDictIn K C = true
  po : PySem.W.plainOver K C = true
  sa : PySem.W.findIn K (.ref C) "__setattr__" = some (some (.builtin "object.__setattr__"))
  ha : PySem.W.findIn K (.ref C) "__class__" = some (some (.builtin "object.__class__"))
  hn : PySem.W.specialIn K (.builtin "object.__class__") "__get__" = some (some (.builtin "getset_descriptor.__get__"))
  ht : PySem.W.takesIn K (.builtin "object.__class__") = some true
  hm : PySem.W.mroIn K C (.type "object") = some true
theorem PIn.cls {K : PySem.W.Frag} {C : Addr} (p : PIn K C) : Cls K C := ⟨p.pg, p.hd, p.po, p.sa⟩
theorem PIn.inst {K : PySem.W.Frag} {C : Addr} (p : PIn K C) : Inst K C := ⟨p.cls, p.ha, p.hn, p.ht, p.hm⟩
structure Addrs where
  BadName : Addr
  Plain : Addr
  Code : Addr
  Strong : Addr
  Link : Addr
  Mark : Addr
  Part : Addr
structure ClsT (K2 : PySem.W.Frag) (c : Addrs) : Prop where
  c_BadName : PySem.W.nsIn K2 mainGlobals "BadName" = some (some (.ref c.BadName))
  c_Plain : PySem.W.nsIn K2 mainGlobals "Plain" = some (some (.ref c.Plain))
  c_Code : PySem.W.nsIn K2 mainGlobals "Code" = some (some (.ref c.Code))
  c_Strong : PySem.W.nsIn K2 mainGlobals "Strong" = some (some (.ref c.Strong))
  c_Link : PySem.W.nsIn K2 mainGlobals "Link" = some (some (.ref c.Link))
  c_Mark : PySem.W.nsIn K2 mainGlobals "Mark" = some (some (.ref c.Mark))
  c_Part : PySem.W.nsIn K2 mainGlobals "Part" = some (some (.ref c.Part))
  x_BadName : OwnX K2 c.BadName
  p_Plain : PIn K2 c.Plain
  n_Plain_signs : PySem.W.findIn K2 (.ref c.Plain) "signs" = some none
  j_Plain_Plain : PySem.W.kitOne K2 (.ref c.Plain) (.ref c.Plain) = some true
  j_Plain_Code : PySem.W.kitOne K2 (.ref c.Plain) (.ref c.Code) = some false
  j_Plain_Strong : PySem.W.kitOne K2 (.ref c.Plain) (.ref c.Strong) = some false
  j_Plain_Link : PySem.W.kitOne K2 (.ref c.Plain) (.ref c.Link) = some false
  j_Plain_Mark : PySem.W.kitOne K2 (.ref c.Plain) (.ref c.Mark) = some false
  j_Plain_Part : PySem.W.kitOne K2 (.ref c.Plain) (.ref c.Part) = some true
  s_Plain : PySem.W.kitOne K2 (.ref c.Plain) (.type "str") = some false
  p_Code : PIn K2 c.Code
  n_Code_signs : PySem.W.findIn K2 (.ref c.Code) "signs" = some none
  j_Code_Plain : PySem.W.kitOne K2 (.ref c.Code) (.ref c.Plain) = some false
  j_Code_Code : PySem.W.kitOne K2 (.ref c.Code) (.ref c.Code) = some true
  j_Code_Strong : PySem.W.kitOne K2 (.ref c.Code) (.ref c.Strong) = some false
  j_Code_Link : PySem.W.kitOne K2 (.ref c.Code) (.ref c.Link) = some false
  j_Code_Mark : PySem.W.kitOne K2 (.ref c.Code) (.ref c.Mark) = some false
  j_Code_Part : PySem.W.kitOne K2 (.ref c.Code) (.ref c.Part) = some true
  s_Code : PySem.W.kitOne K2 (.ref c.Code) (.type "str") = some false
  p_Strong : PIn K2 c.Strong
  n_Strong_parts : PySem.W.findIn K2 (.ref c.Strong) "parts" = some none
  j_Strong_Plain : PySem.W.kitOne K2 (.ref c.Strong) (.ref c.Plain) = some false
  j_Strong_Code : PySem.W.kitOne K2 (.ref c.Strong) (.ref c.Code) = some false
  j_Strong_Strong : PySem.W.kitOne K2 (.ref c.Strong) (.ref c.Strong) = some true
  j_Strong_Link : PySem.W.kitOne K2 (.ref c.Strong) (.ref c.Link) = some false
  j_Strong_Mark : PySem.W.kitOne K2 (.ref c.Strong) (.ref c.Mark) = some false
  j_Strong_Part : PySem.W.kitOne K2 (.ref c.Strong) (.ref c.Part) = some true
  s_Strong : PySem.W.kitOne K2 (.ref c.Strong) (.type "str") = some false
  p_Link : PIn K2 c.Link
  n_Link_words : PySem.W.findIn K2 (.ref c.Link) "words" = some none
  n_Link_name : PySem.W.findIn K2 (.ref c.Link) "name" = some none
  j_Link_Plain : PySem.W.kitOne K2 (.ref c.Link) (.ref c.Plain) = some false
  j_Link_Code : PySem.W.kitOne K2 (.ref c.Link) (.ref c.Code) = some false
  j_Link_Strong : PySem.W.kitOne K2 (.ref c.Link) (.ref c.Strong) = some false
  j_Link_Link : PySem.W.kitOne K2 (.ref c.Link) (.ref c.Link) = some true
  j_Link_Mark : PySem.W.kitOne K2 (.ref c.Link) (.ref c.Mark) = some false
  j_Link_Part : PySem.W.kitOne K2 (.ref c.Link) (.ref c.Part) = some true
  s_Link : PySem.W.kitOne K2 (.ref c.Link) (.type "str") = some false
  p_Mark : PIn K2 c.Mark
  n_Mark_name : PySem.W.findIn K2 (.ref c.Mark) "name" = some none
  j_Mark_Plain : PySem.W.kitOne K2 (.ref c.Mark) (.ref c.Plain) = some false
  j_Mark_Code : PySem.W.kitOne K2 (.ref c.Mark) (.ref c.Code) = some false
  j_Mark_Strong : PySem.W.kitOne K2 (.ref c.Mark) (.ref c.Strong) = some false
  j_Mark_Link : PySem.W.kitOne K2 (.ref c.Mark) (.ref c.Link) = some false
  j_Mark_Mark : PySem.W.kitOne K2 (.ref c.Mark) (.ref c.Mark) = some true
  j_Mark_Part : PySem.W.kitOne K2 (.ref c.Mark) (.ref c.Part) = some true
  s_Mark : PySem.W.kitOne K2 (.ref c.Mark) (.type "str") = some false
  m_Plain_Init : MIn K2 c.Plain "__init__" "Plain.__init__" sPlainInit
  m_Plain_Told : MIn K2 c.Plain "told" "Plain.told" sPlainTold
  m_Plain_Said : MIn K2 c.Plain "said" "Plain.said" sPlainSaid
  m_Code_Init : MIn K2 c.Code "__init__" "Code.__init__" sCodeInit
  m_Code_Told : MIn K2 c.Code "told" "Code.told" sCodeTold
  m_Code_Said : MIn K2 c.Code "said" "Code.said" sCodeSaid
  m_Strong_Init : MIn K2 c.Strong "__init__" "Strong.__init__" sStrongInit
  m_Strong_Told : MIn K2 c.Strong "told" "Strong.told" sStrongTold
  m_Strong_Said : MIn K2 c.Strong "said" "Strong.said" sStrongSaid
  m_Link_Init : MIn K2 c.Link "__init__" "Link.__init__" sLinkInit
  m_Link_Told : MIn K2 c.Link "told" "Link.told" sLinkTold
  m_Link_Said : MIn K2 c.Link "said" "Link.said" sLinkSaid
  m_Mark_Init : MIn K2 c.Mark "__init__" "Mark.__init__" sMarkInit
  m_Mark_Told : MIn K2 c.Mark "told" "Mark.told" sMarkTold
  m_Mark_Said : MIn K2 c.Mark "said" "Mark.said" sMarkSaid
theorem cls_mk {K : PySem.W.Frag} {Ps : List Addr} (h : Tabs0 K Ps) {aBadName aPlain aCode aStrong aLink aMark aPart : Addr}
    (c_BadName : PySem.W.nsIn K mainGlobals "BadName" = some (some (.ref aBadName)))
    (c_Plain : PySem.W.nsIn K mainGlobals "Plain" = some (some (.ref aPlain)))
    (c_Code : PySem.W.nsIn K mainGlobals "Code" = some (some (.ref aCode)))
    (c_Strong : PySem.W.nsIn K mainGlobals "Strong" = some (some (.ref aStrong)))
    (c_Link : PySem.W.nsIn K mainGlobals "Link" = some (some (.ref aLink)))
    (c_Mark : PySem.W.nsIn K mainGlobals "Mark" = some (some (.ref aMark)))
    (c_Part : PySem.W.nsIn K mainGlobals "Part" = some (some (.ref aPart)))
    (x_BadName : OwnX (dropK K Ps) aBadName)
    (p_Plain : PIn (dropK K Ps) aPlain)
    (n_Plain_signs : PySem.W.findIn (dropK K Ps) (.ref aPlain) "signs" = some none)
    (j_Plain_Plain : PySem.W.kitOne (dropK K Ps) (.ref aPlain) (.ref aPlain) = some true)
    (j_Plain_Code : PySem.W.kitOne (dropK K Ps) (.ref aPlain) (.ref aCode) = some false)
    (j_Plain_Strong : PySem.W.kitOne (dropK K Ps) (.ref aPlain) (.ref aStrong) = some false)
    (j_Plain_Link : PySem.W.kitOne (dropK K Ps) (.ref aPlain) (.ref aLink) = some false)
    (j_Plain_Mark : PySem.W.kitOne (dropK K Ps) (.ref aPlain) (.ref aMark) = some false)
    (j_Plain_Part : PySem.W.kitOne (dropK K Ps) (.ref aPlain) (.ref aPart) = some true)
    (s_Plain : PySem.W.kitOne (dropK K Ps) (.ref aPlain) (.type "str") = some false)
    (p_Code : PIn (dropK K Ps) aCode)
    (n_Code_signs : PySem.W.findIn (dropK K Ps) (.ref aCode) "signs" = some none)
    (j_Code_Plain : PySem.W.kitOne (dropK K Ps) (.ref aCode) (.ref aPlain) = some false)
    (j_Code_Code : PySem.W.kitOne (dropK K Ps) (.ref aCode) (.ref aCode) = some true)
    (j_Code_Strong : PySem.W.kitOne (dropK K Ps) (.ref aCode) (.ref aStrong) = some false)
    (j_Code_Link : PySem.W.kitOne (dropK K Ps) (.ref aCode) (.ref aLink) = some false)
    (j_Code_Mark : PySem.W.kitOne (dropK K Ps) (.ref aCode) (.ref aMark) = some false)
    (j_Code_Part : PySem.W.kitOne (dropK K Ps) (.ref aCode) (.ref aPart) = some true)
    (s_Code : PySem.W.kitOne (dropK K Ps) (.ref aCode) (.type "str") = some false)
    (p_Strong : PIn (dropK K Ps) aStrong)
    (n_Strong_parts : PySem.W.findIn (dropK K Ps) (.ref aStrong) "parts" = some none)
    (j_Strong_Plain : PySem.W.kitOne (dropK K Ps) (.ref aStrong) (.ref aPlain) = some false)
    (j_Strong_Code : PySem.W.kitOne (dropK K Ps) (.ref aStrong) (.ref aCode) = some false)
    (j_Strong_Strong : PySem.W.kitOne (dropK K Ps) (.ref aStrong) (.ref aStrong) = some true)
    (j_Strong_Link : PySem.W.kitOne (dropK K Ps) (.ref aStrong) (.ref aLink) = some false)
    (j_Strong_Mark : PySem.W.kitOne (dropK K Ps) (.ref aStrong) (.ref aMark) = some false)
    (j_Strong_Part : PySem.W.kitOne (dropK K Ps) (.ref aStrong) (.ref aPart) = some true)
    (s_Strong : PySem.W.kitOne (dropK K Ps) (.ref aStrong) (.type "str") = some false)
    (p_Link : PIn (dropK K Ps) aLink)
    (n_Link_words : PySem.W.findIn (dropK K Ps) (.ref aLink) "words" = some none)
    (n_Link_name : PySem.W.findIn (dropK K Ps) (.ref aLink) "name" = some none)
    (j_Link_Plain : PySem.W.kitOne (dropK K Ps) (.ref aLink) (.ref aPlain) = some false)
    (j_Link_Code : PySem.W.kitOne (dropK K Ps) (.ref aLink) (.ref aCode) = some false)
    (j_Link_Strong : PySem.W.kitOne (dropK K Ps) (.ref aLink) (.ref aStrong) = some false)
    (j_Link_Link : PySem.W.kitOne (dropK K Ps) (.ref aLink) (.ref aLink) = some true)
    (j_Link_Mark : PySem.W.kitOne (dropK K Ps) (.ref aLink) (.ref aMark) = some false)
    (j_Link_Part : PySem.W.kitOne (dropK K Ps) (.ref aLink) (.ref aPart) = some true)
    (s_Link : PySem.W.kitOne (dropK K Ps) (.ref aLink) (.type "str") = some false)
    (p_Mark : PIn (dropK K Ps) aMark)
    (n_Mark_name : PySem.W.findIn (dropK K Ps) (.ref aMark) "name" = some none)
    (j_Mark_Plain : PySem.W.kitOne (dropK K Ps) (.ref aMark) (.ref aPlain) = some false)
    (j_Mark_Code : PySem.W.kitOne (dropK K Ps) (.ref aMark) (.ref aCode) = some false)
    (j_Mark_Strong : PySem.W.kitOne (dropK K Ps) (.ref aMark) (.ref aStrong) = some false)
    (j_Mark_Link : PySem.W.kitOne (dropK K Ps) (.ref aMark) (.ref aLink) = some false)
    (j_Mark_Mark : PySem.W.kitOne (dropK K Ps) (.ref aMark) (.ref aMark) = some true)
    (j_Mark_Part : PySem.W.kitOne (dropK K Ps) (.ref aMark) (.ref aPart) = some true)
    (s_Mark : PySem.W.kitOne (dropK K Ps) (.ref aMark) (.type "str") = some false)
    (m_Plain_Init : MIn2 K (dropK K Ps) aPlain "__init__" "Plain.__init__" sPlainInit)
    (m_Plain_Told : MIn2 K (dropK K Ps) aPlain "told" "Plain.told" sPlainTold)
    (m_Plain_Said : MIn2 K (dropK K Ps) aPlain "said" "Plain.said" sPlainSaid)
    (m_Code_Init : MIn2 K (dropK K Ps) aCode "__init__" "Code.__init__" sCodeInit)
    (m_Code_Told : MIn2 K (dropK K Ps) aCode "told" "Code.told" sCodeTold)
    (m_Code_Said : MIn2 K (dropK K Ps) aCode "said" "Code.said" sCodeSaid)
    (m_Strong_Init : MIn2 K (dropK K Ps) aStrong "__init__" "Strong.__init__" sStrongInit)
    (m_Strong_Told : MIn2 K (dropK K Ps) aStrong "told" "Strong.told" sStrongTold)
    (m_Strong_Said : MIn2 K (dropK K Ps) aStrong "said" "Strong.said" sStrongSaid)
    (m_Link_Init : MIn2 K (dropK K Ps) aLink "__init__" "Link.__init__" sLinkInit)
    (m_Link_Told : MIn2 K (dropK K Ps) aLink "told" "Link.told" sLinkTold)
    (m_Link_Said : MIn2 K (dropK K Ps) aLink "said" "Link.said" sLinkSaid)
    (m_Mark_Init : MIn2 K (dropK K Ps) aMark "__init__" "Mark.__init__" sMarkInit)
    (m_Mark_Told : MIn2 K (dropK K Ps) aMark "told" "Mark.told" sMarkTold)
    (m_Mark_Said : MIn2 K (dropK K Ps) aMark "said" "Mark.said" sMarkSaid)
    : ∃ c : Addrs, ClsT (dropK K Ps) c := ⟨⟨aBadName, aPlain, aCode, aStrong, aLink, aMark, aPart⟩, ⟨(by rw [nsIn_drop h]; exact c_BadName), (by rw [nsIn_drop h]; exact c_Plain), (by rw [nsIn_drop h]; exact c_Code), (by rw [nsIn_drop h]; exact c_Strong), (by rw [nsIn_drop h]; exact c_Link), (by rw [nsIn_drop h]; exact c_Mark), (by rw [nsIn_drop h]; exact c_Part), x_BadName, p_Plain, n_Plain_signs, j_Plain_Plain, j_Plain_Code, j_Plain_Strong, j_Plain_Link, j_Plain_Mark, j_Plain_Part, s_Plain, p_Code, n_Code_signs, j_Code_Plain, j_Code_Code, j_Code_Strong, j_Code_Link, j_Code_Mark, j_Code_Part, s_Code, p_Strong, n_Strong_parts, j_Strong_Plain, j_Strong_Code, j_Strong_Strong, j_Strong_Link, j_Strong_Mark, j_Strong_Part, s_Strong, p_Link, n_Link_words, n_Link_name, j_Link_Plain, j_Link_Code, j_Link_Strong, j_Link_Link, j_Link_Mark, j_Link_Part, s_Link, p_Mark, n_Mark_name, j_Mark_Plain, j_Mark_Code, j_Mark_Strong, j_Mark_Link, j_Mark_Mark, j_Mark_Part, s_Mark, m_Plain_Init.to h, m_Plain_Told.to h, m_Plain_Said.to h, m_Code_Init.to h, m_Code_Told.to h, m_Code_Said.to h, m_Strong_Init.to h, m_Strong_Told.to h, m_Strong_Said.to h, m_Link_Init.to h, m_Link_Told.to h, m_Link_Said.to h, m_Mark_Init.to h, m_Mark_Told.to h, m_Mark_Said.to h⟩⟩
structure Top (K : PySem.W.Frag) (cr : Addr) : Prop where
  f_told_parts : FnIn K "told_parts" sTolds (fun _ => True)
  f_said_of : FnIn K "said_of" sSaids (fun _ => True)
  f_is_name : FnIn K "is_name" sName (fun _ => True)
  f_name_of : FnIn K "name_of" sNameOf (fun _ => True)
  f_parts_of : FnIn K "parts_of" sPartsOf (fun _ => True)
  f_pieces_of : FnIn K "pieces_of" sPieces (fun _ => True)
  f_piece_at : FnIn K "piece_at" sPieceAt (fun _ => True)
  f_takes_next : FnIn K "takes_next" sTakes (fun _ => True)
  f_closings_of : FnIn K "closings_of" sClosings (fun _ => True)
  f_code_at : FnIn K "code_at" sCodeAt (fun _ => True)
  f_mark_at : FnIn K "mark_at" sMarkAt (fun _ => True)
  f_link_at : FnIn K "link_at" sLinkAt (fun _ => True)
  f_freed : FnIn K "freed" sFreed (fun _ => True)
  f_with_strong : FnIn K "with_strong" sStrongs (fun _ => True)
  f_merged : FnIn K "merged" sMerged (fun _ => True)
  f__law_cell : FnIn K "_law_cell" sCell (fun _ => True)
  f__law_mixed : FnIn K "_law_mixed" sMixed (fun _ => True)
  f__law_menu : FnIn K "_law_menu" sMenu (fun _ => True)
  f__law_signs : FnIn K "_law_signs" sSigns (fun _ => True)
  f__law_text : FnIn K "_law_text" sText (fun _ => True)
  f__law_name : FnIn K "_law_name" sName7 (fun _ => True)
  f__law_joined : FnIn K "_law_joined" sJoined (fun _ => True)
  f__law_said : FnIn K "_law_said" sLSaid (fun _ => True)
  f__law_shape : FnIn K "_law_shape" sShape (fun _ => True)
  f__law_linked : FnIn K "_law_linked" sLinked (fun _ => True)
  f__law_simple : FnIn K "_law_simple" sSimple (fun _ => True)
  f__law_piece : FnIn K "_law_piece" sPiece (fun _ => True)
  f__law_class : FnIn K "_law_class" sClass (fun _ => True)
  f__law_right : FnIn K "_law_right" sRight (fun cd => cd = .ref cr)
  f_law : FnIn K "law" sLaw (fun _ => True)
  n_list : PySem.W.nsIn K mainGlobals "list" = some none
  n_len : PySem.W.nsIn K mainGlobals "len" = some none
  n_isinstance : PySem.W.nsIn K mainGlobals "isinstance" = some none
  n_all : PySem.W.nsIn K mainGlobals "all" = some none
  n_str : PySem.W.nsIn K mainGlobals "str" = some none
  n_tuple : PySem.W.nsIn K mainGlobals "tuple" = some none
  n_range : PySem.W.nsIn K mainGlobals "range" = some none
  n_int : PySem.W.nsIn K mainGlobals "int" = some none
  g_NAME_SIGNS : ∃ v, PySem.W.nsIn K mainGlobals "NAME_SIGNS" = some (some v) ∧ ∃ t, v = .str (S nameSigns) t
  g_LONGEST_NAME : ∃ v, PySem.W.nsIn K mainGlobals "LONGEST_NAME" = some (some v) ∧ ∃ t, v = .int 12 t
  g_TAKEN : ∃ v, PySem.W.nsIn K mainGlobals "TAKEN" = some (some v) ∧ ∃ t, v = .str (S takenC) t
theorem Top.drop {K : PySem.W.Frag} {Ps : List Addr} {cr : Addr} (h : Tabs0 K Ps) (t : Top K cr) : Top (dropK K Ps) cr where
  f_told_parts := t.f_told_parts.drop h
  f_said_of := t.f_said_of.drop h
  f_is_name := t.f_is_name.drop h
  f_name_of := t.f_name_of.drop h
  f_parts_of := t.f_parts_of.drop h
  f_pieces_of := t.f_pieces_of.drop h
  f_piece_at := t.f_piece_at.drop h
  f_takes_next := t.f_takes_next.drop h
  f_closings_of := t.f_closings_of.drop h
  f_code_at := t.f_code_at.drop h
  f_mark_at := t.f_mark_at.drop h
  f_link_at := t.f_link_at.drop h
  f_freed := t.f_freed.drop h
  f_with_strong := t.f_with_strong.drop h
  f_merged := t.f_merged.drop h
  f__law_cell := t.f__law_cell.drop h
  f__law_mixed := t.f__law_mixed.drop h
  f__law_menu := t.f__law_menu.drop h
  f__law_signs := t.f__law_signs.drop h
  f__law_text := t.f__law_text.drop h
  f__law_name := t.f__law_name.drop h
  f__law_joined := t.f__law_joined.drop h
  f__law_said := t.f__law_said.drop h
  f__law_shape := t.f__law_shape.drop h
  f__law_linked := t.f__law_linked.drop h
  f__law_simple := t.f__law_simple.drop h
  f__law_piece := t.f__law_piece.drop h
  f__law_class := t.f__law_class.drop h
  f__law_right := t.f__law_right.drop h
  f_law := t.f_law.drop h
  n_list := by rw [nsIn_drop h]; exact t.n_list
  n_len := by rw [nsIn_drop h]; exact t.n_len
  n_isinstance := by rw [nsIn_drop h]; exact t.n_isinstance
  n_all := by rw [nsIn_drop h]; exact t.n_all
  n_str := by rw [nsIn_drop h]; exact t.n_str
  n_tuple := by rw [nsIn_drop h]; exact t.n_tuple
  n_range := by rw [nsIn_drop h]; exact t.n_range
  n_int := by rw [nsIn_drop h]; exact t.n_int
  g_NAME_SIGNS := by obtain ⟨v, e, k⟩ := t.g_NAME_SIGNS; exact ⟨v, by rw [nsIn_drop h]; exact e, k⟩
  g_LONGEST_NAME := by obtain ⟨v, e, k⟩ := t.g_LONGEST_NAME; exact ⟨v, by rw [nsIn_drop h]; exact e, k⟩
  g_TAKEN := by obtain ⟨v, e, k⟩ := t.g_TAKEN; exact ⟨v, by rw [nsIn_drop h]; exact e, k⟩
theorem all_law {P : Program} {w : World} {K : PySem.W.Frag} {h : Heap} {mg : Str → Option Value} {fa cr Pt : Addr} (X : K.In h) (G : h.Ns mainGlobals mg) (hfa : mg "law" = some (.ref fa)) (t : Top K cr) (tc : ∃ c : Addrs, ClsT K c) :
    ∃ fd : FuncData, (∀ (s : Shared) (v : Value), BindsTo s fd ⟨[v], []⟩ [("_law_script", v)]) ∧ ∀ base : Heap, K.In base → base.Ns mainGlobals mg → (∀ q ∈ [(cr, Pt)], PySem.W.CodeHd base q.1 q.2 ∧ base.BuiltinsAt mg q.2) → FnOk P w K mg base CX0 9 fa fd ["_law_script"] (spLaw4 K Pt) := by
  obtain ⟨z, L⟩ := tc
  let c : Cp := ⟨z.Part, z.Plain, z.Code, z.Strong, z.Link, z.Mark⟩
  have n_list := PySem.W.mg_none_of X G t.n_list
  have n_len := PySem.W.mg_none_of X G t.n_len
  have n_isinstance := PySem.W.mg_none_of X G t.n_isinstance
  have n_all := PySem.W.mg_none_of X G t.n_all
  have n_str := PySem.W.mg_none_of X G t.n_str
  have n_tuple := PySem.W.mg_none_of X G t.n_tuple
  have n_range := PySem.W.mg_none_of X G t.n_range
  have n_int := PySem.W.mg_none_of X G t.n_int
  have c_Plain := PySem.W.mg_of X G L.c_Plain
  have c_Code := PySem.W.mg_of X G L.c_Code
  have c_Strong := PySem.W.mg_of X G L.c_Strong
  have c_Link := PySem.W.mg_of X G L.c_Link
  have c_Mark := PySem.W.mg_of X G L.c_Mark
  have c_Part := PySem.W.mg_of X G L.c_Part
  have T : TxP K mg c z.BadName := {
    n_list := n_list
    n_len := n_len
    n_isinstance := n_isinstance
    n_all := n_all
    n_str := n_str
    n_tuple := n_tuple
    g_NAME_SIGNS := by obtain ⟨v, e, k, rfl⟩ := t.g_NAME_SIGNS; exact ⟨k, PySem.W.mg_of X G e⟩
    g_LONGEST_NAME := by obtain ⟨v, e, k, rfl⟩ := t.g_LONGEST_NAME; exact ⟨k, PySem.W.mg_of X G e⟩
    c_BadName := PySem.W.mg_of X G L.c_BadName
    x_BadName := L.x_BadName
    c_Plain := c_Plain
    o_Plain := L.p_Plain.inst
    o_Code := L.p_Code.inst
    o_Strong := L.p_Strong.inst
    o_Link := L.p_Link.inst
    o_Mark := L.p_Mark.inst
    a_Plain := L.n_Plain_signs
    a_Code := L.n_Code_signs
    a_Strong := L.n_Strong_parts
    a_Linkw := L.n_Link_words
    a_Linkn := L.n_Link_name
    a_Mark := L.n_Mark_name
    i_Plain := L.j_Plain_Plain
    i_Code := L.j_Code_Plain
    i_Strong := L.j_Strong_Plain
    i_Link := L.j_Link_Plain
    i_Mark := L.j_Mark_Plain
  }
  have TI : TxI K mg c z.BadName := { T with g_TAKEN := (by obtain ⟨v, e, k, rfl⟩ := t.g_TAKEN; exact ⟨k, PySem.W.mg_of X G e⟩), s_Plain := L.s_Plain, s_Code := L.s_Code, s_Strong := L.s_Strong, s_Link := L.s_Link, s_Mark := L.s_Mark }
  have TL : TxL mg := ⟨n_len, n_range, n_int⟩
  have TS : TxS mg := ⟨n_len, n_isinstance, n_all, n_str, n_list, n_tuple⟩
  have TW : TxW mg := ⟨n_len, n_range, n_int, n_isinstance, n_list⟩
  have TC : TxC K mg c := {
    n_isinstance := n_isinstance
    n_int := n_int
    o_Plain := L.p_Plain.inst
    o_Code := L.p_Code.inst
    o_Strong := L.p_Strong.inst
    o_Link := L.p_Link.inst
    o_Mark := L.p_Mark.inst
    c_Plain := c_Plain
    c_Code := c_Code
    c_Strong := c_Strong
    c_Link := c_Link
    c_Mark := c_Mark
    c_Part := c_Part
    j_Plain_Plain := L.j_Plain_Plain
    j_Plain_Code := L.j_Plain_Code
    j_Plain_Strong := L.j_Plain_Strong
    j_Plain_Link := L.j_Plain_Link
    j_Plain_Mark := L.j_Plain_Mark
    j_Plain_Part := L.j_Plain_Part
    j_Code_Plain := L.j_Code_Plain
    j_Code_Code := L.j_Code_Code
    j_Code_Strong := L.j_Code_Strong
    j_Code_Link := L.j_Code_Link
    j_Code_Mark := L.j_Code_Mark
    j_Code_Part := L.j_Code_Part
    j_Strong_Plain := L.j_Strong_Plain
    j_Strong_Code := L.j_Strong_Code
    j_Strong_Strong := L.j_Strong_Strong
    j_Strong_Link := L.j_Strong_Link
    j_Strong_Mark := L.j_Strong_Mark
    j_Strong_Part := L.j_Strong_Part
    j_Link_Plain := L.j_Link_Plain
    j_Link_Code := L.j_Link_Code
    j_Link_Strong := L.j_Link_Strong
    j_Link_Link := L.j_Link_Link
    j_Link_Mark := L.j_Link_Mark
    j_Link_Part := L.j_Link_Part
    j_Mark_Plain := L.j_Mark_Plain
    j_Mark_Code := L.j_Mark_Code
    j_Mark_Strong := L.j_Mark_Strong
    j_Mark_Link := L.j_Mark_Link
    j_Mark_Mark := L.j_Mark_Mark
    j_Mark_Part := L.j_Mark_Part
  }
  obtain ⟨f, oc, od, kV, dc, pm, an, cd, ct, sl, a, l, cc, kp, _⟩ := t.f_law.ex
  have e := hfa.symm.trans (PySem.W.mg_of X G a)
  cases e
  refine ⟨PySem.W.fnOf "law" "law" (defArgs sLaw) (defBody sLaw) (defScope sLaw) .none kV dc pm an cd ct, fun s v => .of_eq rfl, fun base _ _ hT => ?_⟩
  have D_Plain : New P w K mg base 1 "Plain" c.Plain ["self", "signs"] (spInit1 c.Plain "signs") := new_of (PySem.W.mg_of X G L.c_Plain) L.p_Plain.mkc L.p_Plain.kc L.m_Plain_Init (fun _ _ _ _ _ _ us hl => match us, hl with | [_, _], _ => rfl) fun f fd F => ok_PlainInit F T
  have D_Code : New P w K mg base 1 "Code" c.Code ["self", "signs"] (spInit1 c.Code "signs") := new_of (PySem.W.mg_of X G L.c_Code) L.p_Code.mkc L.p_Code.kc L.m_Code_Init (fun _ _ _ _ _ _ us hl => match us, hl with | [_, _], _ => rfl) fun f fd F => ok_CodeInit F T
  have D_Strong : New P w K mg base 1 "Strong" c.Strong ["self", "parts"] (spInitS c.Strong) := new_of (PySem.W.mg_of X G L.c_Strong) L.p_Strong.mkc L.p_Strong.kc L.m_Strong_Init (fun _ _ _ _ _ _ us hl => match us, hl with | [_, _], _ => rfl) fun f fd F => ok_StrongInit F T
  have D_Link : New P w K mg base 1 "Link" c.Link ["self", "words", "name"] (spInit2 c.Link "words" "name") := new_of (PySem.W.mg_of X G L.c_Link) L.p_Link.mkc L.p_Link.kc L.m_Link_Init (fun _ _ _ _ _ _ us hl => match us, hl with | [_, _, _], _ => rfl) fun f fd F => ok_LinkInit F T
  have D_Mark : New P w K mg base 1 "Mark" c.Mark ["self", "name"] (spInit1 c.Mark "name") := new_of (PySem.W.mg_of X G L.c_Mark) L.p_Mark.mkc L.p_Mark.kc L.m_Mark_Init (fun _ _ _ _ _ _ us hl => match us, hl with | [_, _], _ => rfl) fun f fd F => ok_MarkInit F T
  have V_Plain : MethV P w K mg base 1 c.Plain "told" ["self"] (spTold c fun p => ∃ s, p = .one (.plain s)) := meth_of L.p_Plain.cls L.m_Plain_Told (fun _ _ _ _ _ _ us hl => match us, hl with | [_], _ => rfl) fun f fd F => ok_PlainTold F T
  have V_Code : MethV P w K mg base 1 c.Code "told" ["self"] (spTold c fun p => ∃ s, p = .one (.code s)) := meth_of L.p_Code.cls L.m_Code_Told (fun _ _ _ _ _ _ us hl => match us, hl with | [_], _ => rfl) fun f fd F => ok_CodeTold F T
  have V_Mark : MethV P w K mg base 1 c.Mark "told" ["self"] (spTold c fun p => ∃ s, p = .one (.note s)) := meth_of L.p_Mark.cls L.m_Mark_Told (fun _ _ _ _ _ _ us hl => match us, hl with | [_], _ => rfl) fun f fd F => ok_MarkTold F T
  have V_Link : MethV P w K mg base 1 c.Link "told" ["self"] (spTold c fun p => ∃ s n, p = .one (.link s n)) := meth_of L.p_Link.cls L.m_Link_Told (fun _ _ _ _ _ _ us hl => match us, hl with | [_], _ => rfl) fun f fd F => ok_LinkTold F T
  have W1 : ∀ {k : Nat}, 1 ≤ k → ∀ (p : P1) H a, PCAt c H a (.one p) → ∃ C dx fs sp, H a = some (.ins C dx fs) ∧ fs.lookup ("told" : Str) = none ∧ MethV P w K mg base k C "told" ["self"] sp ∧ ∀ Q E, (∀ v H', Same H H' → Dn (dif H H') v (dP (.one p)) → Q v H') → sp [.ref a] H Q E := fun {k} hk p H a h => by
    cases p with
    | plain s =>
      obtain ⟨_, dx, e⟩ := id h
      exact ⟨_, dx, _, _, e, rfl, V_Plain.mono hk, fun Q E g => ⟨a, _, rfl, h, ⟨s, rfl⟩, g⟩⟩
    | code s =>
      obtain ⟨_, dx, e⟩ := id h
      exact ⟨_, dx, _, _, e, rfl, V_Code.mono hk, fun Q E g => ⟨a, _, rfl, h, ⟨s, rfl⟩, g⟩⟩
    | link s n =>
      obtain ⟨_, _, dx, e⟩ := id h
      exact ⟨_, dx, _, _, e, rfl, V_Link.mono hk, fun Q E g => ⟨a, _, rfl, h, ⟨s, n, rfl⟩, g⟩⟩
    | note s =>
      obtain ⟨_, dx, e⟩ := id h
      exact ⟨_, dx, _, _, e, rfl, V_Mark.mono hk, fun Q E g => ⟨a, _, rfl, h, ⟨s, rfl⟩, g⟩⟩
  have M1 : ToldV P w K mg base 1 c R1 := fun p hp H a h => by
    cases p with
    | one p => exact W1 (Nat.le_refl 1) p H a h
    | strong ps => exact absurd hp (by unfold R1; simp [one?])
  have D_told1 : Def P w K mg base 2 "told_parts" ["parts"] (spTolds c R1) := def_of X G t.f_told_parts (fun _ _ _ _ _ _ us hl => match us, hl with | [_], _ => rfl) fun f fd F _ => ok_tolds F M1
  have V_Strong : MethV P w K mg base 3 c.Strong "told" ["self"] (spTold c fun p => ∃ ps, p = .strong ps ∧ ps.length ≤ 100000) := meth_of L.p_Strong.cls L.m_Strong_Told (fun _ _ _ _ _ _ us hl => match us, hl with | [_], _ => rfl) fun f fd F => ok_StrongTold F T D_told1
  have M2 : ToldV P w K mg base 3 c R2 := fun p hp H a h => by
    cases p with
    | one p => exact W1 (by decide) p H a h
    | strong ps =>
      obtain ⟨dx, l, as, e, _⟩ := id h
      exact ⟨_, dx, _, _, e, rfl, V_Strong, fun Q E g => ⟨a, _, rfl, h, ⟨ps, rfl, hp⟩, g⟩⟩
  have D_told_parts : Def P w K mg base 4 "told_parts" ["parts"] (spTolds c R2) := def_of X G t.f_told_parts (fun _ _ _ _ _ _ us hl => match us, hl with | [_], _ => rfl) fun f fd F _ => ok_tolds F M2
  have D_is_name : Def P w K mg base 1 "is_name" ["thing"] spNameD := def_of X G t.f_is_name (fun _ _ _ _ _ _ us hl => match us, hl with | [_], _ => rfl) fun f fd F _ => ok_nameD F T
  have D_name_of : Def P w K mg base 2 "name_of" ["thing"] spNameOf := def_of X G t.f_name_of (fun _ _ _ _ _ _ us hl => match us, hl with | [_], _ => rfl) fun f fd F _ => ok_nameOf F T D_is_name
  have D_takes_next : Def P w K mg base 1 "takes_next" ["text", "place"] spTakes := def_of X G t.f_takes_next (fun _ _ _ _ _ _ us hl => match us, hl with | [_, _], _ => rfl) fun f fd F _ => ok_takes F TI
  have D_freed : Def P w K mg base 2 "freed" ["text"] spFreed := def_of X G t.f_freed (fun _ _ _ _ _ _ us hl => match us, hl with | [_], _ => rfl) fun f fd F _ => ok_freed F TI D_takes_next
  have D_closings_of : Def P w K mg base 2 "closings_of" ["text"] spClosings := def_of X G t.f_closings_of (fun _ _ _ _ _ _ us hl => match us, hl with | [_], _ => rfl) fun f fd F _ => ok_closings F TI D_takes_next
  have D_code_at : Def P w K mg base 3 "code_at" ["text", "place"] (spCodeAt c) := def_of X G t.f_code_at (fun _ _ _ _ _ _ us hl => match us, hl with | [_, _], _ => rfl) fun f fd F _ => ok_codeAt F TI D_Code
  have D_mark_at : Def P w K mg base 3 "mark_at" ["text", "place"] (spMarkAt c) := def_of X G t.f_mark_at (fun _ _ _ _ _ _ us hl => match us, hl with | [_, _], _ => rfl) fun f fd F _ => ok_markAt F TI D_Mark D_is_name D_name_of
  have D_link_at : Def P w K mg base 3 "link_at" ["text", "place", "closing"] (spLinkAt c) := def_of X G t.f_link_at (fun _ _ _ _ _ _ us hl => match us, hl with | [_, _, _], _ => rfl) fun f fd F _ => ok_linkAt F TI D_Link D_freed D_is_name D_name_of
  have D_piece_at : Def P w K mg base 4 "piece_at" ["text", "place", "closings"] (spPieceAt c) := def_of X G t.f_piece_at (fun _ _ _ _ _ _ us hl => match us, hl with | [_, _, _], _ => rfl) fun f fd F _ => ok_pieceAt F TI D_takes_next D_code_at D_mark_at D_link_at
  have D_pieces_of : Def P w K mg base 5 "pieces_of" ["text"] (spPieces c) := def_of X G t.f_pieces_of (fun _ _ _ _ _ _ us hl => match us, hl with | [_], _ => rfl) fun f fd F _ => ok_pieces F TI D_closings_of D_piece_at
  have D_merged : Def P w K mg base 3 "merged" ["pieces"] (spMerged c) := def_of X G t.f_merged (fun _ _ _ _ _ _ us hl => match us, hl with | [_], _ => rfl) fun f fd F _ => ok_merged F TI D_Plain
  have D_with_strong : Def P w K mg base 4 "with_strong" ["pieces"] (spStrongs c) := def_of X G t.f_with_strong (fun _ _ _ _ _ _ us hl => match us, hl with | [_], _ => rfl) fun f fd F _ => ok_strongs F TI D_Strong D_merged
  have D_parts_of : Def P w K mg base 6 "parts_of" ["text"] (spPartsOf c) := def_of X G t.f_parts_of (fun _ _ _ _ _ _ us hl => match us, hl with | [_], _ => rfl) fun f fd F _ => ok_partsOf F TI D_pieces_of D_with_strong D_merged
  have D_l_cell : Def P w K mg base 1 "_law_cell" ["_law_script", "_law_k"] (spCell K) := def_of X G t.f__law_cell (fun _ _ _ _ _ _ us hl => match us, hl with | [_, _], _ => rfl) fun f fd F _ => ok_cell F TL
  have D_l_mixed : Def P w K mg base 1 "_law_mixed" ["_law_cell_here", "_law_k"] spMixed := def_of X G t.f__law_mixed (fun _ _ _ _ _ _ us hl => match us, hl with | [_, _], _ => rfl) fun f fd F _ => ok_mixed F
  have D_l_menu : Def P w K mg base 1 "_law_menu" ["_law_kind"] spMenu := def_of X G t.f__law_menu (fun _ _ _ _ _ _ us hl => match us, hl with | [_], _ => rfl) fun f fd F _ => ok_menu F
  have D_l_signs : Def P w K mg base 1 "_law_signs" ["_law_number", "_law_size", "_law_menu_here"] spSigns := def_of X G t.f__law_signs (fun _ _ _ _ _ _ us hl => match us, hl with | [_, _, _], _ => rfl) fun f fd F _ => ok_signs F TL
  have D_l_text : Def P w K mg base 2 "_law_text" ["_law_number", "_law_most"] spText := def_of X G t.f__law_text (fun _ _ _ _ _ _ us hl => match us, hl with | [_, _], _ => rfl) fun f fd F _ => ok_text F TL D_l_mixed D_l_menu D_l_signs
  have D_l_name : Def P w K mg base 2 "_law_name" ["_law_number"] spName7 := def_of X G t.f__law_name (fun _ _ _ _ _ _ us hl => match us, hl with | [_], _ => rfl) fun f fd F _ => ok_name7 F TL D_l_menu D_l_signs
  have D_l_linked : Def P w K mg base 2 "_law_linked" ["_law_number"] spLinked := def_of X G t.f__law_linked (fun _ _ _ _ _ _ us hl => match us, hl with | [_], _ => rfl) fun f fd F _ => ok_linked F TL D_l_mixed
  have D_l_simple : Def P w K mg base 3 "_law_simple" ["_law_number"] spSimple := def_of X G t.f__law_simple (fun _ _ _ _ _ _ us hl => match us, hl with | [_], _ => rfl) fun f fd F _ => ok_simple F TL D_l_menu D_l_signs D_l_text D_l_name D_l_linked
  have D_l_joined : Def P w K mg base 1 "_law_joined" ["_law_parts"] spJoined := def_of X G t.f__law_joined (fun _ _ _ _ _ _ us hl => match us, hl with | [_], _ => rfl) fun f fd F _ => ok_joined F TL
  have D_l_piece : Def P w K mg base 4 "_law_piece" ["_law_number"] spPiece := def_of X G t.f__law_piece (fun _ _ _ _ _ _ us hl => match us, hl with | [_], _ => rfl) fun f fd F _ => ok_piece F TL D_l_mixed D_l_simple D_l_joined
  have D_shape0 : Def P w K mg base 1 "_law_shape" ["_law_told"] spNo := def_of X G t.f__law_shape (fun _ _ _ _ _ _ us hl => match us, hl with | [_], _ => rfl) fun f fd F _ => ok_no
  have D_shape1 : Def P w K mg base 2 "_law_shape" ["_law_told"] (spShape R1) := def_of X G t.f__law_shape (fun _ _ _ _ _ _ us hl => match us, hl with | [_], _ => rfl) fun f fd F _ => ok_shape F TS D_shape0 (fun ps h => absurd h (by unfold R1; simp [one?]))
  have D_l_shape : Def P w K mg base 3 "_law_shape" ["_law_told"] (spShape fun _ => True) := def_of X G t.f__law_shape (fun _ _ _ _ _ _ us hl => match us, hl with | [_], _ => rfl) fun f fd F _ => ok_shape F TS D_shape1 (fun _ _ _ _ _ _ h => h)
  have D_lsaid0 : Def P w K mg base 1 "_law_said" ["_law_due", "_law_word"] spNo := def_of X G t.f__law_said (fun _ _ _ _ _ _ us hl => match us, hl with | [_, _], _ => rfl) fun f fd F _ => ok_no
  have D_lsaid1 : Def P w K mg base 2 "_law_said" ["_law_due", "_law_word"] (spLSaid R1) := def_of X G t.f__law_said (fun _ _ _ _ _ _ us hl => match us, hl with | [_, _], _ => rfl) fun f fd F _ => ok_lsaid F D_lsaid0 (fun ps h => absurd h (by unfold R1; simp [one?]))
  have D_l_said : Def P w K mg base 3 "_law_said" ["_law_due", "_law_word"] (spLSaid fun _ => True) := def_of X G t.f__law_said (fun _ _ _ _ _ _ us hl => match us, hl with | [_, _], _ => rfl) fun f fd F _ => ok_lsaid F D_lsaid1 (fun _ _ _ _ _ _ h => h)
  have D_l_class : Def P w K mg base 1 "_law_class" ["_law_part"] (spClass c) := def_of X G t.f__law_class (fun _ _ _ _ _ _ us hl => match us, hl with | [_], _ => rfl) fun f fd F _ => ok_class F TC
  have D_said : ∀ (base' : Heap) (gl gn : Addr) (sf sg : List Nat → List Nat) (x1 x2 : Str), K.In base' → base'.Ns mainGlobals mg → SayOk sf → SayOk sg → FnV P w K mg base' 2 gl [x1] (spSay sf) → FnV P w K mg base' 2 gn [x2] (spSay sg) → Def P w K mg base' 6 "said_of" ["parts", "link", "note"] (spSaids c gl gn sf sg R2) := by
    intro base' gl gn sf sg x1 x2 _ _ hsf hsg hV1 hV2
    have S_Plain : MethV P w K mg base' 3 c.Plain "said" ["self", "link", "note"] (spSaid c gl gn sf sg fun p => ∃ s, p = .one (.plain s)) := meth_of L.p_Plain.cls L.m_Plain_Said (fun _ _ _ _ _ _ us hl => match us, hl with | [_, _, _], _ => rfl) fun f fd F => ok_PlainSaid F TI
    have S_Code : MethV P w K mg base' 3 c.Code "said" ["self", "link", "note"] (spSaid c gl gn sf sg fun p => ∃ s, p = .one (.code s)) := meth_of L.p_Code.cls L.m_Code_Said (fun _ _ _ _ _ _ us hl => match us, hl with | [_, _, _], _ => rfl) fun f fd F => ok_CodeSaid F TI
    have S_Mark : MethV P w K mg base' 3 c.Mark "said" ["self", "link", "note"] (spSaid c gl gn sf sg fun p => ∃ s, p = .one (.note s)) := meth_of L.p_Mark.cls L.m_Mark_Said (fun _ _ _ _ _ _ us hl => match us, hl with | [_, _, _], _ => rfl) fun f fd F => ok_MarkSaid F TI hV2
    have S_Link : MethV P w K mg base' 3 c.Link "said" ["self", "link", "note"] (spSaid c gl gn sf sg fun p => ∃ s n, p = .one (.link s n)) := meth_of L.p_Link.cls L.m_Link_Said (fun _ _ _ _ _ _ us hl => match us, hl with | [_, _, _], _ => rfl) fun f fd F => ok_LinkSaid F TI hV1
    have W2 : ∀ {k : Nat}, 3 ≤ k → ∀ (p : P1), AscC (.one p) → (saidC sf sg (.one p)).length ≤ 100000 → ∀ H a, PCAt c H a (.one p) → ∃ C dx fs sp, H a = some (.ins C dx fs) ∧ fs.lookup ("said" : Str) = none ∧ MethV P w K mg base' k C "said" ["self", "link", "note"] sp ∧ ∀ Q E, (∀ H', Same H H' → Q (vS (saidC sf sg (.one p))) H') → sp [.ref a, .ref gl, .ref gn] H Q E := fun {k} hk p ha hz H a h => by
      cases p with
      | plain s =>
        obtain ⟨_, dx, e⟩ := id h
        exact ⟨_, dx, _, _, e, rfl, S_Plain.mono hk, fun Q E g => ⟨a, _, rfl, h, ⟨s, rfl⟩, ha, hz, g⟩⟩
      | code s =>
        obtain ⟨_, dx, e⟩ := id h
        exact ⟨_, dx, _, _, e, rfl, S_Code.mono hk, fun Q E g => ⟨a, _, rfl, h, ⟨s, rfl⟩, ha, hz, g⟩⟩
      | link s n =>
        obtain ⟨_, _, dx, e⟩ := id h
        exact ⟨_, dx, _, _, e, rfl, S_Link.mono hk, fun Q E g => ⟨a, _, rfl, h, ⟨s, n, rfl⟩, ha, hz, g⟩⟩
      | note s =>
        obtain ⟨_, dx, e⟩ := id h
        exact ⟨_, dx, _, _, e, rfl, S_Mark.mono hk, fun Q E g => ⟨a, _, rfl, h, ⟨s, rfl⟩, ha, hz, g⟩⟩
    have N1 : SaidV P w K mg base' 3 c gl gn sf sg R1 := fun p hp ha hz H a h => by
      cases p with
      | one p => exact W2 (Nat.le_refl 3) p ha hz H a h
      | strong ps => exact absurd hp (by unfold R1; simp [one?])
    have D_said1 : Def P w K mg base' 4 "said_of" ["parts", "link", "note"] (spSaids c gl gn sf sg R1) := def_of X G t.f_said_of (fun _ _ _ _ _ _ us hl => match us, hl with | [_, _, _], _ => rfl) fun f fd F _ => ok_saids F hsf hsg N1
    have S_Strong : MethV P w K mg base' 5 c.Strong "said" ["self", "link", "note"] (spSaid c gl gn sf sg fun p => ∃ ps, p = .strong ps ∧ ps.length ≤ 100000) := meth_of L.p_Strong.cls L.m_Strong_Said (fun _ _ _ _ _ _ us hl => match us, hl with | [_, _, _], _ => rfl) fun f fd F => ok_StrongSaid F TI D_said1
    have N2 : SaidV P w K mg base' 5 c gl gn sf sg R2 := fun p hp ha hz H a h => by
      cases p with
      | one p => exact W2 (by decide) p ha hz H a h
      | strong ps =>
        obtain ⟨dx, l, as, e, _⟩ := id h
        exact ⟨_, dx, _, _, e, rfl, S_Strong, fun Q E g => ⟨a, _, rfl, h, ⟨ps, rfl, hp⟩, ha, hz, g⟩⟩
    exact def_of X G t.f_said_of (fun _ _ _ _ _ _ us hl => match us, hl with | [_, _, _], _ => rfl) fun f fd F _ => ok_saids F hsf hsg N2
  have D_l_right : Def P w K mg base 8 "_law_right" ["_law_parts", "_law_due", "_law_word"] (spRight c Pt) := def_of X G t.f__law_right (fun _ _ _ _ _ _ us hl => match us, hl with | [_, _, _], _ => rfl) fun f fd F hc => ok_right F hc (hT _ (List.mem_singleton.mpr rfl)) (by decide) D_told_parts M2 D_l_shape D_l_class D_l_said (mg_fn X G t.f_said_of) D_said
  exact ok_law (fun_mk (st := sLaw) l cc kp) TW D_l_cell D_l_mixed D_l_piece D_l_joined D_parts_of D_l_right
end K4

set_option Elab.async false
set_option linter.all false

open PySem PySem.W PySem.W.X PySem.W.ZRun PyProof.Rows
theorem L2.true_law {c : PySem.W.ClaimW} {cl : PySem.Str → Option PySem.Addr} {mean : PySem.ExcName → Option PySem.Value} {args : List PySem.W.WData} {s₁ s' : PySem.Shared} (hr : ∀ cls : PySem.ExcName, c.raises args cls = false) (hp : c.post args (.bool true) args = true)
    (h : OldK s₁.heap s'.heap ∧ s'.os = s₁.os ∧ PyProof.Rows.AllBare s'.gens) : PySem.W.GoodWG c cl mean args s₁ (Except.ok (PySem.Flow.ret (.bool true))) s' :=
  ⟨.inl ⟨_, .bool true, [], rfl, hr, .bool _, hp, fun _ => ⟨.nil, fun _ z => nomatch z⟩⟩, h⟩

def PySem.W.Fast.tw11193085199829759452 : Unit := ()
def PySem.W.Fast.tw5856263234590756950 : Unit := ()
def PySem.W.Fast.tw2523544156274406177 : Unit := ()
def PySem.W.Fast.tw4672836028076152154 : Unit := ()
def PySem.W.Fast.tw12565448682499864467 : Unit := ()
def PySem.W.Fast.tw12152015670543023834 : Unit := ()
def PySem.W.Fast.tw11355253285505048776 : Unit := ()
def PySem.W.Fast.tw8806474689752205669 : Unit := ()
def PySem.W.Fast.tw16528886323156675223 : Unit := ()
def PySem.W.Fast.tw4699155658146427194 : Unit := ()
def PySem.W.Fast.tw2730305650539124303 : Unit := ()
def PySem.W.Fast.tw2370519840368019376 : Unit := ()
def PySem.W.Fast.tw14946294775157820027 : Unit := ()
def PySem.W.Fast.tw9292525167918112150 : Unit := ()
def PySem.W.Fast.tw11822056048753850535 : Unit := ()
def PySem.W.Fast.tw11479656043925754521 : Unit := ()
def PySem.W.Fast.tw10147418876486330744 : Unit := ()
def PySem.W.Fast.tw7627461186623876648 : Unit := ()
def PySem.W.Fast.tw14594008619881616701 : Unit := ()
def PySem.W.Fast.tw9426333797709556856 : Unit := ()
def PySem.W.Fast.tw4870929489681183471 : Unit := ()
def PySem.W.Fast.tw14979401607508318825 : Unit := ()
def PySem.W.Fast.tw7656752930435771250 : Unit := ()
def PySem.W.Fast.tw5902812516139761695 : Unit := ()
def PySem.W.Fast.tw12159736113227577505 : Unit := ()
def PySem.W.Fast.tw2415156824299247229 : Unit := ()
def PySem.W.Fast.tw648568744465499942 : Unit := ()
set_option maxRecDepth 100000 in
set_option maxHeartbeats 0 in
theorem PySem.Challenge.cw_lightmark_k04_parts_of_built_texts_holds : PySem.Challenge.rw_lightmark_k04_parts_of_built_texts.Holds := by
  w_on; o_law; z_head; (case hw => w_witness2)
  k_fill
  intro w s₀ s₁ mg mb G y fa o pm cd doc dV kV ho hd hcd hD hmg hg args vals as L hpre hlay hrd hwl hlo
  z_open y L KX ZH ZN ZT
  refine Ground.open G ?_
  intro T B D TE TW
  wrow_args hpre hlay hrd hwl hlo
  rename_i ns _ _ _ _ _ _ _ a vs _ hL _ _ _ hI _ hlen _
  have htk := script_toks L ZT
  have hobj := script_obj L hL
  have hbits : ∀ n ∈ ns, PySem.Builtin.Int.intBits n ≤ 1048576 := fun n hn => PySem.intBits_le_of_item hn (by assumption)
  kn_lay T hmg ho hd cd
  obtain ⟨c, Pt, hTT, t, tc⟩ : ∃ c Pt, PySem.W.TabsAt [(c, Pt)] s₁.heap ∧ K4.Top (L2.KOf KX) c ∧ ∃ z : K4.Addrs, K4.ClsT (L2.dropK (L2.KOf KX) ([(c, Pt)].map (·.2))) z := by
    refine ⟨_, _, hT9, ?_, ?_⟩
    rotate_left
    · have h0 := L2.tabs0_of KX hT9
      dsimp only [L2.KOf]
      refine' K4.cls_mk h0 ?y_c_BadName ?y_c_Plain ?y_c_Code ?y_c_Strong ?y_c_Link ?y_c_Mark ?y_c_Part ?y_x_BadName ?y_p_Plain ?y_n_Plain_signs ?y_j_Plain_Plain ?y_j_Plain_Code ?y_j_Plain_Strong ?y_j_Plain_Link ?y_j_Plain_Mark ?y_j_Plain_Part ?y_s_Plain ?y_p_Code ?y_n_Code_signs ?y_j_Code_Plain ?y_j_Code_Code ?y_j_Code_Strong ?y_j_Code_Link ?y_j_Code_Mark ?y_j_Code_Part ?y_s_Code ?y_p_Strong ?y_n_Strong_parts ?y_j_Strong_Plain ?y_j_Strong_Code ?y_j_Strong_Strong ?y_j_Strong_Link ?y_j_Strong_Mark ?y_j_Strong_Part ?y_s_Strong ?y_p_Link ?y_n_Link_words ?y_n_Link_name ?y_j_Link_Plain ?y_j_Link_Code ?y_j_Link_Strong ?y_j_Link_Link ?y_j_Link_Mark ?y_j_Link_Part ?y_s_Link ?y_p_Mark ?y_n_Mark_name ?y_j_Mark_Plain ?y_j_Mark_Code ?y_j_Mark_Strong ?y_j_Mark_Link ?y_j_Mark_Mark ?y_j_Mark_Part ?y_s_Mark ?y_m_Plain_Init ?y_m_Plain_Told ?y_m_Plain_Said ?y_m_Code_Init ?y_m_Code_Told ?y_m_Code_Said ?y_m_Strong_Init ?y_m_Strong_Told ?y_m_Strong_Said ?y_m_Link_Init ?y_m_Link_Told ?y_m_Link_Said ?y_m_Mark_Init ?y_m_Mark_Told ?y_m_Mark_Said
      case y_c_BadName => k_is
      case y_c_Plain => k_is
      case y_c_Code => k_is
      case y_c_Strong => k_is
      case y_c_Link => k_is
      case y_c_Mark => k_is
      case y_c_Part => k_is
      case y_x_BadName => (refine' K4.ownx_VE ?yq; (case yq => kernel_rfl))
      case y_p_Plain => (refine' ⟨?z1, ?z2, ?z3, ?z4, ?z5, ?z6, ?z7, ?z8, ?z9, ?z10⟩; (case z1 => kernel_rfl); (case z2 => kernel_rfl); (case z3 => kernel_rfl); (case z4 => kernel_rfl); (case z5 => kernel_rfl); (case z6 => kernel_rfl); (case z7 => kernel_rfl); (case z8 => kernel_rfl); (case z9 => kernel_rfl); (case z10 => kernel_rfl))
      case y_n_Plain_signs => kernel_rfl
      case y_j_Plain_Plain => kernel_rfl
      case y_j_Plain_Code => kernel_rfl
      case y_j_Plain_Strong => kernel_rfl
      case y_j_Plain_Link => kernel_rfl
      case y_j_Plain_Mark => kernel_rfl
      case y_j_Plain_Part => kernel_rfl
      case y_s_Plain => kernel_rfl
      case y_p_Code => (refine' ⟨?z1, ?z2, ?z3, ?z4, ?z5, ?z6, ?z7, ?z8, ?z9, ?z10⟩; (case z1 => kernel_rfl); (case z2 => kernel_rfl); (case z3 => kernel_rfl); (case z4 => kernel_rfl); (case z5 => kernel_rfl); (case z6 => kernel_rfl); (case z7 => kernel_rfl); (case z8 => kernel_rfl); (case z9 => kernel_rfl); (case z10 => kernel_rfl))
      case y_n_Code_signs => kernel_rfl
      case y_j_Code_Plain => kernel_rfl
      case y_j_Code_Code => kernel_rfl
      case y_j_Code_Strong => kernel_rfl
      case y_j_Code_Link => kernel_rfl
      case y_j_Code_Mark => kernel_rfl
      case y_j_Code_Part => kernel_rfl
      case y_s_Code => kernel_rfl
      case y_p_Strong => (refine' ⟨?z1, ?z2, ?z3, ?z4, ?z5, ?z6, ?z7, ?z8, ?z9, ?z10⟩; (case z1 => kernel_rfl); (case z2 => kernel_rfl); (case z3 => kernel_rfl); (case z4 => kernel_rfl); (case z5 => kernel_rfl); (case z6 => kernel_rfl); (case z7 => kernel_rfl); (case z8 => kernel_rfl); (case z9 => kernel_rfl); (case z10 => kernel_rfl))
      case y_n_Strong_parts => kernel_rfl
      case y_j_Strong_Plain => kernel_rfl
      case y_j_Strong_Code => kernel_rfl
      case y_j_Strong_Strong => kernel_rfl
      case y_j_Strong_Link => kernel_rfl
      case y_j_Strong_Mark => kernel_rfl
      case y_j_Strong_Part => kernel_rfl
      case y_s_Strong => kernel_rfl
      case y_p_Link => (refine' ⟨?z1, ?z2, ?z3, ?z4, ?z5, ?z6, ?z7, ?z8, ?z9, ?z10⟩; (case z1 => kernel_rfl); (case z2 => kernel_rfl); (case z3 => kernel_rfl); (case z4 => kernel_rfl); (case z5 => kernel_rfl); (case z6 => kernel_rfl); (case z7 => kernel_rfl); (case z8 => kernel_rfl); (case z9 => kernel_rfl); (case z10 => kernel_rfl))
      case y_n_Link_words => kernel_rfl
      case y_n_Link_name => kernel_rfl
      case y_j_Link_Plain => kernel_rfl
      case y_j_Link_Code => kernel_rfl
      case y_j_Link_Strong => kernel_rfl
      case y_j_Link_Link => kernel_rfl
      case y_j_Link_Mark => kernel_rfl
      case y_j_Link_Part => kernel_rfl
      case y_s_Link => kernel_rfl
      case y_p_Mark => (refine' ⟨?z1, ?z2, ?z3, ?z4, ?z5, ?z6, ?z7, ?z8, ?z9, ?z10⟩; (case z1 => kernel_rfl); (case z2 => kernel_rfl); (case z3 => kernel_rfl); (case z4 => kernel_rfl); (case z5 => kernel_rfl); (case z6 => kernel_rfl); (case z7 => kernel_rfl); (case z8 => kernel_rfl); (case z9 => kernel_rfl); (case z10 => kernel_rfl))
      case y_n_Mark_name => kernel_rfl
      case y_j_Mark_Plain => kernel_rfl
      case y_j_Mark_Code => kernel_rfl
      case y_j_Mark_Strong => kernel_rfl
      case y_j_Mark_Link => kernel_rfl
      case y_j_Mark_Mark => kernel_rfl
      case y_j_Mark_Part => kernel_rfl
      case y_s_Mark => kernel_rfl
      case y_m_Plain_Init => (refine' K4.mIn2_mk ?xa ?xl ?xc ?xb ?xi; (case xa => k_is); (case xl => k_is); (case xc => k_is); (case xb => kernel_rfl); (case xi => kernel_rfl))
      case y_m_Plain_Told => (refine' K4.mIn2_mk ?xa ?xl ?xc ?xb ?xi; (case xa => k_is); (case xl => k_is); (case xc => k_is); (case xb => kernel_rfl); (case xi => kernel_rfl))
      case y_m_Plain_Said => (refine' K4.mIn2_mk ?xa ?xl ?xc ?xb ?xi; (case xa => k_is); (case xl => k_is); (case xc => k_is); (case xb => kernel_rfl); (case xi => kernel_rfl))
      case y_m_Code_Init => (refine' K4.mIn2_mk ?xa ?xl ?xc ?xb ?xi; (case xa => k_is); (case xl => k_is); (case xc => k_is); (case xb => kernel_rfl); (case xi => kernel_rfl))
      case y_m_Code_Told => (refine' K4.mIn2_mk ?xa ?xl ?xc ?xb ?xi; (case xa => k_is); (case xl => k_is); (case xc => k_is); (case xb => kernel_rfl); (case xi => kernel_rfl))
      case y_m_Code_Said => (refine' K4.mIn2_mk ?xa ?xl ?xc ?xb ?xi; (case xa => k_is); (case xl => k_is); (case xc => k_is); (case xb => kernel_rfl); (case xi => kernel_rfl))
      case y_m_Strong_Init => (refine' K4.mIn2_mk ?xa ?xl ?xc ?xb ?xi; (case xa => k_is); (case xl => k_is); (case xc => k_is); (case xb => kernel_rfl); (case xi => kernel_rfl))
      case y_m_Strong_Told => (refine' K4.mIn2_mk ?xa ?xl ?xc ?xb ?xi; (case xa => k_is); (case xl => k_is); (case xc => k_is); (case xb => kernel_rfl); (case xi => kernel_rfl))
      case y_m_Strong_Said => (refine' K4.mIn2_mk ?xa ?xl ?xc ?xb ?xi; (case xa => k_is); (case xl => k_is); (case xc => k_is); (case xb => kernel_rfl); (case xi => kernel_rfl))
      case y_m_Link_Init => (refine' K4.mIn2_mk ?xa ?xl ?xc ?xb ?xi; (case xa => k_is); (case xl => k_is); (case xc => k_is); (case xb => kernel_rfl); (case xi => kernel_rfl))
      case y_m_Link_Told => (refine' K4.mIn2_mk ?xa ?xl ?xc ?xb ?xi; (case xa => k_is); (case xl => k_is); (case xc => k_is); (case xb => kernel_rfl); (case xi => kernel_rfl))
      case y_m_Link_Said => (refine' K4.mIn2_mk ?xa ?xl ?xc ?xb ?xi; (case xa => k_is); (case xl => k_is); (case xc => k_is); (case xb => kernel_rfl); (case xi => kernel_rfl))
      case y_m_Mark_Init => (refine' K4.mIn2_mk ?xa ?xl ?xc ?xb ?xi; (case xa => k_is); (case xl => k_is); (case xc => k_is); (case xb => kernel_rfl); (case xi => kernel_rfl))
      case y_m_Mark_Told => (refine' K4.mIn2_mk ?xa ?xl ?xc ?xb ?xi; (case xa => k_is); (case xl => k_is); (case xc => k_is); (case xb => kernel_rfl); (case xi => kernel_rfl))
      case y_m_Mark_Said => (refine' K4.mIn2_mk ?xa ?xl ?xc ?xb ?xi; (case xa => k_is); (case xl => k_is); (case xc => k_is); (case xb => kernel_rfl); (case xi => kernel_rfl))
    dsimp only [L2.KOf]
    constructor
    case f_told_parts => (refine' K4.fnIn_mk ?xa ?xl ?xc ?xk ?xp; (case xa => k_is); (case xl => k_is); (case xc => k_is); (case xk => k_is); (case xp => exact trivial))
    case f_said_of => (refine' K4.fnIn_mk ?xa ?xl ?xc ?xk ?xp; (case xa => k_is); (case xl => k_is); (case xc => k_is); (case xk => k_is); (case xp => exact trivial))
    case f_is_name => (refine' K4.fnIn_mk ?xa ?xl ?xc ?xk ?xp; (case xa => k_is); (case xl => k_is); (case xc => k_is); (case xk => k_is); (case xp => exact trivial))
    case f_name_of => (refine' K4.fnIn_mk ?xa ?xl ?xc ?xk ?xp; (case xa => k_is); (case xl => k_is); (case xc => k_is); (case xk => k_is); (case xp => exact trivial))
    case f_parts_of => (refine' K4.fnIn_mk ?xa ?xl ?xc ?xk ?xp; (case xa => k_is); (case xl => k_is); (case xc => k_is); (case xk => k_is); (case xp => exact trivial))
    case f_pieces_of => (refine' K4.fnIn_mk ?xa ?xl ?xc ?xk ?xp; (case xa => k_is); (case xl => k_is); (case xc => k_is); (case xk => k_is); (case xp => exact trivial))
    case f_piece_at => (refine' K4.fnIn_mk ?xa ?xl ?xc ?xk ?xp; (case xa => k_is); (case xl => k_is); (case xc => k_is); (case xk => k_is); (case xp => exact trivial))
    case f_takes_next => (refine' K4.fnIn_mk ?xa ?xl ?xc ?xk ?xp; (case xa => k_is); (case xl => k_is); (case xc => k_is); (case xk => k_is); (case xp => exact trivial))
    case f_closings_of => (refine' K4.fnIn_mk ?xa ?xl ?xc ?xk ?xp; (case xa => k_is); (case xl => k_is); (case xc => k_is); (case xk => k_is); (case xp => exact trivial))
    case f_code_at => (refine' K4.fnIn_mk ?xa ?xl ?xc ?xk ?xp; (case xa => k_is); (case xl => k_is); (case xc => k_is); (case xk => k_is); (case xp => exact trivial))
    case f_mark_at => (refine' K4.fnIn_mk ?xa ?xl ?xc ?xk ?xp; (case xa => k_is); (case xl => k_is); (case xc => k_is); (case xk => k_is); (case xp => exact trivial))
    case f_link_at => (refine' K4.fnIn_mk ?xa ?xl ?xc ?xk ?xp; (case xa => k_is); (case xl => k_is); (case xc => k_is); (case xk => k_is); (case xp => exact trivial))
    case f_freed => (refine' K4.fnIn_mk ?xa ?xl ?xc ?xk ?xp; (case xa => k_is); (case xl => k_is); (case xc => k_is); (case xk => k_is); (case xp => exact trivial))
    case f_with_strong => (refine' K4.fnIn_mk ?xa ?xl ?xc ?xk ?xp; (case xa => k_is); (case xl => k_is); (case xc => k_is); (case xk => k_is); (case xp => exact trivial))
    case f_merged => (refine' K4.fnIn_mk ?xa ?xl ?xc ?xk ?xp; (case xa => k_is); (case xl => k_is); (case xc => k_is); (case xk => k_is); (case xp => exact trivial))
    case f__law_cell => (refine' K4.fnIn_mk ?xa ?xl ?xc ?xk ?xp; (case xa => k_is); (case xl => k_is); (case xc => k_is); (case xk => k_is); (case xp => exact trivial))
    case f__law_mixed => (refine' K4.fnIn_mk ?xa ?xl ?xc ?xk ?xp; (case xa => k_is); (case xl => k_is); (case xc => k_is); (case xk => k_is); (case xp => exact trivial))
    case f__law_menu => (refine' K4.fnIn_mk ?xa ?xl ?xc ?xk ?xp; (case xa => k_is); (case xl => k_is); (case xc => k_is); (case xk => k_is); (case xp => exact trivial))
    case f__law_signs => (refine' K4.fnIn_mk ?xa ?xl ?xc ?xk ?xp; (case xa => k_is); (case xl => k_is); (case xc => k_is); (case xk => k_is); (case xp => exact trivial))
    case f__law_text => (refine' K4.fnIn_mk ?xa ?xl ?xc ?xk ?xp; (case xa => k_is); (case xl => k_is); (case xc => k_is); (case xk => k_is); (case xp => exact trivial))
    case f__law_name => (refine' K4.fnIn_mk ?xa ?xl ?xc ?xk ?xp; (case xa => k_is); (case xl => k_is); (case xc => k_is); (case xk => k_is); (case xp => exact trivial))
    case f__law_joined => (refine' K4.fnIn_mk ?xa ?xl ?xc ?xk ?xp; (case xa => k_is); (case xl => k_is); (case xc => k_is); (case xk => k_is); (case xp => exact trivial))
    case f__law_said => (refine' K4.fnIn_mk ?xa ?xl ?xc ?xk ?xp; (case xa => k_is); (case xl => k_is); (case xc => k_is); (case xk => k_is); (case xp => exact trivial))
    case f__law_shape => (refine' K4.fnIn_mk ?xa ?xl ?xc ?xk ?xp; (case xa => k_is); (case xl => k_is); (case xc => k_is); (case xk => k_is); (case xp => exact trivial))
    case f__law_linked => (refine' K4.fnIn_mk ?xa ?xl ?xc ?xk ?xp; (case xa => k_is); (case xl => k_is); (case xc => k_is); (case xk => k_is); (case xp => exact trivial))
    case f__law_simple => (refine' K4.fnIn_mk ?xa ?xl ?xc ?xk ?xp; (case xa => k_is); (case xl => k_is); (case xc => k_is); (case xk => k_is); (case xp => exact trivial))
    case f__law_piece => (refine' K4.fnIn_mk ?xa ?xl ?xc ?xk ?xp; (case xa => k_is); (case xl => k_is); (case xc => k_is); (case xk => k_is); (case xp => exact trivial))
    case f__law_class => (refine' K4.fnIn_mk ?xa ?xl ?xc ?xk ?xp; (case xa => k_is); (case xl => k_is); (case xc => k_is); (case xk => k_is); (case xp => exact trivial))
    case f__law_right => (refine' K4.fnIn_mk ?xa ?xl ?xc ?xk ?xp; (case xa => k_is); (case xl => k_is); (case xc => k_is); (case xk => k_is); (case xp => exact rfl))
    case f_law => (refine' K4.fnIn_mk ?xa ?xl ?xc ?xk ?xp; (case xa => k_is); (case xl => k_is); (case xc => k_is); (case xk => k_is); (case xp => exact trivial))
    case n_list => k_is
    case n_len => k_is
    case n_isinstance => k_is
    case n_all => k_is
    case n_str => k_is
    case n_tuple => k_is
    case n_range => k_is
    case n_int => k_is
    case g_NAME_SIGNS => (refine' K4.cst_mk ?xe ?xf; (case xe => k_is); (case xf => exact ⟨_, rfl⟩))
    case g_LONGEST_NAME => (refine' K4.cst_mk ?xe ?xf; (case xe => k_is); (case xf => exact ⟨_, rfl⟩))
    case g_TAKEN => (refine' K4.cst_mk ?xe ?xf; (case xe => k_is); (case xf => exact ⟨_, rfl⟩))
  have hbi : ∃ bm o, mg "__builtins__" = some (.ref bm) ∧ bm ≠ builtinsNs ∧ bm ≠ mainGlobals ∧ s₁.heap.get? bm = some o ∧ o.cls = .type "module" ∧ o.dict = some builtinsNs ∧ o.data = .plain := by
    obtain ⟨bm, ob, b1, b2, b3, b4, b5, b6⟩ := T.bmain
    refine ⟨bm, ob, b1, b2, fun q => ?_, b3, b4, b5, b6⟩
    obtain ⟨o, es, ep, e, hd, _⟩ := T.g
    rw [q, e] at b3; cases b3; rw [hd] at b6; cases b6

  obtain ⟨fd, hb, hF⟩ := K4.all_law (P := PySem.Challenge.rw_lightmark_k04_parts_of_built_texts.row.prog) (w := w) (Pt := Pt) (L2.dropK_in KX) T.g hmg (t.drop (L2.tabs0_of KX hTT)) tc
  refine wpAny_call (codeAny_mono (L2.law_callT (L2.dropK_in KX) T.g T.b T.builtins T.nolimit hg (Nat.lt_of_lt_of_le (by decide) htk) hobj hI (Lw.big (by omega)) ⟨rfl, by decide, by decide⟩ hTT L2.dropK_not hbi hF hb (fun H hO hS hB => ⟨a, ns, rfl, hS, hbits, hB _ (List.mem_singleton.mpr rfl), fun _ => rfl⟩) fun H e s' z => z) fun r s' q => ?_)
  obtain ⟨rfl, q⟩ := q
  exact L2.true_law (fun _ => rfl) (by with_unfolding_all rfl) q
#print axioms PySem.Challenge.cw_lightmark_k04_parts_of_built_texts_holds

