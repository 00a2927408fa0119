import PyProof.Rows.All
import Wide.All
import OpenK.AllK
import Wide.FinOn
import Lean
import PyProof.EqAt
import PyProof.EqKinds
import PyProof.TupleCall
import KE.KTryMore
import PyProof.NsDelKeeps
import KE.KNest
import PyProof.StrLawsTight
import PyProof.StrBlockI
import PyProof.StrBlock2
import PyProof.StrCalls6
import PyProof.Rows.StrCase
import PyProof.Rows.StrFirst
import PySem.Challenge.RW_lightmark_k08_whole_filled
-- CHANGE: your row's module here, as the last of these rows
set_option Elab.async false
set_option linter.all false
set_option maxRecDepth 100000
/-! THE HAND LAYER, for ints, bools, texts, own classes, LISTS and tuples (index, slices, in, append, pop ..), calls, loops. Paste it whole ahead of your own text; what your proof does not reach may be deleted. -/
namespace L2
open PySem PySem.Spec PyProof.Rows

/-- a key: an int or a str -/
abbrev Key := Sum Int Str
def keyIs : Key → Value → Bool
  | .inl k, v => Value.isInt k v
  | .inr x, v => Value.isStrOf x v
def keyH (w : World) : Key → Int
  | .inl k => hashInt k
  | .inr x => hashStr w x
theorem keyIs_shape : ∀ {k : Key} {v : Value}, keyIs k v = true → (∃ i t, k = Sum.inl i ∧ v = Value.int i t) ∨ (∃ x t, k = Sum.inr x ∧ v = Value.str x t)
  | .inl i, v, h => by
    obtain ⟨t, e⟩ := Value.isInt_shape (k := i) (v := v) h
    exact .inl ⟨i, t, rfl, e⟩
  | .inr x, v, h => by
    obtain ⟨t, e⟩ := Value.isStrOf_shape (x := x) (v := v) h
    exact .inr ⟨x, t, rfl, e⟩
theorem key_ll (a b : Int) : decide ((Sum.inl a : Key) = Sum.inl b) = (a == b) := by
  by_cases e : a = b
  · subst e; simp
  · have h : ¬ (Sum.inl a : Key) = Sum.inl b := fun q => e (Sum.inl.inj q)
    rw [decide_eq_false h]
    exact (beq_eq_false_iff_ne.mpr e).symm
theorem key_rr (a b : Str) : decide ((Sum.inr a : Key) = Sum.inr b) = decide (a = b) := by
  by_cases e : a = b
  · subst e; simp
  · have h : ¬ (Sum.inr a : Key) = Sum.inr b := fun q => e (Sum.inr.inj q)
    rw [decide_eq_false h, decide_eq_false e]
theorem key_lr (a : Int) (b : Str) : decide ((Sum.inl a : Key) = Sum.inr b) = false := decide_eq_false (fun q => nomatch q)
theorem key_rl (a : Str) (b : Int) : decide ((Sum.inr a : Key) = Sum.inl b) = false := decide_eq_false (fun q => nomatch q)

def mixKind (prog : Program) (w : World) : PySem.KeyKind prog w Key where
  is := keyIs
  hash := keyH w
  inj := fun v a b ha hb => by
    rcases keyIs_shape ha with ⟨i, t, rfl, rfl⟩ | ⟨x, t, rfl, rfl⟩
    · rcases keyIs_shape hb with ⟨j, u, rfl, e⟩ | ⟨y, u, rfl, e⟩
      · injection e with e1 _; rw [e1]
      · exact nomatch e
    · rcases keyIs_shape hb with ⟨j, u, rfl, e⟩ | ⟨y, u, rfl, e⟩
      · exact nomatch e
      · injection e with e1 _; rw [e1]
  byValue := fun k v h => by
    rcases keyIs_shape h with ⟨i, t, rfl, rfl⟩ | ⟨x, t, rfl, rfl⟩ <;> rfl
  pyHash := fun hv h => by
    rcases keyIs_shape hv with ⟨i, t, rfl, rfl⟩ | ⟨x, t, rfl, rfl⟩
    · exact wpAny_pyHash_int h
    · exact wpAny_pyHash_str h
  eqBool := fun hu hv h => by
    rcases keyIs_shape hu with ⟨i, t, rfl, rfl⟩ | ⟨x, t, rfl, rfl⟩
    · rcases keyIs_shape hv with ⟨j, u, rfl, rfl⟩ | ⟨y, u, rfl, rfl⟩
      · rw [key_ll] at h; exact wpAny_eqBool_int h
      · rw [key_lr] at h; exact SeqAt.EqAt.int_str i t y u _ _ _ _ h
    · rcases keyIs_shape hv with ⟨j, u, rfl, rfl⟩ | ⟨y, u, rfl, rfl⟩
      · rw [key_rl] at h; exact SeqAt.EqAt.str_int x t j u _ _ _ _ h
      · rw [key_rr] at h; exact wpAny_eqBool_str h
  «strs» := fun k x t v h => by
    rcases keyIs_shape h with ⟨i, u, rfl, e⟩ | ⟨y, u, rfl, e⟩
    · exact nomatch e
    · injection e with e1 _
      subst e1
      cases v <;> rfl

end L2

namespace L2
open PySem PySem.Spec PyProof.Rows

/-- a value, without the heap -/
inductive V where
  | non | bl (b : Bool) | int (i : Int) | str (x : Str) | byt (b : Array UInt8) | flt (b : UInt64) | ref (a : Addr) | ty (n : String)
  deriving DecidableEq

def RelV : V → Value → Prop
  | .non, u => u = Value.none
  | .bl b, u => u = Value.bool b
  | .int i, u => ∃ t, u = Value.int i t
  | .str x, u => ∃ t, u = Value.str x t
  | .byt b, u => ∃ t, u = Value.bytes b t
  | .flt b, u => ∃ t, u = Value.float b t
  | .ref a, u => u = Value.ref a
  | .ty n, u => u = Value.type n

abbrev Vals : List V → List Value → Prop := Paired RelV
theorem Vals.length {xs : List V} {us : List Value} (r : Vals xs us) : xs.length = us.length := Paired.length r
theorem Vals.get : ∀ {xs : List V} {us : List Value} {i : Nat} {x : V}, Vals xs us → xs[i]? = some x → ∃ u, us[i]? = some u ∧ RelV x u
  | _, _, _, _, .nil, e => by simp at e
  | _, _, 0, _, .cons r _, e => by simp at e; subst e; exact ⟨_, rfl, r⟩
  | _, _, i + 1, x, .cons _ t, e => by
    obtain ⟨u, h1, h2⟩ := Vals.get (i := i) (x := x) t (by simpa using e)
    exact ⟨u, by simpa using h1, h2⟩
theorem Vals.set {x : V} {u : Value} (r : RelV x u) : ∀ {xs : List V} {us : List Value} (i : Nat), Vals xs us → Vals (xs.set i x) (us.set i u)
  | _, _, _, .nil => .nil
  | _, _, 0, .cons _ t => .cons r t
  | _, _, i + 1, .cons q t => .cons q (Vals.set r i t)
theorem Vals.append : ∀ {xs ys : List V} {us ws : List Value}, Vals xs us → Vals ys ws → Vals (xs ++ ys) (us ++ ws)
  | _, _, _, _, .nil, s => s
  | _, _, _, _, .cons r t, s => .cons r (Vals.append t s)
theorem Vals.take : ∀ {xs : List V} {us : List Value} (n : Nat), Vals xs us → Vals (xs.take n) (us.take n)
  | _, _, 0, _ => .nil
  | _, _, _ + 1, .nil => .nil
  | _, _, n + 1, .cons r t => .cons r (Vals.take n t)
theorem Vals.drop : ∀ {xs : List V} {us : List Value} (n : Nat), Vals xs us → Vals (xs.drop n) (us.drop n)
  | _, _, 0, r => r
  | _, _, _ + 1, .nil => .nil
  | _, _, n + 1, .cons _ t => Vals.drop n t

def RelO : Option V → Option Value → Prop
  | some v, some u => RelV v u
  | none, none => True
  | _, _ => False
def KV {κ : Type} : List (κ × V) → List (κ × Value) → Prop := Paired fun (p : κ × V) (q : κ × Value) => p.1 = q.1 ∧ RelV p.2 q.2

/-- a key of a dict (00_mix): an int or a text -/
def kV : Key → V
  | .inl i => .int i
  | .inr x => .str x

/-- what stands at a tracked address -/
inductive HO where
  /-- a list -/
  | lst (xs : List V)
  /-- a tuple (never changes) -/
  | tup (xs : List V)
  /-- a dict whose keys are ints and texts; one whose keys are tuples of ints and texts (the empty one is both) -/
  | dK (kvs : List (Key × V)) | dT (kvs : List (List Key × V))
  /-- a set of ints: its members, its size -/
  | set (S : Int → Bool) (n : Nat)
  /-- an instance of the class at C, its dict at dx, its attributes -/
  | ins (C dx : Addr) (fs : List (Str × V))
  /-- the dict of the instance at x -/
  | own (x : Addr)
  /-- the dict of an exception -/
  | xd (fs : List (Str × V))
  /-- a bound method, f of x -/
  | met (f x : Addr)
  /-- a range object lo, lo + 1, .. below hi -/
  | rng (lo hi : Int)
  /-- a thing that is known to the object (the script; a dict while a loop walks it): read, never written while it is so -/
  | frz (o : Obj) (u : HO)
  /-- a code object's table -/
  | tbl (ps : Array Value)
  /-- any other thing, by what is true of its one object (a def of one's own: SetO a S n := HO.ext fun h => ..) -/
  | ext (φ : Heap → Prop)

abbrev Hp := Addr → Option HO
def upd (H : Hp) (a : Addr) (o : HO) : Hp := fun b => if b = a then some o else H b
theorem upd_same {H : Hp} {a : Addr} {o : HO} : upd H a o a = some o := by unfold upd; rw [if_pos rfl]
theorem upd_ne {H : Hp} {a b : Addr} {o : HO} (h : b ≠ a) : upd H a o b = H b := by unfold upd; rw [if_neg h]
theorem ne_of_none {H : Hp} {a b : Addr} {o : HO} (h : H a = some o) (h' : H b = none) : a ≠ b := by
  intro e; subst e; rw [h] at h'; cases h'

section
variable (P : Program) (w : World)
def ObjOk (H : Hp) (h : Heap) (a : Addr) : HO → Prop
  | .lst xs => xs.length ≤ sizeLine ∧ ∃ (its : List Value) (n : Nat), Vals xs its ∧ h.get? a = some { cls := .type "list", data := .seq its.toArray n }
  | .tup xs => xs.length ≤ sizeLine ∧ ∃ its : List Value, Vals xs its ∧ IsTup h a its.toArray
  | .dK kvs => kvs.length ≤ sizeLine ∧ (a == sysModules) = false ∧ ∃ vs, KV kvs vs ∧ h.DictOf (mixKind P w) a vs
  | .dT kvs => kvs.length ≤ sizeLine ∧ (a == sysModules) = false ∧ ∃ xs : List (List Key × Addr × Value),
      Paired (fun (p : List Key × V) (q : List Key × Addr × Value) => p.1 = q.1 ∧ H q.2.1 = some (.tup (p.1.map kV)) ∧ RelV p.2 q.2.2) kvs xs ∧
      ∃ o es ep, h.get? a = some o ∧ o.ExactDict ∧ o.data = .dict es ep ∧ es.toList = xs.map (entryOfKey (tupleKind (mixKind P w))) ∧ (xs.map (·.1)).Nodup
  | .set S n => h.SetOf (intKind P w) a S n
  | .ins C dx fs => H dx = some (.own a) ∧ fs.length ≤ 1000 ∧ dx ≠ a ∧ h.get? a = some (PySem.W.instObj C dx) ∧
      ∃ mA, h.Ns1 dx mA ∧ (∀ f, RelO (fs.lookup f) (mA f)) ∧ PySem.Within mA (fs.map (·.1))
  | .own _ => ∃ o, h.get? a = some o
  | .xd fs => ∃ mA, h.Ns1 a mA ∧ ∀ f, RelO (fs.lookup f) (mA f)
  | .rng lo hi => ∃ t u v, h.get? a = some { cls := .type "range", data := .fields #[.int lo t, .int hi u, .int 1 v] }
  | .frz o u => h.get? a = some o ∧ ObjOk H h a u
  | .tbl ps => h.get? a = some { cls := .none, data := .fields ps }
  | .met f x => h.get? a = some (PySem.W.methodObj (.ref f) (.ref x))
  | .ext φ => φ h ∧ (∃ o, h.get? a = some o) ∧ ∀ h1 h2 : Heap, φ h1 → (∀ o, h1.get? a = some o → h2.get? a = some o) → φ h2
/-- the abstract heap is held -/
def HOk (H : Hp) (h : Heap) : Prop := ∀ a o, H a = some o → ObjOk P w H h a o
end

section
variable {P : Program} {w : World} {H H' : Hp} {h h' : Heap} {a : Addr} {o : HO}
theorem ObjOk.lt (x : ObjOk P w H h a o) : a < h.objs.size := by
  cases o with
  | lst xs => obtain ⟨_, _, _, _, e⟩ := x; exact Heap.lt_size e
  | tup xs => obtain ⟨_, _, _, p⟩ := x; exact p.lt
  | dK kvs => obtain ⟨_, _, _, _, o, _, _, e, _⟩ := x; exact Heap.lt_size e
  | dT kvs => obtain ⟨_, _, _, _, o, _, _, e, _⟩ := x; exact Heap.lt_size e
  | set S n => obtain ⟨o, _, _, _, e, _⟩ := x; exact Heap.lt_size e
  | ins C dx fs => obtain ⟨_, _, _, e, _⟩ := x; exact Heap.lt_size e
  | own y => obtain ⟨_, e⟩ := x; exact Heap.lt_size e
  | xd fs => obtain ⟨_, ⟨_, _, _, e, _⟩, _⟩ := x; exact Heap.lt_size e
  | rng lo hi => obtain ⟨_, _, _, e⟩ := x; exact Heap.lt_size e
  | frz ob u => obtain ⟨e, _⟩ := x; exact Heap.lt_size e
  | tbl ps => exact Heap.lt_size (show h.get? a = some _ from x)
  | met f y => exact Heap.lt_size (show h.get? a = some _ from x)
  | ext φ => obtain ⟨_, ⟨_, e⟩, _⟩ := x; exact Heap.lt_size e
theorem Paired.mapP {α β : Type} {F G : α → β → Prop} : ∀ {l₁ : List α} {l₂ : List β}, Paired F l₁ l₂ → (∀ a b, F a b → G a b) → Paired G l₁ l₂
  | _, _, .nil, _ => .nil
  | _, _, .cons r t, f => .cons (f _ _ r) (Paired.mapP t f)
/-- what an object's description leans on: its own object, its own dict, the tuples -/
theorem ObjOk.stay (x : ObjOk P w H h a o) (k : ∀ b u, (b = a ∨ H b = some (.own a)) → h.get? b = some u → h'.get? b = some u)
    (ho : ∀ b, H b = some (.own a) → H' b = some (.own a)) (ht : ∀ b xs, H b = some (.tup xs) → H' b = some (.tup xs)) : ObjOk P w H' h' a o := by
  induction o with
  | lst xs => obtain ⟨z, its, n, r, e⟩ := x; exact ⟨z, its, n, r, k _ _ (.inl rfl) e⟩
  | tup xs => obtain ⟨z, its, r, ob, e, c⟩ := x; exact ⟨z, its, r, ob, k _ _ (.inl rfl) e, c⟩
  | dK kvs => obtain ⟨z, y, vs, r, ob, es, ep, e, c⟩ := x; exact ⟨z, y, vs, r, ob, es, ep, k _ _ (.inl rfl) e, c⟩
  | dT kvs =>
    obtain ⟨z, y, xs, r, ob, es, ep, e, c⟩ := x
    exact ⟨z, y, xs, Paired.mapP r fun p q z => ⟨z.1, ht _ _ z.2.1, z.2.2⟩, ob, es, ep, k _ _ (.inl rfl) e, c⟩
  | set S n => obtain ⟨ob, es, ep, t, e, c⟩ := x; exact ⟨ob, es, ep, t, k _ _ (.inl rfl) e, c⟩
  | ins C dx fs =>
    obtain ⟨d, z, ne, e, mA, ⟨od, es, ep, e2, c⟩, r⟩ := x
    exact ⟨ho _ d, z, ne, k _ _ (.inl rfl) e, mA, ⟨od, es, ep, k _ _ (.inr d) e2, c⟩, r⟩
  | own y => obtain ⟨ob, e⟩ := x; exact ⟨ob, k _ _ (.inl rfl) e⟩
  | xd fs => obtain ⟨mA, ⟨od, es, ep, e, c⟩, r⟩ := x; exact ⟨mA, ⟨od, es, ep, k _ _ (.inl rfl) e, c⟩, r⟩
  | rng lo hi => obtain ⟨t, u, v, e⟩ := x; exact ⟨t, u, v, k _ _ (.inl rfl) e⟩
  | frz ob u ih => obtain ⟨e, q⟩ := x; exact ⟨k _ _ (.inl rfl) e, ih q⟩
  | tbl ps =>
    have e : h.get? a = some { cls := .none, data := .fields ps } := x
    show h'.get? a = some { cls := .none, data := .fields ps }
    exact k a _ (.inl rfl) e
  | met f y =>
    have e : h.get? a = some (PySem.W.methodObj (.ref f) (.ref y)) := x
    show h'.get? a = some (PySem.W.methodObj (.ref f) (.ref y))
    exact k a _ (.inl rfl) e
  | ext φ => obtain ⟨p, ⟨o, e⟩, st⟩ := x; exact ⟨st _ _ p fun o q => k _ _ (.inl rfl) q, ⟨o, k _ _ (.inl rfl) e⟩, st⟩
theorem HOk.lt (x : HOk P w H h) (e : H a = some o) : a < h.objs.size := (x a o e).lt
theorem HOk.fresh (x : HOk P w H h) (e : h.objs.size ≤ a) : H a = none := by
  cases q : H a with
  | none => rfl
  | some u => exact absurd (Nat.lt_of_lt_of_le (x.lt q) e) (Nat.lt_irrefl _)
/-- every object of the heap is kept -/
theorem HOk.kept (x : HOk P w H h) (k : ∀ b u, h.get? b = some u → h'.get? b = some u) : HOk P w H h' := fun a o e =>
  (x a o e).stay (fun b u _ q => k b u q) (fun _ q => q) fun _ _ q => q
/-- a new object is laid and tracked -/
theorem HOk.laid (x : HOk P w H h) (k : ∀ b u, h.get? b = some u → h'.get? b = some u) (hp : h.objs.size ≤ a) (new : ObjOk P w (upd H a o) h' a o) : HOk P w (upd H a o) h' := fun b u e => by
  have hn := x.fresh hp
  by_cases hb : b = a
  · subst hb; rw [upd_same] at e; cases e; exact new
  · rw [upd_ne hb] at e
    exact (x b u e).stay (fun c v _ q => k c v q) (fun c q => by rw [upd_ne (ne_of_none q hn)]; exact q) fun c xs q => by rw [upd_ne (ne_of_none q hn)]; exact q
end

/-- what may be read as u: it is u, or a known u -/
def Rd (H : Hp) (a : Addr) (u : HO) : Prop := H a = some u ∨ ∃ o, H a = some (.frz o u)
theorem Rd.ok {P : Program} {w : World} {H : Hp} {h : Heap} {a : Addr} {u : HO} (r : Rd H a u) (x : HOk P w H h) : ObjOk P w H h a u := by
  rcases r with r | ⟨o, r⟩
  · exact x a u r
  · obtain ⟨_, q⟩ := x a _ r
    exact q
/-- what may be written -/
def Mut : Option HO → Prop
  | some (.lst _) => True
  | some (.dK _) => True
  | some (.dT _) => True
  | some (.set _ _) => True
  | some (.ins _ _ _) => True
  | some (.ext _) => True
  | _ => False
section
variable {P : Program} {w : World} {H : Hp} {h h' : Heap} {x e : Addr} {o' : HO}
/-- the object at e is changed: x itself, or the dict of the instance x -/
theorem HOk.write (ok : HOk P w H h) (mu : Mut (H x)) (he : e = x ∨ H e = some (.own x)) (k : ∀ b u, b ≠ e → h.get? b = some u → h'.get? b = some u) (heo : ∃ u, h'.get? e = some u)
    (new : ObjOk P w (upd H x o') h' x o') : HOk P w (upd H x o') h' := fun b u q => by
  have nown : ∀ c y, H c = some (.own y) → c ≠ x := fun c y r z => by subst z; rw [r] at mu; exact mu
  have ntup : ∀ c xs, H c = some (.tup xs) → c ≠ x := fun c xs r z => by subst z; rw [r] at mu; exact mu
  by_cases hb : b = x
  · subst hb; rw [upd_same] at q; cases q; exact new
  · rw [upd_ne hb] at q
    by_cases hbe : b = e
    · have q' : H b = some (.own x) := by
        rcases he with z | z
        · exact absurd (hbe.trans z) hb
        · rw [hbe]; exact z
      rw [q] at q'; cases q'
      obtain ⟨v, hv⟩ := heo
      exact ⟨v, by rw [hbe]; exact hv⟩
    · refine (ok b u q).stay (fun c v hc r => k c v ?_ r) (fun c r => by rw [upd_ne (nown c b r)]; exact r) fun c xs r => by rw [upd_ne (ntup c xs r)]; exact r
      rcases hc with rfl | hc
      · exact hbe
      · rintro rfl
        rcases he with z | z
        · exact nown c b hc z
        · rw [hc] at z; cases z; exact hb rfl
end

/-! ### kept unless tracked; of the frames at fs (the callers') the slots may change (an exception that passes writes there); of the records at ex (iterators) nothing is said -/
structure Un (fs ex : List Addr) (H H' : Hp) (h h' : Heap) : Prop where
  keep : ∀ b o, h.get? b = some o → H b = none → b ∉ fs → b ∉ ex → h'.get? b = some o
  slot : ∀ b o, h.get? b = some o → H b = none → b ∈ fs → b ∉ ex → ∃ sl, h'.get? b = some { o with slots := sl }
  free : ∀ b o, h.get? b = some o → H b = none → b ∉ ex → H' b = none
  there : ∀ b o, h.get? b = some o → b ∉ ex → ∃ o', h'.get? b = some o'
  tups : ∀ b xs, H b = some (.tup xs) → H' b = some (.tup xs)
  frzs : ∀ b o u, H b = some (.frz o u) → H' b = some (.frz o u)
  tbls : ∀ b ps, H b = some (.tbl ps) → ∃ more, H' b = some (.tbl (ps ++ more))
section
variable {fs fs' ex ex' : List Addr} {H H1 H2 : Hp} {h h1 h2 h' : Heap} {a x e : Addr} {o : HO}
theorem Un.any (u : Un fs ex H H1 h h1) {b : Addr} {ob : Obj} (q : h.get? b = some ob) (n : H b = none) (hx : b ∉ ex) : ∃ sl, h1.get? b = some { ob with slots := sl } := by
  by_cases hb : b ∈ fs
  · exact u.slot b ob q n hb hx
  · exact ⟨ob.slots, u.keep b ob q n hb hx⟩
theorem Un.kept (k : ∀ b u, h.get? b = some u → h'.get? b = some u) : Un fs ex H H h h' :=
  ⟨fun b ob q _ _ _ => k b ob q, fun b ob q _ _ _ => ⟨ob.slots, k b ob q⟩, fun _ _ _ n _ => n, fun b ob q _ => ⟨ob, k b ob q⟩, fun _ _ q => q, fun _ _ _ q => q, fun _ ps q => ⟨#[], by rw [q]; simp⟩⟩
theorem Un.refl : Un fs ex H H h h := Un.kept fun _ _ q => q
theorem Un.laid (k : ∀ b u, h.get? b = some u → h'.get? b = some u) (hp : h.objs.size ≤ a) (hn : H a = none) : Un fs ex H (upd H a o) h h' where
  keep := fun b u q _ _ _ => k b u q
  slot := fun b u q _ _ _ => ⟨u.slots, k b u q⟩
  free := fun b u q n _ => by rw [upd_ne (Nat.ne_of_lt (Nat.lt_of_lt_of_le (Heap.lt_size q) hp))]; exact n
  there := fun b u q _ => ⟨u, k b u q⟩
  tups := fun b xs q => by rw [upd_ne (ne_of_none q hn)]; exact q
  frzs := fun b u xs q => by rw [upd_ne (ne_of_none q hn)]; exact q
  tbls := fun b ps q => ⟨#[], by rw [upd_ne (ne_of_none q hn), q]; simp⟩
theorem Un.write (mu : Mut (H x)) (he : e = x ∨ H e = some (.own x)) (k : ∀ b u, b ≠ e → h.get? b = some u → h'.get? b = some u) (heo : ∃ u, h'.get? e = some u) : Un fs ex H (upd H x o) h h' := by
  have hx : ∀ b, H b = none → b ≠ x := fun b n z => by subst z; rw [n] at mu; exact mu
  have hb : ∀ b, H b = none → b ≠ e := fun b n z => by
    subst z
    rcases he with r | r
    · exact hx b n r
    · rw [n] at r; cases r
  have hm : ∀ b u, H b = some u → ¬ Mut (some u) → b ≠ x := fun b u q nm z => by subst z; rw [q] at mu; exact nm mu
  refine ⟨fun b u q n _ _ => k b u (hb b n) q, fun b u q n _ _ => ⟨u.slots, k b u (hb b n) q⟩, fun b u q n _ => by rw [upd_ne (hx b n)]; exact n, fun b u q _ => ?_,
    fun b xs q => by rw [upd_ne (hm b _ q fun z => z)]; exact q, fun b u xs q => by rw [upd_ne (hm b _ q fun z => z)]; exact q, fun b ps q => ⟨#[], by rw [upd_ne (hm b _ q fun z => z), q]; simp⟩⟩
  by_cases hbe : b = e
  · subst hbe; exact heo
  · exact ⟨u, k b u hbe q⟩
end

/-! ### the heap without what is tracked -/
def trk (h : Heap) (H : Hp) : List Addr := (List.range h.objs.size).filter fun a => (H a).isSome
def hidT (h : Heap) (H : Hp) : Heap := PySem.W.hideAll h (trk h H)
theorem hidT_size (h : Heap) (H : Hp) : (hidT h H).objs.size = h.objs.size := PySem.W.hideAll_size _ _
theorem hidT_get {h : Heap} {H : Hp} {b : Addr} {o : Obj} (e : h.get? b = some o) (n : H b = none) : (hidT h H).get? b = some o :=
  PySem.W.hideAll_get _ e fun hm => by
    have q : (H b).isSome = true := (List.mem_filter.mp hm).2
    rw [n] at q; simp at q
theorem of_hidT {h : Heap} {H : Hp} {b : Addr} {o : Obj} (e : (hidT h H).get? b = some o) : h.get? b = some o ∧ H b = none := by
  have e' : h.get? b = some o := PySem.W.of_hideAll (trk h H) e
  refine ⟨e', ?_⟩
  cases q : H b with
  | none => rfl
  | some x =>
    have hm : b ∈ trk h H := List.mem_filter.mpr ⟨List.mem_range.mpr (Heap.lt_size e'), by simp [q]⟩
    have z : (hidT h H).get? b = none := PySem.W.hideAll_none (trk h H) hm
    rw [z] at e; cases e

/-! ### OpenK's ledger, filled with every new object but one -/
end L2

namespace L2
open PySem PySem.Spec PyProof.Rows

/-- the module's facts, over the base: the heap at the law's entry without what is tracked there -/
structure Mod (K : PySem.W.Frag) (mg : Str → Option Value) (base : Heap) : Prop where
  kin : K.In base
  glob : base.Ns mainGlobals mg
  blt : ∃ mb, base.Ns builtinsNs mb ∧ ∀ x : Str, x ≠ "__name__" → mb x = bootBuiltins x
  nolimit : base.NoLimit

/-- the context: a def's body (or a comprehension's block) running. base: fixed through the whole law; s₀, H₀: the entry; outer: the frames whose slots others may change (a def's callers); stack: all frames that run;
   ex: iterators that were made ahead of the entry and are walked here (a comprehension's); fn: the names whose cells were made at the entry (a def: all; a comprehension's block: its own); calm: not within an except suite; pn: pins that every state bears; xe: what is wanted of an exception that leaves the code -/
structure Cx where
  prog : Program
  w : World
  K : PySem.W.Frag
  mg : Str → Option Value
  base : Heap
  A : Around
  N : List Str
  s₀ : Shared
  H₀ : Hp
  env : Env
  outer : List Env
  stack : List Env
  ex : List Addr
  fn : Str → Bool
  calm : Bool
  pn : List (Addr × Obj)
  xe : Value → Shared → Prop
/-- the callers' frames -/
def frs (l : List Env) : List Addr := l.filterMap (·.frame)
abbrev Cx.fs (X : Cx) : List Addr := frs X.outer

def Vis (sc : Scope) (x : Str) : Prop := sc.names.lookup x = some .local ∨ sc.names.lookup x = some .cell ∨ sc.names.lookup x = some .free
def Loc (sc : Scope) (x : Str) : Prop := sc.names.lookup x = some .local ∨ sc.names.lookup x = some .cell
def Look (env : Env) (h : Heap) (m : Str → Option Value) (x : Str) (u : Value) : Prop :=
  (env.kindOf x = some .local ∧ m x = some u) ∨ ((env.kindOf x = some .cell ∨ env.kindOf x = some .free) ∧ ∃ c, env.cells.lookup x = some c ∧ h.IsCell c (some u))

structure Cx.Ok (X : Cx) : Prop where
  mod : Mod X.K X.mg X.base
  kind : X.env.scope.kind = .function
  glob : X.env.globals = mainGlobals
  blt : X.env.builtins = builtinsNs
  above : X.s₀.heap.objs.size ≤ X.env.locals
  inj : ∀ x y c, X.env.cells.lookup x = some c → X.env.cells.lookup y = some c → x = y
  has : ∀ x, (X.env.kindOf x = some .cell ∨ X.env.kindOf x = some .free) → ∃ c, X.env.cells.lookup x = some c
  cab : ∀ x c, X.fn x = true → X.env.cells.lookup x = some c → X.s₀.heap.objs.size ≤ c
  hd : X.calm = true → X.A.handled = none
  frames : X.A.frames = some X.stack
  stk : X.stack = X.outer ∨ (X.stack = X.env :: X.outer ∧ X.env.frame = some X.env.locals)
  exf : ∀ b ∈ X.ex, b ≠ X.env.locals ∧ ∀ x c, X.env.cells.lookup x = some c → c ≠ b
  bs : ∀ b o, X.base.get? b = some o → X.s₀.heap.get? b = some o ∧ X.H₀ b = none
  bsz : X.base.objs.size ≤ X.s₀.heap.objs.size
  noex : ∀ b o, X.base.get? b = some o → b ∉ X.ex
  exfs : ∀ b ∈ X.ex, b ∉ X.fs
  funs : X.s₀.heap.FunFrames X.base X.outer
  frf : ∀ b ∈ X.fs, X.H₀ b = none

structure Inv (X : Cx) (pins : List (Addr × Obj)) (σ : List (Option V)) (H : Hp) (s : Shared) : Prop where
  ok : X.Ok
  os : s.os = X.s₀.os
  bare : AllBare s.gens
  base : Un X.fs X.ex X.H₀ H X.s₀.heap s.heap
  loc : ∃ m, s.heap.Ns X.env.locals m ∧ ∀ (i : Nat) (x : Str) (v : V), X.N[i]? = some x → σ[i]? = some (some v) → Vis X.env.scope x → ∃ u, RelV v u ∧ Look X.env s.heap m x u
  cell : ∀ x c, X.env.cells.lookup x = some c → ∃ v, s.heap.IsCell c v
  free : H X.env.locals = none
  freeC : ∀ x c, X.env.cells.lookup x = some c → H c = none
  pin : ∀ p ∈ X.pn ++ pins, s.heap.get? p.1 = some p.2 ∧ H p.1 = none ∧ p.1 ≠ X.env.locals ∧ p.1 ∉ X.fs ∧ ∀ v, p.2.data ≠ .cell v
  hok : HOk X.prog X.w H s.heap
  len : σ.length = X.N.length
  tk : 0 < s.toks

section
variable {X : Cx} {pins : List (Addr × Obj)} {σ : List (Option V)} {H H' : Hp} {s : Shared} {h' : Heap}

theorem Cx.Ok.nofr (ok : X.Ok) {b : Addr} {o : Obj} (e : X.base.get? b = some o) : b ∉ X.fs := fun hb => by
  have := (ok.funs.mem hb).1
  rw [e] at this; cases this
theorem Inv.bs (I : Inv X pins σ H s) : ∀ b o, X.base.get? b = some o → s.heap.get? b = some o ∧ H b = none := fun b o e =>
  ⟨I.base.keep b o (I.ok.bs b o e).1 (I.ok.bs b o e).2 (I.ok.nofr e) (I.ok.noex b o e), I.base.free b o (I.ok.bs b o e).1 (I.ok.bs b o e).2 (I.ok.noex b o e)⟩
theorem Inv.bk (I : Inv X pins σ H s) : ∀ b o, X.base.get? b = some o → s.heap.get? b = some o := fun b o e => (I.bs b o e).1
theorem Inv.mod (I : Inv X pins σ H s) : Mod X.K X.mg X.base := I.ok.mod
theorem Inv.kIn (I : Inv X pins σ H s) : X.K.In s.heap := I.ok.mod.kin.keeps I.bk
theorem Inv.lt (I : Inv X pins σ H s) : X.env.locals < s.heap.objs.size := let ⟨_, hn, _⟩ := I.loc; hn.lt
theorem Inv.sz (I : Inv X pins σ H s) : X.s₀.heap.objs.size ≤ s.heap.objs.size := Nat.le_trans I.ok.above (Nat.le_of_lt I.lt)
theorem Inv.nofs (I : Inv X pins σ H s) {a : Addr} (h : s.heap.objs.size ≤ a) : a ∉ X.fs := fun hb => by
  obtain ⟨_, o, ho, _⟩ := I.ok.funs.mem hb
  exact absurd (Nat.lt_of_lt_of_le (Heap.lt_size ho) (Nat.le_trans I.sz h)) (Nat.lt_irrefl _)
theorem Inv.cne (I : Inv X pins σ H s) : ∀ x c, X.env.cells.lookup x = some c → c ≠ X.env.locals := fun x c e z => by
  obtain ⟨v, o, ho, hd⟩ := I.cell x c e
  obtain ⟨m, ⟨o', es, ep, ho', hd', _⟩, _⟩ := I.loc
  rw [z, ho'] at ho; cases ho; rw [hd'] at hd; cases hd
theorem Inv.funs (I : Inv X pins σ H s) : s.heap.FunFrames X.base X.outer := by
  have all : ∀ (l : List Env), (∀ b ∈ frs l, b ∈ X.fs) → X.s₀.heap.FunFrames X.base l → s.heap.FunFrames X.base l := by
    intro l
    induction l with
    | nil => intro _ _; trivial
    | cons env r ih =>
      intro hs hl
      obtain ⟨hk, ⟨L, o, hf, hn, ho, hd⟩, hr⟩ := hl
      have hL : L ∈ X.fs := hs L (by unfold frs; rw [List.filterMap_cons, hf]; exact List.mem_cons_self)
      obtain ⟨sl, e⟩ := I.base.slot L o ho (I.ok.frf L hL) hL fun z => I.ok.exfs L z hL
      exact ⟨hk, ⟨L, _, hf, hn, e, hd⟩, ih (fun b hb => hs b (by unfold frs; rw [List.filterMap_cons, hf]; exact List.mem_cons_of_mem _ hb)) hr⟩
  exact all X.outer (fun _ hb => hb) I.ok.funs

/-- the frames that run, for a call -/
theorem Inv.stack (I : Inv X pins σ H s) : s.heap.FunFrames X.base X.stack := by
  rcases I.ok.stk with e | ⟨e, hf⟩
  · rw [e]; exact I.funs
  · rw [e]
    obtain ⟨m, hn, _⟩ := I.loc
    refine .cons (by rw [I.ok.kind]; decide) hf hn ?_ I.funs
    exact Heap.get?_none_of_le (Nat.le_trans I.ok.bsz I.ok.above)
theorem Inv.stkSub (I : Inv X pins σ H s) : ∀ b ∈ frs X.stack, b ∈ X.env.locals :: X.fs := fun b hb => by
  rcases I.ok.stk with e | ⟨e, hf⟩
  · rw [e] at hb; exact List.mem_cons_of_mem _ hb
  · rw [e] at hb
    unfold frs at hb
    rw [List.filterMap_cons, hf] at hb
    exact hb
theorem Inv.stkFree (I : Inv X pins σ H s) : ∀ b ∈ frs X.stack, H b = none := fun b hb => by
  rcases List.mem_cons.mp (I.stkSub b hb) with e | hb
  · rw [e]; exact I.free
  · obtain ⟨_, o, ho, _⟩ := I.ok.funs.mem hb
    exact I.base.free b o ho (I.ok.frf b hb) fun z => I.ok.exfs b z hb

/-- THE STEP: the untracked objects but the frame and the records at ch are kept (the callers' frames up to slots), the frame's map is kept, the new abstract heap is held -/
theorem Inv.step {g' : Array GenState} {t' : Nat} {d' : Drawn} {ch : List Addr} (I : Inv X pins σ H s)
    (hch : ∀ b ∈ ch, (b ∈ X.ex ∨ X.s₀.heap.objs.size ≤ b) ∧ b ≠ X.env.locals ∧ (∀ x c, X.env.cells.lookup x = some c → c ≠ b) ∧ ∀ p ∈ X.pn ++ pins, p.1 ≠ b)
    (keep : ∀ b o, b ≠ X.env.locals → b ∉ X.fs → b ∉ ch → s.heap.get? b = some o → H b = none → h'.get? b = some o)
    (slot : ∀ b o, b ≠ X.env.locals → b ∈ X.fs → b ∉ ch → s.heap.get? b = some o → H b = none → ∃ sl, h'.get? b = some { o with slots := sl }) (free : ∀ b o, b ∉ ch → s.heap.get? b = some o → H b = none → H' b = none)
    (there : ∀ b o, b ∉ ch → s.heap.get? b = some o → ∃ o', h'.get? b = some o')
    (tups : ∀ b xs, H b = some (.tup xs) → H' b = some (.tup xs)) (frzs : ∀ b o u, H b = some (.frz o u) → H' b = some (.frz o u)) (tbls : ∀ b ps, H b = some (.tbl ps) → ∃ more, H' b = some (.tbl (ps ++ more)))
    (ns : ∀ m, s.heap.Ns X.env.locals m → h'.Ns X.env.locals m) (hok : HOk X.prog X.w H' h') (hg : AllBare g') (ht : 0 < t' := by first | assumption | exact Nat.succ_pos _ | (apply Inv.tk; assumption)) :
    Inv X pins σ H' { s with heap := h', gens := g', drawn := d', toks := t' } := by
  have neL : ∀ b o, X.s₀.heap.get? b = some o → b ≠ X.env.locals := fun b o e => Nat.ne_of_lt (Nat.lt_of_lt_of_le (Heap.lt_size e) I.ok.above)
  have neC : ∀ b o, X.s₀.heap.get? b = some o → b ∉ X.ex → b ∉ ch := fun b o e hx hb => by
    rcases (hch b hb).1 with z | z
    · exact hx z
    · exact absurd (Nat.lt_of_lt_of_le (Heap.lt_size e) z) (Nat.lt_irrefl _)
  have cellK : ∀ x c, X.env.cells.lookup x = some c → ∀ v, s.heap.IsCell c v → h'.IsCell c v := fun x c e v ⟨o, ho, hd⟩ => by
    have nch : c ∉ ch := fun z => (hch c z).2.2.1 x c e rfl
    by_cases hc : c ∈ X.fs
    · obtain ⟨sl, q⟩ := slot c o (I.cne x c e) hc nch ho (I.freeC x c e)
      exact ⟨_, q, hd⟩
    · exact ⟨o, keep c o (I.cne x c e) hc nch ho (I.freeC x c e), hd⟩
  refine ⟨I.ok, I.os, hg, ⟨fun b o e n hb hx => ?_, fun b o e n hb hx => ?_, fun b o e n hx => ?_, fun b o e hx => ?_, fun b xs e => tups b xs (I.base.tups b xs e), fun b o xs e => frzs b o xs (I.base.frzs b o xs e), fun b ps e => ?_⟩, ?_, fun x c e => ?_, ?_, fun x c e => ?_, fun p hp => ?_, hok, I.len, ht⟩
  · exact keep b o (neL b o e) hb (neC b o e hx) (I.base.keep b o e n hb hx) (I.base.free b o e n hx)
  · obtain ⟨sl, e1⟩ := I.base.slot b o e n hb hx
    obtain ⟨sl', e2⟩ := slot b _ (neL b o e) hb (neC b o e hx) e1 (I.base.free b o e n hx)
    exact ⟨sl', e2⟩
  · obtain ⟨o', e1⟩ := I.base.there b o e hx
    exact free b o' (neC b o e hx) e1 (I.base.free b o e n hx)
  · obtain ⟨o', e1⟩ := I.base.there b o e hx
    exact there b o' (neC b o e hx) e1
  · obtain ⟨m1, e1⟩ := I.base.tbls b ps e
    obtain ⟨m2, e2⟩ := tbls b _ e1
    exact ⟨m1 ++ m2, by rw [e2, Array.append_assoc]⟩
  · obtain ⟨m, hn, hl⟩ := I.loc
    refine ⟨m, ns m hn, fun i x v e1 e2 e3 => ?_⟩
    obtain ⟨u, r, l⟩ := hl i x v e1 e2 e3
    refine ⟨u, r, ?_⟩
    rcases l with l | ⟨k, c, e, z⟩
    · exact .inl l
    · exact .inr ⟨k, c, e, cellK x c e _ z⟩
  · obtain ⟨v, z⟩ := I.cell x c e
    exact ⟨v, cellK x c e v z⟩
  · obtain ⟨m, ⟨o, _, _, ho, _⟩, _⟩ := I.loc
    exact free _ o (fun z => (hch _ z).2.1 rfl) ho I.free
  · obtain ⟨v, o, ho, hd⟩ := I.cell x c e
    exact free c o (fun z => (hch c z).2.2.1 x c e rfl) ho (I.freeC x c e)
  · obtain ⟨e, n, ne, nf, d⟩ := I.pin p hp
    have nch : p.1 ∉ ch := fun z => (hch p.1 z).2.2.2 p hp rfl
    exact ⟨keep p.1 p.2 ne nf nch e n, free p.1 p.2 nch e n, ne, nf, d⟩
/-- .. where the frame's own object is kept too -/
theorem Inv.un {t' : Nat} (I : Inv X pins σ H s) (u : Un X.fs [] H H' s.heap h') (hok : HOk X.prog X.w H' h') (ht : 0 < t' := by first | assumption | exact Nat.succ_pos _ | (apply Inv.tk; assumption)) : Inv X pins σ H' { s with heap := h', toks := t' } := by
  obtain ⟨m, ⟨o, es, ep, ho, r⟩, _⟩ := id I.loc
  obtain ⟨sl, hL⟩ := u.any ho I.free (by simp)
  exact I.step (g' := s.gens) (d' := s.drawn) (ch := []) (fun _ z => nomatch z) (fun b o _ hb _ e n => u.keep b o e n hb (by simp)) (fun b o _ hb _ e n => u.slot b o e n hb (by simp)) (fun b o _ e n => u.free b o e n (by simp)) (fun b o _ e => u.there b o e (by simp)) u.tups u.frzs u.tbls (fun m' hm => by
    obtain ⟨o', es', ep', ho', r'⟩ := hm
    rw [ho] at ho'; cases ho'
    exact ⟨_, es', ep', hL, r'⟩) hok I.bare
/-- behind a call (or a comprehension's block): the slots of this frame may have changed too, the records at ch may have turned -/
theorem Inv.call {g' : Array GenState} {t' : Nat} {d' : Drawn} {ch : List Addr} (I : Inv X pins σ H s) (u : Un (frs X.stack) ch H H' s.heap h') (hok : HOk X.prog X.w H' h') (hg : AllBare g')
    (hch : ∀ b ∈ ch, (b ∈ X.ex ∨ X.s₀.heap.objs.size ≤ b) ∧ b ≠ X.env.locals ∧ (∀ x c, X.env.cells.lookup x = some c → c ≠ b) ∧ ∀ p ∈ X.pn ++ pins, p.1 ≠ b) (ht : 0 < t' := by first | assumption | exact Nat.succ_pos _ | (apply Inv.tk; assumption)) :
    Inv X pins σ H' { s with heap := h', gens := g', drawn := d', toks := t' } := by
  obtain ⟨m, ⟨o, es, ep, ho, r⟩, _⟩ := id I.loc
  obtain ⟨sl, hL⟩ := u.any ho I.free fun z => (hch _ z).2.1 rfl
  exact I.step (ch := ch) hch (fun b o hL hb hc e n => u.keep b o e n (fun z => (List.mem_cons.mp (I.stkSub b z)).elim hL hb) hc) (fun b o _ _ hc e n => u.any e n hc) (fun b o hc e n => u.free b o e n hc) (fun b o hc e => u.there b o e hc) u.tups u.frzs u.tbls (fun m' hm => by
    obtain ⟨o', es', ep', ho', r'⟩ := hm
    rw [ho] at ho'; cases ho'
    exact ⟨_, es', ep', hL, r'⟩) hok hg
/-- an untracked record of ours (an iterator) has turned -/
theorem Inv.turned {t' : Nat} {it : Addr} (I : Inv X pins σ H s) (k : ∀ b o, b ≠ it → s.heap.get? b = some o → h'.get? b = some o) (hn : H it = none) (hL : it ≠ X.env.locals)
    (h1 : it ∈ X.ex ∨ X.s₀.heap.objs.size ≤ it) (h2 : ∀ x c, X.env.cells.lookup x = some c → c ≠ it) (h3 : ∀ p ∈ X.pn ++ pins, p.1 ≠ it) (ht : 0 < t' := by first | assumption | exact Nat.succ_pos _ | (apply Inv.tk; assumption)) : Inv X pins σ H { s with heap := h', toks := t' } := by
  have nit : ∀ b u, H b = some u → b ≠ it := fun b u e z => by rw [z, hn] at e; cases e
  refine I.step (g' := s.gens) (d' := s.drawn) (ch := [it]) (fun b hb => ?_) (fun b o _ _ hc e _ => k b o (fun z => hc (by simp [z])) e) (fun b o _ _ hc e _ => ⟨o.slots, k b o (fun z => hc (by simp [z])) e⟩) (fun _ _ _ _ n => n)
    (fun b o hc e => ⟨o, k b o (fun z => hc (by simp [z])) e⟩) (fun _ _ e => e) (fun _ _ _ e => e) (fun b ps e => ⟨#[], by rw [e]; simp⟩) (fun m hm => ?_) (fun b u e => ?_) I.bare
  · have e : b = it := by simpa using hb
    subst e
    exact ⟨h1, hL, h2, h3⟩
  · obtain ⟨o, es, ep, ho, r⟩ := hm
    exact ⟨o, es, ep, k _ o (Ne.symm hL) ho, r⟩
  · refine (I.hok b u e).stay (fun c v hc q => k c v ?_ q) (fun _ q => q) fun _ _ q => q
    rcases hc with z | z
    · rw [z]; exact nit b u e
    · exact nit c _ z
theorem Inv.tok (I : Inv X pins σ H s) (t : Nat) (ht : 0 < t := by first | assumption | exact Nat.succ_pos _ | (apply Inv.tk; assumption)) : Inv X pins σ H { s with toks := t } := I.un (h' := s.heap) (t' := t) Un.refl I.hok
/-- all objects kept -/
theorem Inv.kept {t' : Nat} (I : Inv X pins σ H s) (k : ∀ b u, s.heap.get? b = some u → h'.get? b = some u) (ht : 0 < t' := by first | assumption | exact Nat.succ_pos _ | (apply Inv.tk; assumption)) : Inv X pins σ H { s with heap := h', toks := t' } := I.un (Un.kept k) (I.hok.kept k)
/-- a new object laid and tracked -/
theorem Inv.laid {a : Addr} {o : HO} {t' : Nat} (I : Inv X pins σ H s) (k : ∀ b u, s.heap.get? b = some u → h'.get? b = some u) (hp : s.heap.objs.size ≤ a) (new : ObjOk X.prog X.w (upd H a o) h' a o) (ht : 0 < t' := by first | assumption | exact Nat.succ_pos _ | (apply Inv.tk; assumption)) :
    Inv X pins σ (upd H a o) { s with heap := h', toks := t' } := I.un (Un.laid k hp (I.hok.fresh hp)) (I.hok.laid k hp new)
/-- an object written -/
theorem Inv.write {x e : Addr} {o : HO} {t' : Nat} (I : Inv X pins σ H s) (mu : Mut (H x)) (he : e = x ∨ H e = some (.own x)) (k : ∀ b u, b ≠ e → s.heap.get? b = some u → h'.get? b = some u) (heo : ∃ u, h'.get? e = some u)
    (new : ObjOk X.prog X.w (upd H x o) h' x o) (ht : 0 < t' := by first | assumption | exact Nat.succ_pos _ | (apply Inv.tk; assumption)) : Inv X pins σ (upd H x o) { s with heap := h', toks := t' } := I.un (Un.write mu he k heo) (I.hok.write mu he k heo new)
/-- forgetting slots, pins -/
theorem Inv.weak {σ' : List (Option V)} (I : Inv X pins σ H s) (hl : σ'.length = σ.length) (w : ∀ (i : Nat) v, σ'[i]? = some (some v) → σ[i]? = some (some v)) : Inv X pins σ' H s :=
  ⟨I.ok, I.os, I.bare, I.base, let ⟨m, hn, hl'⟩ := I.loc; ⟨m, hn, fun i x v e1 e2 e3 => hl' i x v e1 (w i v e2) e3⟩, I.cell, I.free, I.freeC, I.pin, I.hok, hl.trans I.len, I.tk⟩
theorem Inv.pins_of {pins' : List (Addr × Obj)} (I : Inv X pins σ H s) (h : ∀ p ∈ pins', s.heap.get? p.1 = some p.2 ∧ H p.1 = none ∧ p.1 ≠ X.env.locals ∧ p.1 ∉ X.fs ∧ ∀ v, p.2.data ≠ .cell v) : Inv X pins' σ H s :=
  ⟨I.ok, I.os, I.bare, I.base, I.loc, I.cell, I.free, I.freeC, fun p hp => (List.mem_append.mp hp).elim (fun z => I.pin p (List.mem_append_left _ z)) (h p), I.hok, I.len, I.tk⟩

theorem nodup_ix {N : List Str} (hN : N.Nodup) {i j : Nat} {x : Str} (a : N[i]? = some x) (b : N[j]? = some x) : i = j := by
  obtain ⟨h1, e1⟩ := List.getElem?_eq_some_iff.mp a
  obtain ⟨h2, e2⟩ := List.getElem?_eq_some_iff.mp b
  exact (List.getElem_inj hN).mp (e1.trans e2.symm)

/-- a name is stored; what changed -/
theorem store_ok2 {M : Model} {A : Around} {E : Value → Shared → Prop} {i : Nat} {x : Str} {v : V} {u : Value} {Q : Unit → Shared → Prop} (I : Inv X pins σ H s) (hN : X.N.Nodup) (hi : X.N[i]? = some x) (hx : Loc X.env.scope x) (r : RelV v u)
    (h : ∀ s', Inv X pins (σ.set i (some v)) H s' → (∃ a, Heap.SameBut a s.heap s'.heap ∧ (a = X.env.locals ∨ X.env.cells.lookup x = some a)) → Q () s') (hf : X.fn x = true ∨ X.env.scope.names.lookup x = some .local := by first | exact .inl rfl | exact .inr rfl | assumption) : wpAny M A (storeName X.env x u) Q E s := by
  obtain ⟨m, hn, hl⟩ := id I.loc
  have hcls : (X.env.scope.kind == .class || (X.env.scope.kind == .module && X.env.locals != X.env.globals)) = false := by rw [I.ok.kind]; rfl
  have hiσ : i < σ.length := by rw [I.len]; exact (List.getElem?_eq_some_iff.mp hi).1
  have cne := I.cne
  have tracked : ∀ {a : Addr} {h' : Heap}, (∃ o, s.heap.get? a = some o ∧ H a = none) → Heap.SameBut a s.heap h' → HOk X.prog X.w H h' := fun {a h'} ha hs b ob e => by
    obtain ⟨_, _, hfree⟩ := ha
    refine (I.hok b ob e).stay (fun c w' hc q => (hs.2 c ?_).trans q) (fun _ q => q) fun _ _ q => q
    rintro rfl
    rcases hc with rfl | hc
    · rw [hfree] at e; cases e
    · rw [hfree] at hc; cases hc
  rcases hx with hk | hk
  · refine wpAny_storeName_local hk hn (fun h' hn' hs => ?_) hcls
    obtain ⟨oL, _, _, hoL, _⟩ := id hn
    refine h _ ⟨I.ok, I.os, I.bare, ⟨fun b o e n hb hx => ?_, fun b o e n hb hx => ?_, I.base.free, fun b o e hx => ?_, I.base.tups, I.base.frzs, I.base.tbls⟩, ⟨_, hn', fun j y v' e1 e2 e3 => ?_⟩, fun y c e => ?_, I.free, I.freeC, fun p hp => ?_, tracked ⟨oL, hoL, I.free⟩ hs, by simpa using I.len, by first | exact I.tk | exact Nat.succ_pos _⟩ ⟨_, hs, .inl rfl⟩
    · exact (hs.2 b (Nat.ne_of_lt (Nat.lt_of_lt_of_le (Heap.lt_size e) I.ok.above))).trans (I.base.keep b o e n hb hx)
    · obtain ⟨sl, e1⟩ := I.base.slot b o e n hb hx
      exact ⟨sl, (hs.2 b (Nat.ne_of_lt (Nat.lt_of_lt_of_le (Heap.lt_size e) I.ok.above))).trans e1⟩
    · obtain ⟨o', e1⟩ := I.base.there b o e hx
      exact ⟨o', (hs.2 b (Nat.ne_of_lt (Nat.lt_of_lt_of_le (Heap.lt_size e) I.ok.above))).trans e1⟩
    · by_cases hj : j = i
      · subst hj
        rw [hi] at e1; cases e1
        rw [List.getElem?_set_self hiσ] at e2
        cases e2
        exact ⟨u, r, .inl ⟨hk, by simp⟩⟩
      · rw [List.getElem?_set_ne (Ne.symm hj)] at e2
        obtain ⟨u', r', q⟩ := hl j y v' e1 e2 e3
        refine ⟨u', r', ?_⟩
        rcases q with ⟨k, e⟩ | ⟨k, c, e, z⟩
        · refine .inl ⟨k, ?_⟩
          have : y ≠ x := fun e => hj (nodup_ix hN e1 (e ▸ hi))
          simp [this, e]
        · exact .inr ⟨k, c, e, z.sameBut hs (cne y c e)⟩
    · obtain ⟨w', z⟩ := I.cell y c e
      exact ⟨w', z.sameBut hs (cne y c e)⟩
    · obtain ⟨e, n, ne, nf, d⟩ := I.pin p hp
      exact ⟨(hs.2 p.1 ne).trans e, n, ne, nf, d⟩
  · have hfn : X.fn x = true := by
      rcases hf with z | z
      · exact z
      · rw [z] at hk; cases hk
    obtain ⟨c, hc⟩ := I.ok.has x (.inl hk)
    obtain ⟨w', z⟩ := I.cell x c hc
    refine wpAny_storeName_cell I.ok.kind hk hc z (fun h' hc' hs => ?_)
    obtain ⟨oc, hoc, hocd⟩ := id z
    refine h { s with heap := h' } ⟨I.ok, I.os, I.bare, ⟨fun b o e n hb hx => ?_, fun b o e n hb hx => ?_, I.base.free, fun b o e hx => ?_, I.base.tups, I.base.frzs, I.base.tbls⟩, ⟨m, hn.sameBut hs (Ne.symm (cne x c hc)), fun j y v' e1 e2 e3 => ?_⟩, fun y c' e => ?_, I.free, I.freeC, fun p hp => ?_, tracked ⟨oc, hoc, I.freeC x c hc⟩ hs, by simpa using I.len, by first | exact I.tk | exact Nat.succ_pos _⟩ ⟨c, hs, .inr hc⟩
    · exact (hs.2 b (Nat.ne_of_lt (Nat.lt_of_lt_of_le (Heap.lt_size e) (I.ok.cab x c hfn hc)))).trans (I.base.keep b o e n hb hx)
    · obtain ⟨sl, e1⟩ := I.base.slot b o e n hb hx
      exact ⟨sl, (hs.2 b (Nat.ne_of_lt (Nat.lt_of_lt_of_le (Heap.lt_size e) (I.ok.cab x c hfn hc)))).trans e1⟩
    · obtain ⟨o', e1⟩ := I.base.there b o e hx
      exact ⟨o', (hs.2 b (Nat.ne_of_lt (Nat.lt_of_lt_of_le (Heap.lt_size e) (I.ok.cab x c hfn hc)))).trans e1⟩
    · by_cases hj : j = i
      · subst hj
        rw [hi] at e1; cases e1
        rw [List.getElem?_set_self hiσ] at e2
        cases e2
        exact ⟨u, r, .inr ⟨.inl hk, c, hc, hc'⟩⟩
      · rw [List.getElem?_set_ne (Ne.symm hj)] at e2
        obtain ⟨u', r', q⟩ := hl j y v' e1 e2 e3
        refine ⟨u', r', ?_⟩
        rcases q with q | ⟨k, c', e, z'⟩
        · exact .inl q
        · refine .inr ⟨k, c', e, z'.sameBut hs ?_⟩
          rintro rfl
          exact hj (nodup_ix hN e1 (I.ok.inj _ _ _ e hc ▸ hi))
    · by_cases hcc : c' = c
      · subst hcc; exact ⟨_, hc'⟩
      · obtain ⟨w2, z2⟩ := I.cell y c' e
        exact ⟨w2, z2.sameBut hs hcc⟩
    · obtain ⟨e, n, ne, nf, d⟩ := I.pin p hp
      refine ⟨(hs.2 p.1 ?_).trans e, n, ne, nf, d⟩
      intro q
      rw [q, hoc] at e
      have q' : oc = p.2 := Option.some.inj e
      exact d w' (by rw [← q']; exact hocd)
theorem store_ok {M : Model} {A : Around} {E : Value → Shared → Prop} {i : Nat} {x : Str} {v : V} {u : Value} {Q : Unit → Shared → Prop} (I : Inv X pins σ H s) (hN : X.N.Nodup) (hi : X.N[i]? = some x) (hx : Loc X.env.scope x) (r : RelV v u)
    (h : ∀ s', Inv X pins (σ.set i (some v)) H s' → Q () s') (hf : X.fn x = true ∨ X.env.scope.names.lookup x = some .local := by first | exact .inl rfl | exact .inr rfl | assumption) : wpAny M A (storeName X.env x u) Q E s :=
  store_ok2 I hN hi hx r (fun s' I' _ => h s' I') hf
/-- behind a call or a block, the state as it is -/
theorem Inv.call' {s' : Shared} {ch : List Addr} (I : Inv X pins σ H s) (ho : s'.os = s.os) (u : Un (frs X.stack) ch H H' s.heap s'.heap) (hok : HOk X.prog X.w H' s'.heap) (hg : AllBare s'.gens)
    (hch : ∀ b ∈ ch, (b ∈ X.ex ∨ X.s₀.heap.objs.size ≤ b) ∧ b ≠ X.env.locals ∧ (∀ x c, X.env.cells.lookup x = some c → c ≠ b) ∧ ∀ p ∈ X.pn ++ pins, p.1 ≠ b) (ht : 0 < s'.toks) : Inv X pins σ H' s' := by
  obtain ⟨h', g', d', t', o'⟩ := s'
  have e : o' = s.os := ho
  subst e
  exact I.call (g' := g') (t' := t') (d' := d') u hok hg hch ht
end

/-! ### the judgements -/
/-- an exception: its class, its own dict's address (where it has one), the abstract heap behind it -/
abbrev XK := Value → Option Addr → Hp → Prop
abbrev St := List (Option V)
abbrev VK := V → Hp → Prop
/-- an expression's reading; a test's; an argument list's -/
abbrev TE := St → Hp → VK → Prop
abbrev TT := St → Hp → (Bool → Hp → Prop) → Prop
abbrev TA := St → Hp → (List V → Hp → Prop) → Prop
/-- what is wanted behind a statement -/
structure Ends where
  nx : St → Hp → Prop
  rt : VK
  bk : St → Hp → Prop := fun _ _ => False
  ct : St → Hp → Prop := fun _ _ => False
abbrev TS := Ends → St → Hp → Prop

def EP (X : Cx) (pins : List (Addr × Obj)) (σ : St) (Q : VK) (u : Value) (s' : Shared) : Prop := ∃ v H', Inv X pins σ H' s' ∧ RelV v u ∧ Q v H'
def TP (X : Cx) (pins : List (Addr × Obj)) (σ : St) (Q : Bool → Hp → Prop) (b : Bool) (s' : Shared) : Prop := ∃ H', Inv X pins σ H' s' ∧ Q b H'
def AP (X : Cx) (pins : List (Addr × Obj)) (σ : St) (Q : List V → Hp → Prop) (us : List Value) (s' : Shared) : Prop := ∃ vs H', Inv X pins σ H' s' ∧ Vals vs us ∧ Q vs H'
def SP (X : Cx) (pins : List (Addr × Obj)) (D : Ends) (f : Flow) (s' : Shared) : Prop :=
  match f with
  | .next => ∃ σ' H', Inv X pins σ' H' s' ∧ D.nx σ' H'
  | .brk => ∃ σ' H', Inv X pins σ' H' s' ∧ D.bk σ' H'
  | .cont => ∃ σ' H', Inv X pins σ' H' s' ∧ D.ct σ' H'
  | .ret u => ∃ v σ' H', Inv X pins σ' H' s' ∧ RelV v u ∧ D.rt v H'

def PE (X : Cx) (e : Expr) (t : TE) : Prop :=
  ∀ (pins : List (Addr × Obj)) (s : Shared) (σ : St) (H : Hp) (Q : VK), Inv X pins σ H s → t σ H Q → wpAny (model X.prog X.w) X.A (eval e X.env) (EP X pins σ Q) X.xe s
def PT (X : Cx) (e : Expr) (t : TT) : Prop :=
  ∀ (pins : List (Addr × Obj)) (s : Shared) (σ : St) (H : Hp) (Q : Bool → Hp → Prop), Inv X pins σ H s → t σ H Q → wpAny (model X.prog X.w) X.A (isTrue e X.env (eval e X.env)) (TP X pins σ Q) X.xe s
/-- a test whatever its 'whole' is (and, or) -/
def PW (X : Cx) (e : Expr) (t : TT) : Prop :=
  ∀ (whole : Sem Value) (pins : List (Addr × Obj)) (s : Shared) (σ : St) (H : Hp) (Q : Bool → Hp → Prop), Inv X pins σ H s → t σ H Q → wpAny (model X.prog X.w) X.A (isTrue e X.env whole) (TP X pins σ Q) X.xe s
theorem PW.pt {X : Cx} {e : Expr} {t : TT} (h : PW X e t) : PT X e t := h _
/-- an argument list (no star), from the left -/
def PA (X : Cx) (es : List Expr) (t : TA) : Prop :=
  ∀ (pos : Pos) (pins : List (Addr × Obj)) (s : Shared) (σ : St) (H : Hp) (Q : List V → Hp → Prop), Inv X pins σ H s → t σ H Q → wpAny (model X.prog X.w) X.A (spliced (backTo pos (starEach es X.env))) (AP X pins σ Q) X.xe s
def PS (X : Cx) (st : Stmt) (t : TS) : Prop :=
  ∀ (pins : List (Addr × Obj)) (s : Shared) (σ : St) (H : Hp) (D : Ends), Inv X pins σ H s → t D σ H → wpAny (model X.prog X.w) X.A (exec st X.env) (SP X pins D) X.xe s
def PSs (X : Cx) (st : List Stmt) (t : TS) : Prop :=
  ∀ (pins : List (Addr × Obj)) (s : Shared) (σ : St) (H : Hp) (D : Ends), Inv X pins σ H s → t D σ H → wpAny (model X.prog X.w) X.A (execs st X.env) (SP X pins D) X.xe s
/-- weaken the end -/
theorem thn {α : Type} {t : Sem α} {Q Q' : α → Shared → Prop} {M : Model} {A : Around} {E : Value → Shared → Prop} {s : Shared} (h : wpAny M A t Q E s) (hQ : ∀ a s, Q a s → Q' a s) : wpAny M A t Q' E s := wpAny_mono h hQ fun _ _ x => x
end L2

namespace L2
open PySem PySem.Spec PyProof.Rows
section
variable {X : Cx}


/-! ### names and constants -/
def tVar (i : Nat) : TE := fun σ H Q => ∃ v, σ[i]? = some (some v) ∧ Q v H
def tC (v : V) : TE := fun _ H Q => Q v H
theorem pe_var {i : Nat} {x : Str} {pos : Pos} (hN : X.N[i]? = some x) (hv : Vis X.env.scope x) (hd : (x == ("__debug__" : Str)) = false := by decide) (hcd : (x == ("__classdict__" : Str)) = false := by decide) : PE X (.Name x pos) (tVar i) := by
  intro pins s σ H Q I h
  obtain ⟨v, e, h⟩ := h
  obtain ⟨m, hn, hl⟩ := I.loc
  obtain ⟨u, r, l⟩ := hl i x v hN e hv
  have fin : EP X pins σ Q u s := ⟨v, H, I, r, h⟩
  rcases l with ⟨hk, hm⟩ | ⟨hk, c, hc, hcell⟩
  · exact wpAny_Name (wpAny_loadName_local I.ok.kind hk hn hm fin) hd
  · rcases hk with hk | hk
    · exact wpAny_Name (wpAny_loadName_cell I.ok.kind hk hc hcell fin) hd
    · exact wpAny_Name (wpAny_loadName_free I.ok.kind hk hc hcell fin hcd) hd
theorem pe_int {i j pos} : PE X (.Constant (.int i) j pos) (tC (.int i)) := fun _ _ _ H _ I h => wpAny_Constant_int ⟨.int i, H, I.tok _, ⟨_, rfl⟩, h⟩
theorem pe_bl {b j pos} : PE X (.Constant (.bool b) j pos) (tC (.bl b)) := fun _ _ _ H _ I h => Constant_bool ⟨.bl b, H, I, rfl, h⟩
theorem pe_str {x j pos} : PE X (.Constant (.str x) j pos) (tC (.str x)) := fun _ _ _ H _ I h => Calls.Constant_str ⟨.str x, H, I.tok _, ⟨_, rfl⟩, h⟩

/-- a global name of the def -/
def Gl (X : Cx) (x : Str) : Prop := X.env.kindOf x = some .globalImplicit
theorem ld_glob {E : Value → Shared → Prop} {pins : List (Addr × Obj)} {s : Shared} {σ : St} {H : Hp} {x : Str} {u : Value} {pos : Pos} {Q : Value → Shared → Prop} (I : Inv X pins σ H s) (hg : Gl X x) (hm : X.mg x = some u) (h : Q u s)
    (hd : (x == ("__debug__" : Str)) = false := by decide) : wpAny (model X.prog X.w) X.A (eval (.Name x pos) X.env) Q E s :=
  Calls.Name_function_global I.ok.kind hg (Calls.loadGlobal_global (by rw [I.ok.glob]; exact I.mod.glob.keeps I.bk) hm h) hd
theorem ld_blt {E : Value → Shared → Prop} {pins : List (Addr × Obj)} {s : Shared} {σ : St} {H : Hp} {x : Str} {u : Value} {pos : Pos} {Q : Value → Shared → Prop} (I : Inv X pins σ H s) (hg : Gl X x) (hm : X.mg x = none) (hv : bootBuiltins x = some u) (h : Q u s)
    (hn : x ≠ "__name__" := by decide) (hd : (x == ("__debug__" : Str)) = false := by decide) : wpAny (model X.prog X.w) X.A (eval (.Name x pos) X.env) Q E s := by
  obtain ⟨mb, h1, h2⟩ := I.mod.blt
  exact Calls.Name_function_global I.ok.kind hg (Calls.loadGlobal_builtin (by rw [I.ok.glob]; exact I.mod.glob.keeps I.bk) hm (by rw [I.ok.blt]; exact h1.keeps I.bk) ((h2 x hn).trans hv) h) hd
theorem pe_bltn {x : Str} {v : V} {u : Value} {pos : Pos} (hg : Gl X x) (hm : X.mg x = none) (hv : bootBuiltins x = some u) (r : RelV v u) (hn : x ≠ "__name__" := by decide) (hd : (x == ("__debug__" : Str)) = false := by decide) : PE X (.Name x pos) (tC v) :=
  fun _ _ _ H _ I h => ld_blt I hg hm hv ⟨v, H, I, r, h⟩ hn hd

/-! ### arithmetic -/
variable {a b : Expr} {ta tb : TE} {pos : Pos}

/-! ### comparisons -/
/-- a comparison as a value, as a test -/
def tB (t : TE) : TT := fun σ H Q => t σ H fun x H1 => ∃ c, x = .bl c ∧ Q c H1
/-- an expression whose value is a bool, as a test -/
theorem pt_val {e : Expr} {t : TE} (h : PE X e t) (he : ∀ whole, isTrue e X.env whole = (do let v ← whole; standAt e.pos; holding [v] (truthy v)) := by intro _; rfl) : PT X e (tB t) := by
  intro pins s σ H Q I hw
  refine isTrue_plain (thn (h pins s σ H _ I hw) fun v s1 ⟨x, H1, I1, r1, q1⟩ => ?_) (he _)
  obtain ⟨d, rfl, q⟩ := q1
  cases r1
  exact wpAny_truthy_bool ⟨H1, I1, q⟩

/-! ### and, or, not -/
variable {tA tB' : TT} {rest : List Expr}
def tAnd (t u : TT) : TT := fun σ H Q => t σ H fun c H1 => if c = true then u σ H1 Q else Q false H1
def tOr (t u : TT) : TT := fun σ H Q => t σ H fun c H1 => if c = true then Q true H1 else u σ H1 Q
def tNot (t : TT) : TT := fun σ H Q => t σ H fun c H1 => Q (!c) H1
theorem pw_and1 (ha : PT X a tA) : PW X (.BoolOp .And [a] pos) tA := by
  intro wh pins s σ H Q I h
  refine isTrue_and (thn (ha pins s σ H Q I h) fun c s1 e => ?_)
  cases c with
  | true => exact isTrue_and_nil e
  | false => exact e
theorem pw_or1 (ha : PT X a tA) : PW X (.BoolOp .Or [a] pos) tA := by
  intro wh pins s σ H Q I h
  refine isTrue_or (thn (ha pins s σ H Q I h) fun c s1 e => ?_)
  cases c with
  | false => exact isTrue_or_nil e
  | true => exact e
theorem pw_and (ha : PT X a tA) (hb : PW X (.BoolOp .And (b :: rest) pos) tB') : PW X (.BoolOp .And (a :: b :: rest) pos) (tAnd tA tB') := by
  intro wh pins s σ H Q I h
  refine isTrue_and (thn (ha pins s σ H _ I h) fun c s1 ⟨H1, I1, q1⟩ => ?_)
  cases c with
  | true => exact hb wh pins s1 σ H1 Q I1 q1
  | false => exact ⟨H1, I1, q1⟩
theorem pw_or (ha : PT X a tA) (hb : PW X (.BoolOp .Or (b :: rest) pos) tB') : PW X (.BoolOp .Or (a :: b :: rest) pos) (tOr tA tB') := by
  intro wh pins s σ H Q I h
  refine isTrue_or (thn (ha pins s σ H _ I h) fun c s1 ⟨H1, I1, q1⟩ => ?_)
  cases c with
  | true => exact ⟨H1, I1, q1⟩
  | false => exact hb wh pins s1 σ H1 Q I1 q1
theorem pt_not (ha : PT X a tA) : PT X (.UnaryOp .Not a pos) (tNot tA) := by
  intro pins s σ H Q I h
  exact isTrue_not (ha pins s σ H (fun c H1 => Q (!c) H1) I h)
/-- .. as values (bools) -/
def tAndV (ta tb : TE) : TE := fun σ H Q => ta σ H fun x H1 => ∃ c, x = .bl c ∧ if c = true then tb σ H1 Q else Q (.bl false) H1
def tNotV (ta : TE) : TE := fun σ H Q => ta σ H fun x H1 => ∃ c, x = .bl c ∧ Q (.bl (!c)) H1
theorem pe_one {op} {t : TE} (h : PE X a t) : PE X (.BoolOp op [a] pos) t := fun pins s σ H Q I hw => BoolOp_one (h pins s σ H Q I hw)
theorem pe_and (ha : PE X a ta) (hb : PE X (.BoolOp .And (b :: rest) pos) tb) : PE X (.BoolOp .And (a :: b :: rest) pos) (tAndV ta tb) := by
  intro pins s σ H Q I h
  refine BoolOp_and (thn (ha pins s σ H _ I h) fun v s1 ⟨x, H1, I1, r1, q1⟩ => ?_)
  obtain ⟨c, rfl, q1⟩ := q1
  cases r1
  refine wpAny_truthy_bool ?_
  cases c with
  | true => exact hb pins s1 σ H1 Q I1 q1
  | false => exact ⟨.bl false, H1, I1, rfl, q1⟩
theorem pe_not (ha : PE X a ta) : PE X (.UnaryOp .Not a pos) (tNotV ta) := by
  intro pins s σ H Q I h
  refine UnaryOp_ (thn (ha pins s σ H _ I h) fun v s1 ⟨x, H1, I1, r1, q1⟩ => ?_)
  obtain ⟨c, rfl, q1⟩ := q1
  cases r1
  exact not_of (wpAny_truthy_bool ⟨.bl (!c), H1, I1, rfl, q1⟩)
end
end L2

namespace L2
open PySem PySem.Spec PyProof.Rows

/-! ### a list, a tuple that is read: tracked, frozen, or an object of the module -/
def SqL (K : PySem.W.Frag) (H : Hp) (a : Addr) (xs : List V) : Prop :=
  Rd H a (.lst xs) ∨
    ∃ (o : Obj) (its : Array Value) (n : Nat), K.lookup a = some o ∧ o.cls = .type "list" ∧ o.dict = none ∧ o.data = .seq its n ∧ its.size ≤ sizeLine ∧ Vals xs its.toList
def SqT (K : PySem.W.Frag) (H : Hp) (a : Addr) (xs : List V) : Prop :=
  Rd H a (.tup xs) ∨
    ∃ (o : Obj) (its : Array Value) (n : Nat), K.lookup a = some o ∧ o.cls = .type "tuple" ∧ o.data = .seq its n ∧ its.size ≤ sizeLine ∧ Vals xs its.toList
def absV : Value → Option V
  | .none => some .non
  | .bool b => some (.bl b)
  | .int i _ => some (.int i)
  | .str x _ => some (.str x)
  | .bytes b _ => some (.byt b)
  | .float b _ => some (.flt b)
  | .ref a => some (.ref a)
  | .type n => some (.ty n)
  | _ => none
theorem RelV.abs {x : V} {u : Value} (r : RelV x u) : absV u = some x := by
  cases x with
  | non => cases r; rfl
  | bl _ => cases r; rfl
  | int _ => obtain ⟨t, rfl⟩ := r; rfl
  | str _ => obtain ⟨t, rfl⟩ := r; rfl
  | byt _ => obtain ⟨t, rfl⟩ := r; rfl
  | flt _ => obtain ⟨t, rfl⟩ := r; rfl
  | ref _ => cases r; rfl
  | ty _ => cases r; rfl
theorem RelV.inj {x y : V} {u : Value} (r : RelV x u) (q : RelV y u) : x = y := Option.some.inj (r.abs.symm.trans q.abs)
theorem Vals.inj : ∀ {xs ys : List V} {us : List Value}, Vals xs us → Vals ys us → xs = ys
  | _, _, _, .nil, .nil => rfl
  | _, _, _, .cons r t, .cons r' t' => by rw [r.inj r', Vals.inj t t']
section
variable {X : Cx} {pins : List (Addr × Obj)} {σ : St} {H : Hp} {s : Shared} {a : Addr} {xs ys : List V}
theorem SqL.of {K : PySem.W.Frag} (h : H a = some (.lst xs)) : SqL K H a xs := .inl (.inl h)
theorem SqT.of {K : PySem.W.Frag} (h : H a = some (.tup xs)) : SqT K H a xs := .inl (.inl h)
theorem Inv.list (I : Inv X pins σ H s) (h : SqL X.K H a xs) : ∃ its : List Value, Vals xs its ∧ PlainL s.heap a its.toArray ∧ xs.length ≤ sizeLine := by
  rcases h with h | ⟨o, its, n, hk, hc, hd, hs, hz, r⟩
  · obtain ⟨z, its, n, r, e⟩ := h.ok I.hok
    exact ⟨its, r, ⟨_, n, e, rfl, rfl, rfl⟩, z⟩
  · refine ⟨its.toList, r, ⟨o, n, I.kIn a o hk, hc, hd, by simpa using hs⟩, ?_⟩
    have e := r.length
    simp only [Array.length_toList] at e
    omega
theorem Inv.tuple (I : Inv X pins σ H s) (h : SqT X.K H a xs) : ∃ its : List Value, Vals xs its ∧ IsTup s.heap a its.toArray ∧ xs.length ≤ sizeLine := by
  rcases h with h | ⟨o, its, n, hk, hc, hs, hz, r⟩
  · obtain ⟨z, its, r, p⟩ := h.ok I.hok
    exact ⟨its, r, p, z⟩
  · refine ⟨its.toList, r, ⟨o, I.kIn a o hk, hc, n, by simpa using hs⟩, ?_⟩
    have e := r.length
    simp only [Array.length_toList] at e
    omega
theorem Inv.list_inj (I : Inv X pins σ H s) (h : SqL X.K H a xs) (h' : SqL X.K H a ys) : xs = ys := by
  obtain ⟨its, r, ⟨o, n, e, _, _, d⟩, _⟩ := I.list h
  obtain ⟨its', r', ⟨o', n', e', _, _, d'⟩, _⟩ := I.list h'
  rw [e] at e'; cases e'
  rw [d] at d'
  injection d' with d1 _
  have : its = its' := by simpa using congrArg Array.toList d1
  subst this
  exact r.inj r'
end

/-! ### another wish about exceptions -/
abbrev Cx.wish (X : Cx) (E : Value → Shared → Prop) : Cx := { X with xe := E }
/-- no exception leaves -/
abbrev Cx.nox (X : Cx) : Cx := X.wish fun _ _ => False
theorem Cx.Ok.wish {X : Cx} (ok : X.Ok) (E : Value → Shared → Prop) : (X.wish E).Ok :=
  ⟨ok.mod, ok.kind, ok.glob, ok.blt, ok.above, ok.inj, ok.has, ok.cab, ok.hd, ok.frames, ok.stk, ok.exf, ok.bs, ok.bsz, ok.noex, ok.exfs, ok.funs, ok.frf⟩
theorem Cx.Ok.unwish {X : Cx} {E : Value → Shared → Prop} (ok : (X.wish E).Ok) : X.Ok :=
  ⟨ok.mod, ok.kind, ok.glob, ok.blt, ok.above, ok.inj, ok.has, ok.cab, ok.hd, ok.frames, ok.stk, ok.exf, ok.bs, ok.bsz, ok.noex, ok.exfs, ok.funs, ok.frf⟩
section
variable {X : Cx} {pins : List (Addr × Obj)} {σ : St} {H : Hp} {s : Shared} {E : Value → Shared → Prop}
theorem Inv.wish (I : Inv X pins σ H s) (E : Value → Shared → Prop) : Inv (X.wish E) pins σ H s := ⟨I.ok.wish E, I.os, I.bare, I.base, I.loc, I.cell, I.free, I.freeC, I.pin, I.hok, I.len, I.tk⟩
theorem Inv.unwish (I : Inv (X.wish E) pins σ H s) : Inv X pins σ H s := ⟨I.ok.unwish, I.os, I.bare, I.base, I.loc, I.cell, I.free, I.freeC, I.pin, I.hok, I.len, I.tk⟩
theorem SP.unwish {D : Ends} {f : Flow} {s' : Shared} (h : SP (X.wish E) pins D f s') : SP X pins D f s' := by
  cases f with
  | next => obtain ⟨σ', H', I, q⟩ := h; exact ⟨σ', H', I.unwish, q⟩
  | brk => obtain ⟨σ', H', I, q⟩ := h; exact ⟨σ', H', I.unwish, q⟩
  | cont => obtain ⟨σ', H', I, q⟩ := h; exact ⟨σ', H', I.unwish, q⟩
  | ret u => obtain ⟨v, σ', H', I, r, q⟩ := h; exact ⟨v, σ', H', I.unwish, r, q⟩
theorem PSs.nox {st : List Stmt} {t : TS} (h : PSs X.nox st t) : PSs X st t := fun pins s σ H D I hw =>
  wpAny_mono (h pins s σ H D (I.wish _) hw) (fun _ _ q => q.unwish) fun _ _ z => False.elim z
end

/-! ### blocks and small statements -/
section
variable {X : Cx} {st : Stmt} {rest : List Stmt} {t u : TS} {e : Expr} {te : TE} {pos : Pos}
def tNext : TS := fun D σ H => D.nx σ H
def tSeq (t u : TS) : TS := fun D σ H => t { D with nx := u D } σ H
theorem pss_nil : PSs X [] tNext := fun _ _ σ H _ I h => wpAny_execs_nil ⟨σ, H, I, h⟩
theorem pss_cons (h1 : PS X st t) (h2 : PSs X rest u) : PSs X (st :: rest) (tSeq t u) := by
  intro pins s σ H D I h
  refine wpAny_execs_cons (thn (h1 pins s σ H { D with nx := u D } I h) fun f s1 q => ?_)
  cases f with
  | next =>
    obtain ⟨σ', H', I', q⟩ := q
    exact h2 pins s1 σ' H' D I' q
  | ret v => exact q
  | brk => exact q
  | cont => exact q
theorem pss_one (h1 : PS X st t) : PSs X [st] t := by
  intro pins s σ H D I h
  refine wpAny_execs_cons (thn (h1 pins s σ H D I h) fun f s1 q => ?_)
  cases f with
  | next => exact wpAny_execs_nil q
  | ret v => exact q
  | brk => exact q
  | cont => exact q
def tCont : TS := fun D σ H => D.ct σ H
theorem ps_continue : PS X (.Continue pos) tCont := fun _ _ σ H _ I h => wpAny_Continue ⟨σ, H, I, h⟩
/-- in a def's body nothing is shown -/
theorem Inv.quiet {pins : List (Addr × Obj)} {σ : St} {H : Hp} {s : Shared} (I : Inv X pins σ H s) : interactive X.env = false := by simp [interactive, I.ok.kind]
/-- an expression whose value is dropped -/
def tDrop (te : TE) : TS := fun D σ H => te σ H fun _ H1 => D.nx σ H1
theorem ps_expr (he : PE X e te) (hs : swapsWith e none pos.line X.env = pure false := by rfl) : PS X (.Expr e pos) (tDrop te) := by
  intro pins s σ H D I h
  exact wpAny_Expr_any (thn (he pins s σ H _ I h) fun v s1 ⟨x, H1, I1, r1, q1⟩ => ⟨σ, H1, I1, q1⟩) I.quiet hs
def tRet (te : TE) : TS := fun D σ H => te σ H D.rt
theorem ps_ret (he : PE X e te) : PS X (.Return (some e) pos) (tRet te) := by
  intro pins s σ H D I h
  exact wpAny_Return_some (thn (he pins s σ H _ I h) fun v s1 ⟨x, H1, I1, r1, q1⟩ => ⟨x, σ, H1, I1, r1, q1⟩)
def tIfS (c : TT) (t u : TS) : TS := fun D σ H => c σ H fun b H1 => if b = true then t D σ H1 else u D σ H1
theorem ps_if {c : Expr} {a b : List Stmt} {tc : TT} (hc : PT X c tc) (ha : PSs X a t) (hb : PSs X b u) : PS X (.If c a b pos) (tIfS tc t u) := by
  intro pins s σ H D I h
  refine wpAny_If (thn (hc pins s σ H _ I h) fun d s1 ⟨H1, I1, q1⟩ => ?_)
  cases d with
  | true => exact ha pins s1 σ H1 D I1 q1
  | false => exact hb pins s1 σ H1 D I1 q1
end

/-! ### targets -/
abbrev TG := V → St → Hp → (St → Hp → Prop) → Prop
abbrev TGs := List V → St → Hp → (St → Hp → Prop) → Prop
def PG (X : Cx) (target : Expr) (t : TG) : Prop :=
  ∀ (pins : List (Addr × Obj)) (s : Shared) (σ : St) (H : Hp) (v : V) (u : Value) (Q : St → Hp → Prop), Inv X pins σ H s → RelV v u → t v σ H Q →
    wpAny (model X.prog X.w) X.A (assign target X.env u) (fun _ s' => ∃ σ' H', Inv X pins σ' H' s' ∧ Q σ' H') X.xe s
/-- several targets, one after another -/
def PGs (X : Cx) (ts : List Expr) (t : TGs) : Prop :=
  ∀ (pins : List (Addr × Obj)) (s : Shared) (σ : St) (H : Hp) (vs : List V) (us : List Value) (Q : St → Hp → Prop), Inv X pins σ H s → Vals vs us → t vs σ H Q →
    wpAny (model X.prog X.w) X.A (assignInOrder ((assignEach ts X.env).map (·.2)) us) (fun _ s' => ∃ σ' H', Inv X pins σ' H' s' ∧ Q σ' H') X.xe s
/-- o[i] = v, by values -/
abbrev TSet := V → V → V → Hp → (Hp → Prop) → Prop
def PSet (X : Cx) (t : TSet) : Prop :=
  ∀ (pins : List (Addr × Obj)) (s : Shared) (σ : St) (H : Hp) (o i v : V) (ov iv u : Value) (Q : Hp → Prop), Inv X pins σ H s → RelV o ov → RelV i iv → RelV v u → t o i v H Q →
    wpAny (model X.prog X.w) X.A (setItem ov iv u) (fun _ s' => ∃ H', Inv X pins σ H' s' ∧ Q H') X.xe s
/-- a op= b, by values -/
abbrev TIp := V → V → Hp → VK → Prop
def PIp (X : Cx) (op : Operator) (t : TIp) : Prop :=
  ∀ (pins : List (Addr × Obj)) (s : Shared) (σ : St) (H : Hp) (x y : V) (v u : Value) (Q : VK), Inv X pins σ H s → RelV x v → RelV y u → t x y H Q →
    wpAny (model X.prog X.w) X.A (inplaceOp op v u) (EP X pins σ Q) X.xe s
section
variable {X : Cx} {pos : Pos}
def gName (i : Nat) : TG := fun v σ H Q => Q (σ.set i (some v)) H
theorem pg_name {i : Nat} {x : Str} (hN : X.N.Nodup) (hi : X.N[i]? = some x) (hx : Loc X.env.scope x) (hf : X.fn x = true ∨ X.env.scope.names.lookup x = some .local := by first | exact .inl rfl | exact .inr rfl | assumption) : PG X (.Name x pos) (gName i) := by
  intro pins s σ H v u Q I r h
  exact wpAny_assign_Name (store_ok I hN hi hx r (fun s' I' => ⟨_, H, I', h⟩) hf)
def gNil : TGs := fun vs σ H Q => vs = [] ∧ Q σ H
def gCons (t : TG) (u : TGs) : TGs := fun vs σ H Q => ∃ v r, vs = v :: r ∧ t v σ H fun σ' H' => u r σ' H' Q
theorem pgs_nil : PGs X [] gNil := by
  intro pins s σ H vs us Q I r h
  obtain ⟨e, h⟩ := h
  subst e
  cases r
  exact assignInOrder_nil ⟨σ, H, I, h⟩
theorem pgs_cons {e : Expr} {es : List Expr} {t : TG} {u : TGs} (h1 : PG X e t) (h2 : PGs X es u)
    (hs : (assignEach (e :: es) X.env).map (·.2) = assign e X.env :: (assignEach es X.env).map (·.2) := by rfl) : PGs X (e :: es) (gCons t u) := by
  intro pins s σ H vs us Q I r h
  obtain ⟨v, vr, e1, h⟩ := h
  subst e1
  cases r with
  | cons r rr =>
    rw [hs]
    refine assignInOrder_cons (thn (h1 pins s σ H _ _ _ I r h) fun _ s1 ⟨σ1, H1, I1, q1⟩ => ?_)
    exact h2 pins s1 σ1 H1 _ _ Q I1 rr q1
/-- (a, b, ..) = a tuple of that length -/
def gTup (K : PySem.W.Frag) (n : Nat) (t : TGs) : TG := fun v σ H Q => ∃ a xs, v = .ref a ∧ SqT K H a xs ∧ xs.length = n ∧ t xs σ H Q
theorem pg_tup {es : List Expr} {k : Nat} {t : TGs} {n : Nat} (hc : X.calm = true) (h : PGs X es t)
    (hn : (assignEach es X.env).length = n := by rfl) (hst : (assignEach es X.env).findIdx? (·.1) = none := by rfl) : PG X (.Tuple es k pos) (gTup X.K n t) := by
  intro pins s σ H v u Q I r hw
  obtain ⟨a, xs, e1, hq, hl, hw⟩ := hw
  subst e1
  cases r
  obtain ⟨its, rv, ht, hz⟩ := I.tuple hq
  refine assign_Tuple_tuple (I.ok.hd hc) ht (by simp [hn, ← hl, rv.length]) hst fun h' hx => ?_
  have I1 : Inv X pins σ H { s with heap := h' } := I.kept (t' := s.toks) fun b o e => hx b o (Nat.ne_of_lt (Heap.lt_size e)) e
  exact h pins _ σ H xs _ Q I1 (by simpa using rv) hw
/-- o[i] = .. -/
def gSub (to ti : TE) (t : TSet) : TG := fun v σ H Q => to σ H fun o H1 => ti σ H1 fun i H2 => t o i v H2 fun H3 => Q σ H3
theorem pg_sub {o i : Expr} {to ti : TE} {t : TSet} (ho : PE X o to) (hi : PE X i ti) (hs : PSet X t)
    (ha : ∀ v, assign (.Subscript o i pos) X.env v = (do
      let ov ← holding [v] (eval o X.env)
      let iv ← holding [v, ov] (eval i X.env)
      standAt pos
      holding [v, ov, iv] (setItem ov iv v)
      release [v, ov, iv] []) := by intro _; rfl) : PG X (.Subscript o i pos) (gSub to ti t) := by
  intro pins s σ H v u Q I r h
  rw [ha]
  refine wpAny_bind (wpAny_holding (thn (ho pins s σ H _ I h) fun ov s1 ⟨x, H1, I1, r1, q1⟩ => ?_))
  refine wpAny_bind (wpAny_holding (thn (hi pins s1 σ H1 _ I1 q1) fun iv s2 ⟨y, H2, I2, r2, q2⟩ => ?_))
  refine wpAny_bind (wpAny_standAt (wpAny_bind (wpAny_holding (thn (hs pins s2 σ H2 x y v ov iv u _ I2 r1 r2 r q2) fun _ s3 ⟨H3, I3, q3⟩ => ?_))))
  exact wpAny_release ⟨σ, H3, I3, q3⟩
/-- target = value -/
def tAsg (te : TE) (g : TG) : TS := fun D σ H => te σ H fun x H1 => g x σ H1 D.nx
theorem ps_asg {tg e : Expr} {te : TE} {g : TG} (he : PE X e te) (hg : PG X tg g) (hs : swapsWithSole [tg] e pos.line X.env = pure false := by rfl) (hw : swappedStores [tg] e X.env = pure none := by rfl)
    (h1 : (assignEach [tg] X.env).map (·.2) = [assign tg X.env] := by rfl) : PS X (.Assign [tg] e pos) (tAsg te g) := by
  intro pins s σ H D I h
  refine wpAny_Assign_stores (thn (he pins s σ H _ I h) fun v s1 ⟨x, H1, I1, r1, q1⟩ => ?_) hs hw
  rw [h1]
  exact thn (hg pins s1 σ H1 x v _ I1 r1 q1) fun _ s2 q => q
/-- name = value -/
theorem ps_set {i : Nat} {x : Str} {e : Expr} {te : TE} {pos' : Pos} (hN : X.N.Nodup) (hi : X.N[i]? = some x) (hx : Loc X.env.scope x) (he : PE X e te) (hs : swapsWith e (some (.Name x pos')) pos.line X.env = pure false := by rfl) (hf : X.fn x = true ∨ X.env.scope.names.lookup x = some .local := by first | exact .inl rfl | exact .inr rfl | assumption) :
    PS X (.Assign [.Name x pos'] e pos) (tAsg te (gName i)) := by
  intro pins s σ H D I h
  refine wpAny_Assign_Name (thn (he pins s σ H _ I h) fun v s1 ⟨y, H1, I1, r1, q1⟩ => ?_) hs
  exact store_ok I1 hN hi hx r1 (fun s2 I2 => ⟨_, H1, I2, q1⟩) hf
/-- name op= e -/
def tAug (i : Nat) (te : TE) (ti : TIp) : TS := fun D σ H => ∃ x, σ[i]? = some (some x) ∧ te σ H fun y H1 => ti x y H1 fun z H2 => D.nx (σ.set i (some z)) H2
theorem ps_aug {i : Nat} {x : Str} {e : Expr} {te : TE} {op : Operator} {ti : TIp} {pos' : Pos} (hN : X.N.Nodup) (hi : X.N[i]? = some x) (hx : Loc X.env.scope x) (he : PE X e te) (ho : PIp X op ti) (hf : X.fn x = true ∨ X.env.scope.names.lookup x = some .local := by first | exact .inl rfl | exact .inr rfl | assumption) :
    PS X (.AugAssign (.Name x pos') op e pos) (tAug i te ti) := by
  intro pins s σ H D I h
  obtain ⟨v, e1, h⟩ := h
  obtain ⟨m, hn, hl⟩ := I.loc
  have vis : Vis X.env.scope x := by rcases hx with k | k; exact .inl k; exact .inr (.inl k)
  obtain ⟨u, r, l⟩ := hl i x v hi e1 vis
  refine wpAny_AugAssign_Name ?_
  have go : wpAny (model X.prog X.w) X.A (eval e X.env) (fun w s₂ => wpAny (model X.prog X.w) X.A (inplaceOp op u w) (fun r s₃ => wpAny (model X.prog X.w) X.A (storeName X.env x r) (fun _ => SP X pins D .next) X.xe s₃) X.xe s₂) X.xe s := by
    refine thn (he pins s σ H _ I h) fun w s1 ⟨y, H1, I1, r1, q1⟩ => ?_
    refine thn (ho pins s1 σ H1 v y u w _ I1 r r1 q1) fun z s2 ⟨zv, H2, I2, r2, q2⟩ => ?_
    exact store_ok I2 hN hi hx r2 (fun s3 I3 => ⟨_, H2, I3, q2⟩) hf
  rcases l with ⟨hk, hm⟩ | ⟨hk, c, hc, hcell⟩
  · exact wpAny_loadName_local I.ok.kind hk hn hm go
  · rcases hk with hk | hk
    · exact wpAny_loadName_cell I.ok.kind hk hc hcell go
    · rcases hx with k | k
      · have : X.env.scope.names.lookup x = some .free := hk
        rw [k] at this; cases this
      · have : X.env.scope.names.lookup x = some .free := hk
        rw [k] at this; cases this
/-- ints -/
def ipI (f : Int → Int → Int) : TIp := fun x y H Q => ∃ i j, x = .int i ∧ y = .int j ∧ Q (.int (f i j)) H
theorem ip_add : PIp X .Add (ipI fun i j => i + j) := by
  intro pins s σ H x y v u Q I r1 r2 h
  obtain ⟨i, j, e1, e2, q⟩ := h
  subst e1; subst e2
  obtain ⟨t, rfl⟩ := r1
  obtain ⟨t', rfl⟩ := r2
  exact iadd_int ⟨.int _, H, I.tok _, ⟨_, rfl⟩, q⟩
end

/-! ### while -/
section
variable {X : Cx} {pos : Pos}
/-- the invariant W with its measure -/
def tWhile (c : TT) (tb : TS) : TS := fun D σ H => ∃ W : Nat → St → Hp → Prop, (∃ m, W m σ H) ∧ ∀ m σ H, W m σ H →
  c σ H fun b H1 => if b = true then ∃ N : St → Hp → Prop, (∀ σ' H', N σ' H' → ∃ m', m' < m ∧ W m' σ' H') ∧ tb { D with nx := N, ct := N, bk := D.nx } σ H1 else D.nx σ H1
theorem ps_while {c : Expr} {body : List Stmt} {tc : TT} {tb : TS} (hp : PassesOwn (model X.prog X.w) X.A X.env X.xe) (hc : PT X c tc) (hb : PSs X body tb) : PS X (.While c body [] pos) (tWhile tc tb) := by
  intro pins s σ H D I h
  obtain ⟨W, ⟨m0, w0⟩, turn⟩ := h
  refine wpAny_While (codeAny_whileLoop (fun n s' => ∃ σ' H', Inv X pins σ' H' s' ∧ W n σ' H') ?_ m0 ⟨σ, H, I, w0⟩)
  rintro n s1 ⟨σ1, H1, I1, w1⟩
  refine wpAny_passesOwn hp (thn (hc pins s1 σ1 H1 _ I1 (turn n σ1 H1 w1)) fun b s2 ⟨H2, I2, q2⟩ => ?_)
  cases b with
  | true =>
    obtain ⟨N, hN, q2⟩ := q2
    rw [if_pos rfl]
    refine wpAny_passesOwn hp (thn (hb pins s2 σ1 H2 _ I2 q2) fun f s3 q3 => ?_)
    cases f with
    | next =>
      obtain ⟨σ3, H3, I3, n3⟩ := q3
      obtain ⟨m', hm, w3⟩ := hN σ3 H3 n3
      exact ⟨m', hm, σ3, H3, I3, w3⟩
    | cont =>
      obtain ⟨σ3, H3, I3, n3⟩ := q3
      obtain ⟨m', hm, w3⟩ := hN σ3 H3 n3
      exact ⟨m', hm, σ3, H3, I3, w3⟩
    | brk => exact q3
    | ret v => exact q3
  | false =>
    rw [if_neg Bool.false_ne_true]
    exact wpAny_execs_nil ⟨σ1, H2, I2, q2⟩
end

/-! ### what a loop or a comprehension walks -/
/-- at turn i: it yields x (the heap may grow), or it stops -/
structure It where
  go : Nat → Hp → Prop
  yld : Nat → Hp → V → Hp → Prop
  stop : Nat → Hp → Prop
/-- the iterator's own objects may turn: they are not the frame's, not pinned, younger than the entry (or a comprehension's own) -/
def FpOk (X : Cx) (pins : List (Addr × Obj)) (H : Hp) (b : Addr) : Prop :=
  H b = none ∧ b ≠ X.env.locals ∧ b ∉ X.fs ∧ (b ∈ X.ex ∨ X.s₀.heap.objs.size ≤ b) ∧ (∀ x c, X.env.cells.lookup x = some c → c ≠ b) ∧ ∀ p ∈ X.pn ++ pins, p.1 ≠ b
theorem Inv.fpOk {X : Cx} {pins : List (Addr × Obj)} {σ : St} {H H' : Hp} {s : Shared} {b : Addr} (I : Inv X pins σ H s) (hb : s.heap.objs.size ≤ b) (hn : H' b = none) : FpOk X pins H' b := by
  refine ⟨hn, Nat.ne_of_gt (Nat.lt_of_lt_of_le I.lt hb), I.nofs hb, .inr (Nat.le_trans I.sz hb), fun x c e z => ?_, fun p hp z => ?_⟩
  · obtain ⟨v, q⟩ := I.cell x c e
    exact absurd (Nat.lt_of_lt_of_le q.lt (by rw [z]; exact hb)) (Nat.lt_irrefl _)
  · exact absurd (Nat.lt_of_lt_of_le (Heap.lt_size (I.pin p hp).1) (by rw [z]; exact hb)) (Nat.lt_irrefl _)
structure Turn (P : Program) (w : World) (K : PySem.W.Frag) (tg : Expr) (J : It) (fp : List Addr) (it : Addr) (tn : Nat → Heap → Prop) : Prop where
  mem : it ∈ fp
  obj : ∀ i h, tn i h → ∀ b ∈ fp, ∃ o, h.get? b = some o ∧ ∀ v, o.data ≠ .cell v
  keep : ∀ i h h', tn i h → (∀ b ∈ fp, ∀ o, h.get? b = some o → h'.get? b = some o) → tn i h'
  item : ∀ (X : Cx), X.prog = P → X.w = w → X.K = K → X.calm = true → ∀ (i : Nat) (pins : List (Addr × Obj)) (s : Shared) (σ : St) (H : Hp) (E : Value → Shared → Prop), Inv X pins σ H s → (∀ b ∈ fp, FpOk X pins H b) → tn i s.heap → J.go i H →
    wpAny (model P w) X.A (pyNext (.ref it)) (fun r s1 => ∃ u, r = some u ∧
      wpAny (model P w) X.A (letOwnedTupleGo tg (.ref it) u) (fun _ s2 => ∃ x H', Inv X pins σ H' s2 ∧ RelV x u ∧ J.yld i H x H' ∧ tn (i + 1) s2.heap ∧ ∀ b ∈ fp, H' b = none) E s1) E s
  done : ∀ (X : Cx), X.prog = P → X.w = w → X.K = K → X.calm = true → ∀ (i : Nat) (pins : List (Addr × Obj)) (s : Shared) (σ : St) (H : Hp) (E : Value → Shared → Prop), Inv X pins σ H s → (∀ b ∈ fp, FpOk X pins H b) → tn i s.heap → J.stop i H →
    wpAny (model P w) X.A (pyNext (.ref it)) (fun r s1 => r = none ∧ Inv X pins σ H s1) E s
  self : ∀ (A : Around) (i : Nat) (s : Shared) (Q : Value → Shared → Prop) (E : Value → Shared → Prop), tn i s.heap → Q (.ref it) s → wpAny (model P w) A (pyIter (.ref it)) Q E s
abbrev TI := St → Hp → (It → Hp → Prop) → Prop
/-- an iterator has come -/
def PIE (X : Cx) (pins : List (Addr × Obj)) (σ : St) (tg : Expr) (R : It → Hp → Prop) (itv : Value) (s2 : Shared) : Prop :=
  ∃ (it : Addr) (fp : List Addr) (tn : Nat → Heap → Prop) (J : It) (H' : Hp), itv = .ref it ∧ Inv X pins σ H' s2 ∧ Turn X.prog X.w X.K tg J fp it tn ∧ tn 0 s2.heap ∧ (∀ b ∈ fp, FpOk X pins H' b) ∧ R J H'
def PI (X : Cx) (tg iter : Expr) (wi : TI) : Prop :=
  ∀ (pins : List (Addr × Obj)) (s : Shared) (σ : St) (H : Hp) (R : It → Hp → Prop), Inv X pins σ H s → wi σ H R →
    wpAny (model X.prog X.w) X.A (eval iter X.env) (fun v s1 => wpAny (model X.prog X.w) X.A (pyIter v) (PIE X pins σ tg R) X.xe s1) X.xe s

/-- the step ahead of the store is nothing for an iterator that keeps no tuple -/
theorem go_of {M : Model} {A : Around} {E : Value → Shared → Prop} {s : Shared} {tg : Expr} {it : Addr} {u : Value} {o : Obj} {n : String} {vs : Array Value} {Q : Unit → Shared → Prop} (ho : s.heap.get? it = some o) (hc : o.cls = .type n) (hd : o.data = .fields vs)
    (hn : ["enumerate", "zip", "dict_itemiterator", "dict_reverseitemiterator", "odict_iterator", "itertools.zip_longest", "itertools.pairwise"].contains n = false) (hQ : Q () s) : wpAny M A (letOwnedTupleGo tg (.ref it) u) Q E s := by
  unfold letOwnedTupleGo
  cases tg <;> first
    | exact wpAny_pure hQ
    | (cases u <;> first
        | exact wpAny_pure hQ
        | (refine wpAny_bind (wpAny_load ho ?_)
           rw [hc, hd]
           show wpAny M A (if (["enumerate", "zip", "dict_itemiterator", "dict_reverseitemiterator", "odict_iterator", "itertools.zip_longest", "itertools.pairwise"].contains n && vs[0]? == some (rawInt _)) = true then _ else _) Q E s
           rw [if_neg (by intro h; rw [hn, Bool.false_and] at h; cases h)]
           exact wpAny_pure hQ))

/-- the list at a, as it stands at each turn (a loop may append to it) -/
def Itl (K : PySem.W.Frag) (a : Addr) : It :=
  ⟨fun i H => ∃ xs x, SqL K H a xs ∧ xs[i]? = some x, fun i H x H' => H' = H ∧ ∀ xs, SqL K H a xs → xs[i]? = some x, fun i H => ∃ xs, SqL K H a xs ∧ xs.length ≤ i⟩
/-- lo, lo + 1, .. (n of them) -/
def Itr (lo : Int) (n : Nat) : It := ⟨fun i _ => i < n, fun i H x H' => H' = H ∧ x = .int (lo + i), fun i _ => n ≤ i⟩
theorem turn_list {P : Program} {w : World} {K : PySem.W.Frag} {tg : Expr} (a it : Addr) : Turn P w K tg (Itl K a) [it] it (fun i h => h.IsListIter it a i) where
  mem := by simp
  obj := fun i h st b hb => by
    have e : b = it := by simpa using hb
    subst e
    obtain ⟨o, e, c, d⟩ := st
    exact ⟨o, e, fun v z => by rw [d] at z; cases z⟩
  keep := fun i h h' st k => st.at fun o e => k it (by simp) o e
  item := by
    intro X hP hw hK hc i pins s σ H E I hf st hg
    subst hP hw hK
    obtain ⟨xs, x, hq, hx⟩ := hg
    obtain ⟨its, rv, p, hz⟩ := I.list hq
    obtain ⟨u, hu, ru⟩ := rv.get hx
    obtain ⟨f0, f1, f2, f3, f4, f5⟩ := hf it (by simp)
    refine wpAny_pyNext_list_item st p.isList (x := u) (by simpa using hu) fun h' st' sb => ?_
    have I1 : Inv X pins σ H { s with heap := h' } := I.turned (t' := s.toks) (fun b o hb e => (sb.2 b hb).trans e) f0 f1 f3 f4 f5
    obtain ⟨o, e, c, d⟩ := id st'
    exact ⟨u, rfl, go_of (s := { s with heap := h' }) e c d (by decide) ⟨x, H, I1, ru, ⟨rfl, fun ys hy => by rw [I.list_inj hy hq]; exact hx⟩, st', fun b hb => (hf b hb).1⟩⟩
  done := by
    intro X hP hw hK hc i pins s σ H E I hf st hg
    subst hP hw hK
    obtain ⟨xs, hq, hx⟩ := hg
    obtain ⟨its, rv, p, hz⟩ := I.list hq
    obtain ⟨f0, f1, f2, f3, f4, f5⟩ := hf it (by simp)
    have hl := rv.length
    exact wpAny_pyNext_list_end (I.ok.hd hc) st p.isList (by simp; omega) fun h' eb => ⟨rfl, I.turned (t' := s.toks) (fun b o hb e => eb b o hb e) f0 f1 f3 f4 f5⟩
  self := fun _ _ _ _ _ st h => wpAny_pyIter_listiter st h
theorem turn_range {P : Program} {w : World} {K : PySem.W.Frag} {tg : Expr} (it : Addr) (lo : Int) (n : Nat) : Turn P w K tg (Itr lo n) [it] it (fun i h => IsRangeIter h it (lo + (i : Nat) * 1) ((n : Int) - (i : Nat)) 1) where
  mem := by simp
  obj := fun i h st b hb => by
    have e : b = it := by simpa using hb
    subst e
    exact ⟨_, st, fun v z => by
      have z' : Data.fields _ = Data.cell v := z
      cases z'⟩
  keep := fun i h h' st k => k it (by simp) _ st
  item := by
    intro X hP hw hK hc i pins s σ H E I hf st hg
    subst hP hw hK
    obtain ⟨f0, f1, f2, f3, f4, f5⟩ := hf it (by simp)
    have W := Walks.range (prog := X.prog) (w := X.w) (I.ok.hd hc) it lo 1 n
    refine wpAny_with_toks (n := 1) I.tk (W.item i s _ _ hg st fun v h' tk hv st' kk htk => ?_)
    obtain ⟨t, rfl⟩ := hv
    have htk : 0 < tk := htk
    have I1 : Inv X pins σ H { s with heap := h', toks := tk } := I.turned (fun b o hb e => kk b o (by simpa using hb) e) f0 f1 f3 f4 f5
    refine ⟨_, rfl, go_of (s := { s with heap := h', toks := tk }) (n := "range_iterator") st' rfl rfl (by decide) ⟨.int (lo + i), H, I1, ⟨t, ?_⟩, ⟨rfl, rfl⟩, st', fun b hb => (hf b hb).1⟩⟩
    rw [Int.mul_one]
  done := by
    intro X hP hw hK hc i pins s σ H E I hf st hg
    subst hP hw hK
    obtain ⟨f0, f1, f2, f3, f4, f5⟩ := hf it (by simp)
    exact wpAny_pyNext_range_end (I.ok.hd hc) st (by have : n ≤ i := hg; omega) fun h' eb => ⟨rfl, I.turned (t' := s.toks) (fun b o hb e => eb b o hb e) f0 f1 f3 f4 f5⟩
  self := fun _ _ _ _ _ st h => wpAny_pyIter_rangeiter st h
end L2

namespace L2
open PySem PySem.Spec PyProof.Rows
section
variable {X : Cx} {tg : Expr}
def iList (K : PySem.W.Frag) (tl : TE) : TI := fun σ H R => tl σ H fun x H1 => ∃ a, x = .ref a ∧ (∃ xs, SqL K H1 a xs) ∧ R (Itl K a) H1
theorem pi_list {l : Expr} {tl : TE} (hl : PE X l tl) : PI X tg l (iList X.K tl) := by
  intro pins s σ H R I h
  refine thn (hl pins s σ H _ I h) fun v s1 ⟨x, H1, I1, r1, q1⟩ => ?_
  obtain ⟨a, e, ⟨xs, hq⟩, q⟩ := q1
  subst e
  cases r1
  obtain ⟨its, rv, p, hz⟩ := I1.list hq
  refine wpAny_pyIter_list p.isList ?_
  refine ⟨s1.heap.objs.size, [s1.heap.objs.size], _, _, H1, rfl, I1.kept (t' := s1.toks) fun b o e => Heap.get?_push_of_some _ e, turn_list a _, ⟨_, Heap.get?_push_size _ rfl, rfl, rfl⟩, fun b hb => ?_, q⟩
  have e : b = s1.heap.objs.size := by simpa using hb
  subst e
  exact I1.fpOk (Nat.le_refl _) (I1.hok.fresh (Nat.le_refl _))
/-- a range object just made, walked -/
theorem range_it {pins : List (Addr × Obj)} {σ : St} {H : Hp} {s : Shared} {R : It → Hp → Prop} {E : Value → Shared → Prop} {lo hi : Int} {t u v : Tok} {tk : Nat} (htk : 0 < tk) (I : Inv X pins σ H s) (h1 : -(2 ^ 62) ≤ lo) (h2 : lo < 2 ^ 62) (h3 : -(2 ^ 62) ≤ hi) (h4 : hi < 2 ^ 62)
    (q : R (Itr lo (hi - lo).toNat) H) : wpAny (model X.prog X.w) X.A (pyIter (.ref s.heap.objs.size)) (PIE X pins σ tg R) E { s with heap := s.heap.push { cls := .type "range", data := .fields #[.int lo t, .int hi u, .int 1 v] }, toks := tk } := by
  refine wpAny_pyIter_range (IsRange.new ..) (small_one h1 h2 h3 h4) ?_
  have I1 : Inv X pins σ H { s with heap := s.heap.push { cls := .type "range", data := .fields #[.int lo t, .int hi u, .int 1 v] }, toks := tk } := I.kept fun b o e => Heap.get?_push_of_some _ e
  refine ⟨(s.heap.push { cls := .type "range", data := .fields #[.int lo t, .int hi u, .int 1 v] }).objs.size, [(s.heap.push { cls := .type "range", data := .fields #[.int lo t, .int hi u, .int 1 v] }).objs.size], _, _, H, rfl,
    I1.kept (t' := tk) fun b o e => Heap.get?_push_of_some _ e, turn_range _ lo (hi - lo).toNat, ?_, fun b hb => ?_, q⟩
  · have e1 : lo + ((0 : Nat) : Int) * 1 = lo := by simp
    have e2 : (((hi - lo).toNat : Nat) : Int) - ((0 : Nat) : Int) = Builtin.Range.rangeSize lo hi 1 := by rw [rangeSize_one]; split <;> omega
    show IsRangeIter _ _ (lo + ((0 : Nat) : Int) * 1) ((((hi - lo).toNat : Nat) : Int) - ((0 : Nat) : Int)) 1
    rw [e1, e2]
    exact Heap.get?_push_size _ rfl
  · have e : b = (s.heap.push { cls := .type "range", data := .fields #[.int lo t, .int hi u, .int 1 v] }).objs.size := by simpa using hb
    subst e
    exact I1.fpOk (Nat.le_refl _) (I1.hok.fresh (Nat.le_refl _))
def iRng1 (ta : TA) : TI := fun σ H R => ta σ H fun vs H1 => ∃ j : Int, vs = [.int j] ∧ -(2 ^ 62) ≤ j ∧ j < 2 ^ 62 ∧ R (Itr 0 j.toNat) H1
theorem pi_range1 {a : Expr} {ta : TA} {p pos : Pos} (hg : Gl X "range") (hm : X.mg "range" = none) (ha : PA X [a] ta) (hs : starEach [a] X.env = [(false, eval a X.env)] := by rfl) : PI X tg (.Call (.Name "range" p) [a] [] pos) (iRng1 ta) := by
  intro pins s σ H R I h
  refine Call_ (ld_blt I hg hm boot_range (PyProof.Rows.callWith_type1 (thn (ha pos pins s σ H _ I h) fun us s1 ⟨vs, H1, I1, r1, q1⟩ => ?_) hs rfl))
  obtain ⟨j, e, q1, q2, q⟩ := q1
  subst e
  cases r1 with
  | cons r rr =>
    cases rr
    obtain ⟨t, rfl⟩ := r
    exact call_range_1 (range_it (by first | exact I1.tk | exact Nat.succ_pos _) I1 (by omega) (by omega) q1 q2 (by simpa using q))

/-! ### for -/
/-- W: the invariant by the turn and a measure; N: what the body is to reach -/
def tFor (wi : TI) (g : TG) (tb : TS) : TS := fun D σ H => wi σ H fun J H1 => ∃ W : Nat → Nat → St → Hp → Prop, (∃ m, W 0 m σ H1) ∧ ∀ i m σ H, W i m σ H →
  (J.stop i H ∧ D.nx σ H) ∨ (J.go i H ∧ ∃ N : St → Hp → Prop, (∀ σ' H', N σ' H' → ∃ m', m' < m ∧ W (i + 1) m' σ' H') ∧ ∀ x H', J.yld i H x H' → g x σ H' fun σ2 H2 => tb { D with nx := N, ct := N, bk := D.nx } σ2 H2)
/-- the records at fp as they stand -/
def pinsAt (fp : List Addr) (h : Heap) : List (Addr × Obj) := fp.filterMap fun b => (h.get? b).map fun o => (b, o)
theorem mem_pinsAt {fp : List Addr} {h : Heap} {b : Addr} {o : Obj} (hb : b ∈ fp) (e : h.get? b = some o) : (b, o) ∈ pinsAt fp h := List.mem_filterMap.mpr ⟨b, hb, by rw [e]; rfl⟩
theorem of_pinsAt {fp : List Addr} {h : Heap} {p : Addr × Obj} (hp : p ∈ pinsAt fp h) : p.1 ∈ fp ∧ h.get? p.1 = some p.2 := by
  obtain ⟨b, hb, e⟩ := List.mem_filterMap.mp hp
  cases q : h.get? b with
  | none => rw [q] at e; cases e
  | some o =>
    rw [q] at e
    have e' : (b, o) = p := Option.some.inj e
    subst e'
    exact ⟨hb, q⟩
theorem Inv.pinned {pins : List (Addr × Obj)} {σ : St} {H : Hp} {s : Shared} {fp : List Addr} (I : Inv X pins σ H s) (hf : ∀ b ∈ fp, FpOk X pins H b) (ho : ∀ b ∈ fp, ∃ o, s.heap.get? b = some o ∧ ∀ v, o.data ≠ .cell v) : Inv X (pins ++ pinsAt fp s.heap) σ H s :=
  I.pins_of fun p hp => (List.mem_append.mp hp).elim (fun z => I.pin p (List.mem_append_right _ z)) fun z => by
    obtain ⟨hb, e⟩ := of_pinsAt z
    obtain ⟨f0, f1, f2, _⟩ := hf p.1 hb
    obtain ⟨o, e', d⟩ := ho p.1 hb
    rw [e] at e'; cases e'
    exact ⟨e, f0, f1, f2, d⟩
theorem Inv.unpinned {pins pl : List (Addr × Obj)} {σ : St} {H : Hp} {s : Shared} (I : Inv X (pins ++ pl) σ H s) : Inv X pins σ H s := I.pins_of fun p hp => I.pin p (List.mem_append_right _ (List.mem_append_left _ hp))
theorem ps_for {iter : Expr} {body : List Stmt} {wi : TI} {g : TG} {tb : TS} {pos : Pos} (hp : PassesOwn (model X.prog X.w) X.A X.env X.xe) (hc : X.calm = true) (hi : PI X tg iter wi) (hg : PG X tg g) (hb : PSs X body tb)
    (hs : ∀ x, foldedSetIterable iter X.env x = pure x := by intro _; rfl) : PS X (.For tg iter body [] pos) (tFor wi g tb) := by
  intro pins s σ H D I h
  refine wpAny_For (thn (hi pins s σ H _ I h) fun v s1 h1 => thn h1 fun itv s2 h2 => ?_) hs
  obtain ⟨it, fp, tn, J, H2, e, I2, T, st2, f2, W, ⟨m0, w0⟩, turn⟩ := h2
  subst e
  -- what stays true of the iterator's objects through the loop
  have stat : ∀ {H' : Hp}, (∀ b ∈ fp, H' b = none) → ∀ b ∈ fp, FpOk X pins H' b := fun hn b hb => ⟨hn b hb, (f2 b hb).2⟩
  refine codeAny_forLoop_any (fun n s' => ∃ i σ' H', Inv X pins σ' H' s' ∧ tn i s'.heap ∧ (∀ b ∈ fp, H' b = none) ∧ W i n σ' H') ?_ m0 ⟨0, σ, H2, I2, st2, fun b hb => (f2 b hb).1, w0⟩
  rintro n s3 ⟨i, σ3, H3, I3, st3, fr3, w3⟩
  rcases turn i n σ3 H3 w3 with ⟨stop, qn⟩ | ⟨go, N, hN, step⟩
  · refine wpAny_passesOwn hp (thn (T.done X rfl rfl rfl hc i pins s3 σ3 H3 X.xe I3 (stat fr3) st3 stop) fun r s4 ⟨hr, I4⟩ => ?_)
    subst hr
    exact wpAny_execs_nil ⟨σ3, H3, I4, qn⟩
  · refine wpAny_passesOwn hp (thn (T.item X rfl rfl rfl hc i pins s3 σ3 H3 X.xe I3 (stat fr3) st3 go) fun r s4 ⟨u, hr, h4⟩ => ?_)
    subst hr
    refine wpAny_passesOwn hp (thn h4 fun _ s5 ⟨x, H5, I5, r5, y5, st5, fr5⟩ => ?_)
    have I5' := I5.pinned (stat fr5) (T.obj _ _ st5)
    refine wpAny_passesOwn hp (thn (hg _ s5 σ3 H5 x u _ I5' r5 (step x H5 y5)) fun _ s6 ⟨σ6, H6, I6, q6⟩ => ?_)
    refine wpAny_passesOwn hp (thn (hb _ s6 σ6 H6 _ I6 q6) fun f s7 q7 => ?_)
    have again : ∀ {σ7 : St} {H7 : Hp}, Inv X (pins ++ pinsAt fp s5.heap) σ7 H7 s7 → N σ7 H7 → ∃ m, m < n ∧ ∃ i σ' H', Inv X pins σ' H' s7 ∧ tn i s7.heap ∧ (∀ b ∈ fp, H' b = none) ∧ W i m σ' H' := fun {σ7 H7} I7 n7 => by
      obtain ⟨m', hm, w7⟩ := hN σ7 H7 n7
      refine ⟨m', hm, i + 1, σ7, H7, I7.unpinned, T.keep _ _ _ st5 fun b hb o e => (I7.pin (b, o) (List.mem_append_right _ (List.mem_append_right _ (mem_pinsAt hb e)))).1, fun b hb => ?_, w7⟩
      obtain ⟨o, e, d⟩ := T.obj _ _ st5 b hb
      exact (I7.pin (b, o) (List.mem_append_right _ (List.mem_append_right _ (mem_pinsAt hb e)))).2.1
    cases f with
    | next => obtain ⟨σ7, H7, I7, n7⟩ := q7; exact again I7 n7
    | cont => obtain ⟨σ7, H7, I7, n7⟩ := q7; exact again I7 n7
    | brk => obtain ⟨σ7, H7, I7, q7⟩ := q7; exact ⟨σ7, H7, I7.unpinned, q7⟩
    | ret v => obtain ⟨x7, σ7, H7, I7, r7, q7⟩ := q7; exact ⟨x7, σ7, H7, I7.unpinned, r7, q7⟩
end

/-! ### the forms one uses -/
/-- over a list that the body leaves as it is -/
theorem for_list {K : PySem.W.Frag} {a : Addr} {xs : List V} {g : TG} {tb : TS} {D : Ends} {σ : St} {H : Hp} (Pv : Nat → St → Hp → Prop) (h0 : Pv 0 σ H) (hl : ∀ i σ H, i ≤ xs.length → Pv i σ H → SqL K H a xs)
    (hs : ∀ i x σ H, xs[i]? = some x → Pv i σ H → g x σ H fun σ2 H2 => tb { D with nx := Pv (i + 1), ct := Pv (i + 1), bk := D.nx } σ2 H2) (hd : ∀ σ H, Pv xs.length σ H → D.nx σ H) :
    ∃ W : Nat → Nat → St → Hp → Prop, (∃ m, W 0 m σ H) ∧ ∀ i m σ H, W i m σ H →
      ((Itl K a).stop i H ∧ D.nx σ H) ∨ ((Itl K a).go i H ∧ ∃ N : St → Hp → Prop, (∀ σ' H', N σ' H' → ∃ m', m' < m ∧ W (i + 1) m' σ' H') ∧ ∀ x H', (Itl K a).yld i H x H' → g x σ H' fun σ2 H2 => tb { D with nx := N, ct := N, bk := D.nx } σ2 H2) := by
  refine ⟨fun i m σ H => m = xs.length - i ∧ i ≤ xs.length ∧ Pv i σ H, ⟨xs.length, by simp, Nat.zero_le _, h0⟩, ?_⟩
  rintro i m σ H ⟨rfl, hi, p⟩
  have q := hl i σ H hi p
  by_cases hlt : i < xs.length
  · refine .inr ⟨⟨xs, xs[i], q, by simp [hlt]⟩, Pv (i + 1), fun σ' H' p' => ⟨xs.length - (i + 1), by omega, rfl, hlt, p'⟩, fun x H' y => ?_⟩
    obtain ⟨e, y⟩ := y
    subst e
    exact hs i x σ _ (y xs q) p
  · have e : i = xs.length := by omega
    subst e
    exact .inl ⟨⟨xs, q, Nat.le_refl _⟩, hd σ H p⟩
theorem for_range {lo : Int} {n : Nat} {g : TG} {tb : TS} {D : Ends} {σ : St} {H : Hp} (Pv : Nat → St → Hp → Prop) (h0 : Pv 0 σ H)
    (hs : ∀ i σ H, i < n → Pv i σ H → g (.int (lo + i)) σ H fun σ2 H2 => tb { D with nx := Pv (i + 1), ct := Pv (i + 1), bk := D.nx } σ2 H2) (hd : ∀ σ H, Pv n σ H → D.nx σ H) :
    ∃ W : Nat → Nat → St → Hp → Prop, (∃ m, W 0 m σ H) ∧ ∀ i m σ H, W i m σ H →
      ((Itr lo n).stop i H ∧ D.nx σ H) ∨ ((Itr lo n).go i H ∧ ∃ N : St → Hp → Prop, (∀ σ' H', N σ' H' → ∃ m', m' < m ∧ W (i + 1) m' σ' H') ∧ ∀ x H', (Itr lo n).yld i H x H' → g x σ H' fun σ2 H2 => tb { D with nx := N, ct := N, bk := D.nx } σ2 H2) := by
  refine ⟨fun i m σ H => m = n - i ∧ i ≤ n ∧ Pv i σ H, ⟨n, by simp, Nat.zero_le _, h0⟩, ?_⟩
  rintro i m σ H ⟨rfl, hi, p⟩
  by_cases hlt : i < n
  · refine .inr ⟨hlt, Pv (i + 1), fun σ' H' p' => ⟨n - (i + 1), by omega, rfl, hlt, p'⟩, fun x H' y => ?_⟩
    obtain ⟨e, y⟩ := y
    subst e y
    exact hs i σ _ hlt p
  · have e : i = n := by omega
    subst e
    exact .inl ⟨Nat.le_refl _, hd σ H p⟩
end L2

namespace L2
open PySem PySem.Spec PyProof.Rows

abbrev R2 := V → V → Hp → VK → Prop
/-- a two-place operation on values: f is binaryOp op, inplaceOp op or compareOp op -/
def OpR (X : Cx) (f : Value → Value → Sem Value) (r : R2) : Prop :=
  ∀ (pins : List (Addr × Obj)) (s : Shared) (σ : St) (H : Hp) (x y : V) (v u : Value) (Q : VK), Inv X pins σ H s → RelV x v → RelV y u → r x y H Q →
    wpAny (model X.prog X.w) X.A (f v u) (EP X pins σ Q) X.xe s
/-- a call of a value that is known (a builtin, a type) with values -/
def CallR (X : Cx) (f : Value) (r : List V → Hp → VK → Prop) : Prop :=
  ∀ (pins : List (Addr × Obj)) (s : Shared) (σ : St) (H : Hp) (xs : List V) (us : List Value) (Q : VK), Inv X pins σ H s → Vals xs us → r xs H Q →
    wpAny (model X.prog X.w) X.A (call f us) (EP X pins σ Q) X.xe s

def tOp (r : R2) (ta tb : TE) : TE := fun σ H Q => ta σ H fun x H1 => tb σ H1 fun y H2 => r x y H2 Q
/-- ints in, under C, and a value out -/
def rI (C : Int → Int → Prop) (g : Int → Int → V) : R2 := fun x y H Q => ∃ i j, x = .int i ∧ y = .int j ∧ C i j ∧ Q (g i j) H
def rI0 (g : Int → Int → V) : R2 := fun x y H Q => ∃ i j, x = .int i ∧ y = .int j ∧ Q (g i j) H

section
variable {X : Cx} {a b c : Expr} {ta tb tc : TE} {pos : Pos}

theorem binT (ha : PE X a ta) (hb : PE X b tb) {pins : List (Addr × Obj)} {s : Shared} {σ : St} {H : Hp} {R : V → V → Hp → Prop} (I : Inv X pins σ H s)
    (h : ta σ H fun x H1 => tb σ H1 fun y H2 => R x y H2) {Q : Value → Shared → Prop} {f : Value → Value → Sem Value}
    (hf : ∀ v u s2 x y H2, Inv X pins σ H2 s2 → RelV x v → RelV y u → R x y H2 → wpAny (model X.prog X.w) X.A (f v u) Q X.xe s2) :
    wpAny (model X.prog X.w) X.A (eval a X.env) (fun v s₁ => wpAny (model X.prog X.w) X.A (eval b X.env) (fun u s₂ => wpAny (model X.prog X.w) X.A (f v u) Q X.xe s₂) X.xe s₁) X.xe s := by
  refine thn (ha pins s σ H _ I h) fun v s1 ⟨x, H1, I1, r1, q1⟩ => ?_
  refine thn (hb pins s1 σ H1 _ I1 q1) fun u s2 ⟨y, H2, I2, r2, q2⟩ => ?_
  exact hf v u s2 x y H2 I2 r1 r2 q2

theorem pe_op {op : Operator} {r : R2} (ho : OpR X (binaryOp op) r) (ha : PE X a ta) (hb : PE X b tb) : PE X (.BinOp a op b pos) (tOp r ta tb) := by
  intro pins s σ H Q I h
  exact wpAny_BinOp (binT ha hb I h fun v u s2 x y H2 I2 rx ry q => ho pins s2 σ H2 x y v u Q I2 rx ry q)

/-! ### ints -/
theorem opI {f : Value → Value → Sem Value} {C : Int → Int → Prop} {g : Int → Int → Int}
    (rule : ∀ (i j : Int) (t u : Tok) (s : Shared) (Q : Value → Shared → Prop) (E : Value → Shared → Prop), C i j → Q (.int (g i j) s.toks) { s with toks := s.toks + 1 } → wpAny (model X.prog X.w) X.A (f (.int i t) (.int j u)) Q E s) :
    OpR X f (rI C fun i j => .int (g i j)) := by
  intro pins s σ H x y v u Q I rx ry h
  obtain ⟨i, j, rfl, rfl, hc, q⟩ := h
  obtain ⟨t, rfl⟩ := rx
  obtain ⟨t', rfl⟩ := ry
  exact rule i j t t' s _ _ hc ⟨.int (g i j), H, I.tok _, ⟨_, rfl⟩, q⟩
theorem opI0 {f : Value → Value → Sem Value} {g : Int → Int → Int}
    (rule : ∀ (i j : Int) (t u : Tok) (s : Shared) (Q : Value → Shared → Prop) (E : Value → Shared → Prop), Q (.int (g i j) s.toks) { s with toks := s.toks + 1 } → wpAny (model X.prog X.w) X.A (f (.int i t) (.int j u)) Q E s) :
    OpR X f (rI0 fun i j => .int (g i j)) := by
  intro pins s σ H x y v u Q I rx ry h
  obtain ⟨i, j, rfl, rfl, q⟩ := h
  obtain ⟨t, rfl⟩ := rx
  obtain ⟨t', rfl⟩ := ry
  exact rule i j t t' s _ _ ⟨.int (g i j), H, I.tok _, ⟨_, rfl⟩, q⟩
theorem opB0 {f : Value → Value → Sem Value} {g : Int → Int → Bool}
    (rule : ∀ (i j : Int) (t u : Tok) (s : Shared) (Q : Value → Shared → Prop) (E : Value → Shared → Prop), Q (.bool (g i j)) s → wpAny (model X.prog X.w) X.A (f (.int i t) (.int j u)) Q E s) :
    OpR X f (rI0 fun i j => .bl (g i j)) := by
  intro pins s σ H x y v u Q I rx ry h
  obtain ⟨i, j, rfl, rfl, q⟩ := h
  obtain ⟨t, rfl⟩ := rx
  obtain ⟨t', rfl⟩ := ry
  exact rule i j t t' s _ _ ⟨.bl (g i j), H, I, rfl, q⟩

def CMul (i j : Int) : Prop := (-(2 ^ 64) < i ∧ i < 2 ^ 64) ∨ (-(2 ^ 64) < j ∧ j < 2 ^ 64)
theorem CMul.ok {i j : Int} (h : CMul i j) : IntMulOk i j := by
  rcases h with ⟨h1, h2⟩ | ⟨h1, h2⟩
  · exact .of_left (intBits_le_64 h1 h2)
  · exact .of_right (intBits_le_64 h1 h2)

theorem op_add : OpR X (binaryOp .Add) (rI0 fun i j => .int (i + j)) := opI0 fun _ _ _ _ _ _ _ q => add_int q
theorem op_sub : OpR X (binaryOp .Sub) (rI0 fun i j => .int (i - j)) := opI0 fun _ _ _ _ _ _ _ q => sub_int q
theorem op_mul : OpR X (binaryOp .Mult) (rI CMul fun i j => .int (i * j)) := opI fun _ _ _ _ _ _ _ hc q => mul_int q hc.ok
/-- % by a positive divisor of any size -/
theorem op_mod : OpR X (binaryOp .Mod) (rI (fun _ j => 0 < j) fun i j => .int (i % j)) := opI fun i j _ _ _ _ _ hc q => by
  have h1 : (0 : Int) < j := hc
  exact mod_int' (by omega) (by rw [Int.fmod_eq_emod_of_nonneg i (by omega)]; exact q)



/-! ### bools among ints: n += (a < b) -/
end

/-! ### comparisons -/
/-- the scalars that == tells apart as data does -/
def scal : V → V → Bool
  | .non, .non => true | .non, .int _ => true | .int _, .non => true | .non, .bl _ => true | .bl _, .non => true | .non, .str _ => true | .str _, .non => true
  | .int _, .int _ => true | .bl _, .bl _ => true | .str _, .str _ => true | .byt _, .byt _ => true
  | .int _, .str _ => true | .str _, .int _ => true | .bl _, .str _ => true | .str _, .bl _ => true
  | _, _ => false
def rEq : R2 := fun x y H Q => scal x y = true ∧ Q (.bl (decide (x = y))) H
def rNe : R2 := fun x y H Q => scal x y = true ∧ Q (.bl (!decide (x = y))) H

theorem dec_int {i j : Int} : decide (V.int i = V.int j) = (i == j) := by
  rw [Bool.eq_iff_iff]
  simp
theorem dec_bl {i j : Bool} : decide (V.bl i = V.bl j) = (i == j) := by
  rw [Bool.eq_iff_iff]
  simp
theorem dec_str {i j : Str} : decide (V.str i = V.str j) = (i == j) := by
  rw [Bool.eq_iff_iff]
  simp
theorem dec_byt {i j : Array UInt8} : decide (V.byt i = V.byt j) = (i.toList == j.toList) := by
  rw [Bool.eq_iff_iff]
  cases i
  cases j
  simp

section
variable {X : Cx} {a b c : Expr} {ta tb tc : TE} {pos : Pos}
theorem fin_bl {pins : List (Addr × Obj)} {σ : St} {H : Hp} {s : Shared} {Q : VK} {k k' : Bool} (I : Inv X pins σ H s) (q : Q (.bl k) H) (e : k = k') : EP X pins σ Q (.bool k') s := by
  subst e
  exact ⟨.bl k, H, I, rfl, q⟩
theorem op_eq : OpR X (compareOp .Eq) rEq := by
  intro pins s σ H x y v u Q I rx ry h
  obtain ⟨hs, q⟩ := h
  cases x with
  | non =>
    cases rx
    cases y with
    | non => cases ry; exact PySem.EqNone.eq_none_none (fin_bl I q (by simp))
    | bl j => cases ry; exact PySem.EqNone.eq_none_bool (fin_bl I q (by simp))
    | int j => obtain ⟨t', rfl⟩ := ry; exact PySem.EqNone.eq_none_int (fin_bl I q (by simp))
    | str j => obtain ⟨t', rfl⟩ := ry; exact PySem.EqNone.eq_none_str (fin_bl I q (by simp))
    | _ => exact absurd (show false = true from hs) Bool.false_ne_true
  | bl i =>
    cases rx
    cases y with
    | non => cases ry; exact PySem.EqNone.eq_bool_none (fin_bl I q (by simp))
    | bl j => cases ry; exact eq_bool (fin_bl I q dec_bl)
    | str j => obtain ⟨t', rfl⟩ := ry; exact PySem.EqMixed.eq_bool_str (fin_bl I q (by simp))
    | _ => exact absurd (show false = true from hs) Bool.false_ne_true
  | int i =>
    obtain ⟨t, rfl⟩ := rx
    cases y with
    | non => cases ry; exact PySem.EqNone.eq_int_none (fin_bl I q (by simp))
    | int j => obtain ⟨t', rfl⟩ := ry; exact eq_int (fin_bl I q dec_int)
    | str j => obtain ⟨t', rfl⟩ := ry; exact PySem.EqMixed.eq_int_str (fin_bl I q (by simp))
    | _ => exact absurd (show false = true from hs) Bool.false_ne_true
  | str i =>
    obtain ⟨t, rfl⟩ := rx
    cases y with
    | non => cases ry; exact PySem.EqNone.eq_str_none (fin_bl I q (by simp))
    | bl j => cases ry; exact PySem.EqMixed.eq_str_bool (fin_bl I q (by simp))
    | int j => obtain ⟨t', rfl⟩ := ry; exact PySem.EqMixed.eq_str_int (fin_bl I q (by simp))
    | str j => obtain ⟨t', rfl⟩ := ry; exact eq_str (fin_bl I q dec_str)
    | _ => exact absurd (show false = true from hs) Bool.false_ne_true
  | byt i =>
    obtain ⟨t, rfl⟩ := rx
    cases y with
    | byt j => obtain ⟨t', rfl⟩ := ry; exact PySem.W.eq_bytes (fin_bl I q dec_byt)
    | _ => exact absurd (show false = true from hs) Bool.false_ne_true
  | _ => cases y <;> exact absurd (show false = true from hs) Bool.false_ne_true
theorem op_ne : OpR X (compareOp .NotEq) rNe := by
  intro pins s σ H x y v u Q I rx ry h
  obtain ⟨hs, q⟩ := h
  cases x with
  | non =>
    cases rx
    cases y with
    | non => cases ry; exact PySem.EqNone.ne_none_none (fin_bl I q (by simp))
    | bl j => cases ry; exact PySem.EqNone.ne_none_bool (fin_bl I q (by simp))
    | int j => obtain ⟨t', rfl⟩ := ry; exact PySem.EqNone.ne_none_int (fin_bl I q (by simp))
    | str j => obtain ⟨t', rfl⟩ := ry; exact PySem.EqNone.ne_none_str (fin_bl I q (by simp))
    | _ => exact absurd (show false = true from hs) Bool.false_ne_true
  | bl i =>
    cases rx
    cases y with
    | non => cases ry; exact PySem.EqNone.ne_bool_none (fin_bl I q (by simp))
    | bl j => cases ry; exact ne_bool (fin_bl I q (congrArg not dec_bl))
    | str j => obtain ⟨t', rfl⟩ := ry; exact PySem.EqMixed.ne_bool_str (fin_bl I q (by simp))
    | _ => exact absurd (show false = true from hs) Bool.false_ne_true
  | int i =>
    obtain ⟨t, rfl⟩ := rx
    cases y with
    | non => cases ry; exact PySem.EqNone.ne_int_none (fin_bl I q (by simp))
    | int j => obtain ⟨t', rfl⟩ := ry; exact ne_int (fin_bl I q (congrArg not dec_int))
    | str j => obtain ⟨t', rfl⟩ := ry; exact PySem.EqMixed.ne_int_str (fin_bl I q (by simp))
    | _ => exact absurd (show false = true from hs) Bool.false_ne_true
  | str i =>
    obtain ⟨t, rfl⟩ := rx
    cases y with
    | non => cases ry; exact PySem.EqNone.ne_str_none (fin_bl I q (by simp))
    | bl j => cases ry; exact PySem.EqMixed.ne_str_bool (fin_bl I q (by simp))
    | int j => obtain ⟨t', rfl⟩ := ry; exact PySem.EqMixed.ne_str_int (fin_bl I q (by simp))
    | str j => obtain ⟨t', rfl⟩ := ry; exact ne_str (fin_bl I q (congrArg not dec_str))
    | _ => exact absurd (show false = true from hs) Bool.false_ne_true
  | byt i =>
    obtain ⟨t, rfl⟩ := rx
    cases y with
    | byt j => obtain ⟨t', rfl⟩ := ry; exact PySem.W.ne_bytes (fin_bl I q (congrArg not dec_byt))
    | _ => exact absurd (show false = true from hs) Bool.false_ne_true
  | _ => cases y <;> exact absurd (show false = true from hs) Bool.false_ne_true

theorem op_lt : OpR X (compareOp .Lt) (rI0 fun i j => .bl (decide (i < j))) := opB0 fun _ _ _ _ _ _ _ q => lt_int q
theorem op_le : OpR X (compareOp .LtE) (rI0 fun i j => .bl (decide (i ≤ j))) := opB0 fun _ _ _ _ _ _ _ q => le_int q
theorem op_gt : OpR X (compareOp .Gt) (rI0 fun i j => .bl (decide (j < i))) := opB0 fun _ _ _ _ _ _ _ q => gt_int q




theorem nomark (b : Expr) {op : CmpOp} (h : op ≠ .In := by decide) (h2 : op ≠ .NotIn := by decide) : behindInMarks op b = false := by
  have e1 : (op == CmpOp.In) = false := by cases op <;> first | rfl | exact absurd rfl h
  have e2 : (op == CmpOp.NotIn) = false := by cases op <;> first | rfl | exact absurd rfl h2
  cases b <;> simp [behindInMarks, e1, e2]
/-- a comparison as a value; hm: nomark b, or (for in, not in) by with_unfolding_all rfl -/
theorem pe_cmpR {op : CmpOp} {r : R2} (ho : OpR X (compareOp op) r) (ha : PE X a ta) (hb : PE X b tb) (hm : behindInMarks op b = false) : PE X (.Compare a [op] [b] pos) (tOp r ta tb) := by
  intro pins s σ H Q I h
  exact wpAny_Compare1 (binT ha hb I h fun v u s2 x y H2 I2 rx ry q => ho pins s2 σ H2 x y v u Q I2 rx ry q) hm
/-- a reading of a value as a test -/
def tTest (t : TE) : TT := fun σ H Q => t σ H fun x H' => ∃ k, x = .bl k ∧ Q k H'
theorem pt_cmpR {op : CmpOp} {r : R2} (ho : OpR X (compareOp op) r) (ha : PE X a ta) (hb : PE X b tb) (hm : behindInMarks op b = false) : PT X (.Compare a [op] [b] pos) (tTest (tOp r ta tb)) := by
  intro pins s σ H Q I h
  refine wpAny_isTrue_Compare1 (thn (ha pins s σ H _ I h) fun v s1 ⟨x, H1, I1, r1, q1⟩ => thn (hb pins s1 σ H1 _ I1 q1) fun u s2 ⟨y, H2, I2, r2, q2⟩ =>
    thn (ho pins s2 σ H2 x y v u _ I2 r1 r2 q2) fun c s3 ⟨z, H3, I3, r3, k, e, q3⟩ => ?_) hm
  subst e
  cases r3
  exact wpAny_truthy_bool ⟨H3, I3, q3⟩

/-! ### truth -/
theorem line63 : (sizeLine : Nat) < 2 ^ 63 := by rw [sizeLine_eq]; decide

/-! ### strs and bytes -/
theorem op_add_str : OpR X (binaryOp .Add) (fun x y H Q => ∃ i j, x = .str i ∧ y = .str j ∧ i.length + j.length ≤ sizeLine ∧ Q (.str (i ++ j)) H) := by
  intro pins s σ H x y v u Q I rx ry h
  obtain ⟨i, j, rfl, rfl, hz, q⟩ := h
  obtain ⟨t, rfl⟩ := rx
  obtain ⟨t', rfl⟩ := ry
  exact wpAny_with_toks (n := 1) I.tk (add_str (fun t' tk htk => ⟨.str (i ++ j), H, I.tok _ htk, ⟨_, rfl⟩, q⟩) hz)


/-! ### scalar builtins, by CallR -/
theorem vals1 {x : V} {us : List Value} (r : Vals [x] us) : ∃ u, us = [u] ∧ RelV x u := by
  cases r with
  | cons r1 r2 => cases r2; exact ⟨_, rfl, r1⟩
theorem vals2 {x y : V} {us : List Value} (r : Vals [x, y] us) : ∃ u w', us = [u, w'] ∧ RelV x u ∧ RelV y w' := by
  cases r with
  | cons r1 r2 =>
    cases r2 with
    | cons r3 r4 => cases r4; exact ⟨_, _, rfl, r1, r3⟩
theorem call_max2 (hc : X.calm = true) : CallR X (.builtin "max") (fun xs H Q => ∃ i j, xs = [.int i, .int j] ∧ Q (.int (if j > i then j else i)) H) := by
  intro pins s σ H xs us Q I r h
  obtain ⟨i, j, rfl, q⟩ := h
  obtain ⟨u, w', rfl, ⟨t, rfl⟩, ⟨t', rfl⟩⟩ := vals2 r
  refine wpAny_with_toks (n := 1) I.tk (max_two_ints (I.ok.hd hc) fun h' tk k htk => ⟨_, H, I.kept k htk, ?_, q⟩)
  by_cases hj : j > i
  · rw [if_pos hj, if_pos hj]; exact ⟨_, rfl⟩
  · rw [if_neg hj, if_neg hj]; exact ⟨_, rfl⟩
theorem call_min2 (hc : X.calm = true) : CallR X (.builtin "min") (fun xs H Q => ∃ i j, xs = [.int i, .int j] ∧ Q (.int (if j < i then j else i)) H) := by
  intro pins s σ H xs us Q I r h
  obtain ⟨i, j, rfl, q⟩ := h
  obtain ⟨u, w', rfl, ⟨t, rfl⟩, ⟨t', rfl⟩⟩ := vals2 r
  refine wpAny_with_toks (n := 1) I.tk (min_two_ints (I.ok.hd hc) fun h' tk k htk => ⟨_, H, I.kept k htk, ?_, q⟩)
  by_cases hj : j < i
  · rw [if_pos hj, if_pos hj]; exact ⟨_, rfl⟩
  · rw [if_neg hj, if_neg hj]; exact ⟨_, rfl⟩
theorem call_int1 : CallR X (.type "int") (fun xs H Q => (∃ i, xs = [.int i] ∧ Q (.int i) H) ∨ ∃ k, xs = [.bl k] ∧ Q (.int (if k then 1 else 0)) H) := by
  intro pins s σ H xs us Q I r h
  rcases h with ⟨i, rfl, q⟩ | ⟨k, rfl, q⟩
  · obtain ⟨u, rfl, t, rfl⟩ := vals1 r
    exact call_int_int ⟨.int i, H, I, ⟨_, rfl⟩, q⟩
  · obtain ⟨u, rfl, r1⟩ := vals1 r
    cases r1
    exact call_int_bool ⟨.int (if k then 1 else 0), H, I.tok _, ⟨_, rfl⟩, q⟩
end
end L2

namespace L2
open PySem PySem.Spec PyProof.Rows

/-! ### an instance, its attributes a map -/
structure ObjM (h : Heap) (x dx C : Addr) (mA : Str → Option Value) : Prop where
  obj : h.get? x = some (PySem.W.instObj C dx)
  ns : h.Ns1 dx mA
  ne : dx ≠ x

theorem lookIn_ns {h : Heap} {dx : Addr} {mA : Str → Option Value} (n : h.Ns1 dx mA) : ∃ od, h.get? dx = some od ∧ ∀ name, PySem.W.lookIn name od = some (mA name) := by
  obtain ⟨o, es, ep, ho, hd, hk, _, hm⟩ := n
  refine ⟨o, ho, fun name => ?_⟩
  have e := hm name
  unfold nsFind findBy at e
  rw [← Array.find?_toList] at e
  unfold PySem.W.lookIn
  rw [hd]
  dsimp only
  split
  · rename_i y q
    rw [q] at e
    exact congrArg some e
  · rename_i q
    rw [q] at e
    have a : es.toList.any (·.refKey) = false := by
      rw [List.any_eq_false]
      intro y hy
      obtain ⟨z, t, hkey⟩ := hk y (Array.mem_toList_iff.mp hy)
      simp [DictEntry.refKey, hkey]
    have a' : ¬ es.toList.any (·.refKey) = true := by rw [a]; exact Bool.false_ne_true
    rw [if_neg a']
    exact congrArg some e

theorem ObjM.look {h : Heap} {x dx C : Addr} {mA : Str → Option Value} (I : ObjM h x dx C mA) : ∃ od, PySem.W.InstAt h x (PySem.W.instObj C dx) C (some od) ∧ ∀ name, PySem.W.lookIn name od = some (mA name) :=
  let ⟨od, ho, hl⟩ := lookIn_ns I.ns
  ⟨od, ⟨I.obj, rfl, rfl, ho⟩, hl⟩

section
variable {prog : Program} {w : World} {A : Around} {E : Value → Shared → Prop} {s : Shared} {K : PySem.W.Frag} {x dx C f : Addr} {mA : Str → Option Value} {name : Str} {v : Value}





end

/-! ### the attributes as a list of pairs -/


section
variable {P : Program} {w : World} {H H' : Hp} {h h' : Heap} {a C dx : Addr} {fs fs' : List (Str × V)}
theorem ins_get (hok : HOk P w H h) (e : H a = some (.ins C dx fs)) : ∃ mA, ObjM h a dx C mA ∧ (∀ f, RelO (fs.lookup f) (mA f)) ∧ PySem.Within mA (fs.map (·.1)) ∧ fs.length ≤ 1000 ∧ H dx = some (.own a) := by
  obtain ⟨d, z, ne, ob, mA, n, r, q⟩ := (show ObjOk P w H h a (.ins C dx fs) from hok a _ e)
  exact ⟨mA, ⟨ob, n, ne⟩, r, q, z, d⟩
end

/-! ### what of the text a class must have -/
structure Cls (K : PySem.W.Frag) (C : Addr) : Prop where
  pg : PySem.W.plainGet K C Str.empty = true
  hd : PySem.W.hasDictIn K C = true
  po : PySem.W.plainOver K C = true
  sa : PySem.W.findIn K (.ref C) "__setattr__" = some (some (.builtin "object.__setattr__"))
theorem Cls.get {K : PySem.W.Frag} {C : Addr} (c : Cls K C) (f : Str) : PySem.W.plainGet K C f = true := c.pg

section
variable {X : Cx} {pins : List (Addr × Obj)} {σ : St} {H : Hp} {s : Shared} {a C dx : Addr} {fs : List (Str × V)} {f : Str} {v : V} {A : Around} {E : Value → Shared → Prop}






end

/-! ### readings and rules -/

section
variable {X : Cx} {o e value : Expr} {f : Str} {pos pos' tpos : Pos} {ta tv : TE}

end

/-! ### isinstance -/
section
variable {X : Cx} {pins : List (Addr × Obj)} {σ : St} {H : Hp} {s : Shared} {A : Around} {E : Value → Shared → Prop} {Q : Value → Shared → Prop} {c : Value} {b : Bool}
/-- the type of a value, as the fragment's deciders take it; for an instance its class -/
inductive TyOf (K : PySem.W.Frag) (H : Hp) : V → Value → Prop where
  | non : TyOf K H .non (.type "NoneType")
  | bl (x : Bool) : TyOf K H (.bl x) (.type "bool")
  | int (i : Int) : TyOf K H (.int i) (.type "int")
  | str (x : Str) : TyOf K H (.str x) (.type "str")
  | flt (x : UInt64) : TyOf K H (.flt x) (.type "float")
  | lst {a : Addr} {xs : List V} (e : H a = some (.lst xs)) : TyOf K H (.ref a) (.type "list")
  | frz {a : Addr} {o : Obj} {xs : List V} (e : H a = some (.frz o (.lst xs))) : TyOf K H (.ref a) (.type "list")
  | tup {a : Addr} {xs : List V} (e : H a = some (.tup xs)) : TyOf K H (.ref a) (.type "tuple")
  | dK {a : Addr} {kvs : List (Key × V)} (e : H a = some (.dK kvs)) : TyOf K H (.ref a) (.type "dict")
  | dT {a : Addr} {kvs : List (List Key × V)} (e : H a = some (.dT kvs)) : TyOf K H (.ref a) (.type "dict")
  | ins {a C dx : Addr} {fs : List (Str × V)} (e : H a = some (.ins C dx fs)) (cl : Cls K C) (ha : PySem.W.findIn K (.ref C) "__class__" = some (some (.builtin "object.__class__")))
      (hn : PySem.W.specialIn K (.builtin "object.__class__") "__get__" = some (some (.builtin "getset_descriptor.__get__"))) (htk : PySem.W.takesIn K (.builtin "object.__class__") = some true)
      (hm : PySem.W.mroIn K C (.type "object") = some true) : TyOf K H (.ref a) (.ref C)
/-- isinstance(x, c) for one class c, a built-in or an own one: kitOne's answer -/
theorem isinst_ok {x : V} {u t : Value} (I : Inv X pins σ H s) (rx : RelV x u) (ty : TyOf X.K H x t) (e : PySem.W.kitOne X.K t c = some b) (h : ∀ tk, Q (.bool b) { s with toks := tk }) :
    wpAny (model X.prog X.w) A (call (.builtin "isinstance") [u, c]) Q E s := by
  cases ty with
  | non => cases (show u = Value.none from rx); exact PySem.W.kia_one PySem.W.kitx_none I.kIn True.intro e (fun z => nomatch z) h
  | bl y => cases (show u = Value.bool y from rx); exact PySem.W.kia_one PySem.W.kitx_bool I.kIn True.intro e (fun z => nomatch z) h
  | int i => obtain ⟨t, q⟩ := (show ∃ t, u = Value.int i t from rx); cases q; exact PySem.W.kia_one PySem.W.kitx_int I.kIn True.intro e (fun z => nomatch z) h
  | str y => obtain ⟨t, q⟩ := (show ∃ t, u = Value.str y t from rx); cases q; exact PySem.W.kia_one PySem.W.kitx_str I.kIn True.intro e (fun z => nomatch z) h
  | flt y => obtain ⟨t, q⟩ := (show ∃ t, u = Value.float y t from rx); cases q; exact PySem.W.kia_one PySem.W.kitx_float I.kIn True.intro e (fun z => nomatch z) h
  | @lst a xs ea =>
    cases (show u = Value.ref a from rx)
    obtain ⟨_, _, n, _, h1⟩ := (show ObjOk X.prog X.w H s.heap a (.lst xs) from I.hok a _ ea)
    exact PySem.W.kia_one PySem.W.kitx_list I.kIn ⟨_, h1, rfl⟩ e (fun z => nomatch z) h
  | @frz a ob xs ea =>
    cases (show u = Value.ref a from rx)
    obtain ⟨_, _, _, n, _, h1⟩ := (show ObjOk X.prog X.w H s.heap a (.frz ob (.lst xs)) from I.hok a _ ea)
    exact PySem.W.kia_one PySem.W.kitx_list I.kIn ⟨_, h1, rfl⟩ e (fun z => nomatch z) h
  | @tup a xs ea =>
    cases (show u = Value.ref a from rx)
    obtain ⟨_, _, _, p⟩ := (show ObjOk X.prog X.w H s.heap a (.tup xs) from I.hok a _ ea)
    obtain ⟨o, h1, h2, _⟩ := p
    exact PySem.W.kia_one PySem.W.kitx_tuple I.kIn ⟨o, h1, h2⟩ e (fun z => nomatch z) h
  | @dK a kvs ea =>
    cases (show u = Value.ref a from rx)
    obtain ⟨_, _, vs, _, p⟩ := (show ObjOk X.prog X.w H s.heap a (.dK kvs) from I.hok a _ ea)
    obtain ⟨o, es, ep, h1, h2, _⟩ := p
    exact PySem.W.kia_one PySem.W.kitx_dict I.kIn ⟨o, h1, h2.1⟩ e (fun z => nomatch z) h
  | @dT a kvs ea =>
    cases (show u = Value.ref a from rx)
    obtain ⟨_, _, xs, _, o, es, ep, h1, h2, _⟩ := (show ObjOk X.prog X.w H s.heap a (.dT kvs) from I.hok a _ ea)
    exact PySem.W.kia_one PySem.W.kitx_dict I.kIn ⟨o, h1, h2.1⟩ e (fun z => nomatch z) h
  | @ins a C dx fs ea cl ha hn htk hm =>
    cases (show u = Value.ref a from rx)
    obtain ⟨mA, O, _⟩ := ins_get I.hok ea
    obtain ⟨od, J, _⟩ := O.look
    exact PySem.W.kia_one (PySem.W.kitx_own (cl.get _) cl.hd ha hn htk hm) I.kIn J e (fun z => nomatch z) h
end
end L2

namespace L2
open PySem PySem.Spec PyProof.Rows

/-! ### room -/
structure Room (k : Nat) (A : Around) : Prop where
  hd : A.handled = none
  dp : A.depth + 3 * k + 5 < recursionLimit
  un : A.units + 16 * k + 200 < cLine
theorem Room.mono {j k : Nat} {A : Around} (r : Room k A) (h : j ≤ k) : Room j A := ⟨r.hd, by have := r.dp; omega, by have := r.un; omega⟩
theorem Room.deeper {k : Nat} {A : Around} (r : Room (k + 1) A) (env : Env) : Room k (A.deeper env) :=
  ⟨r.hd, by have := r.dp; show A.depth + 1 + 3 * k + 5 < _; omega, by have := r.un; show A.units + 3 + 16 * k + 200 < _; omega⟩
theorem Room.depth {k : Nat} {A : Around} (r : Room k A) : A.depth < recursionLimit := by have := r.dp; omega

/-! ### argument lists and displays -/
def tNil : TA := fun _ H Q => Q [] H
def tCons (ta : TE) (tr : TA) : TA := fun σ H Q => ta σ H fun x H1 => tr σ H1 fun xs H2 => Q (x :: xs) H2
section
variable {X : Cx} {e : Expr} {es : List Expr} {te : TE} {t : TA} {pos : Pos}
theorem pa_nil : PA X [] tNil := fun _ _ _ _ H Q I h => Calls.spliced_nil ⟨[], H, I, .nil, h⟩
theorem pa_cons (ha : PE X e te) (hr : PA X es t) (hs : starEach (e :: es) X.env = (false, eval e X.env) :: starEach es X.env := by rfl) : PA X (e :: es) (tCons te t) := by
  intro pos pins s σ H Q I h
  rw [hs]
  show wpAny _ _ (spliced ((false, eval e X.env) :: backTo pos (starEach es X.env))) _ _ s
  refine Calls.spliced_cons (thn (ha pins s σ H _ I h) fun u s1 ⟨x, H1, I1, r1, q1⟩ => ?_)
  exact thn (hr pos pins s1 σ H1 _ I1 q1) fun us s2 ⟨xs, H2, I2, r2, q2⟩ => ⟨x :: xs, H2, I2, .cons r1 r2, q2⟩

/-- a tuple, a list of written items -/
def tTup (t : TA) : TE := fun σ H Q => t σ H fun xs H1 => xs.length ≤ sizeLine ∧ ∀ p, H1 p = none → Q (.ref p) (upd H1 p (.tup xs))
def tLst (t : TA) : TE := fun σ H Q => t σ H fun xs H1 => xs.length ≤ sizeLine ∧ ∀ p, H1 p = none → Q (.ref p) (upd H1 p (.lst xs))
theorem pe_tup {x1} (h : PA X es t) : PE X (.Tuple es x1 pos) (tTup t) := by
  intro pins s σ H Q I hq
  refine wpAny_Tuple_spliced (thn (h pos pins s σ H _ I hq) fun us s1 ⟨xs, H1, I1, r, z, q⟩ => ⟨by rw [← r.length]; exact z, ?_⟩)
  have hf : H1 s1.heap.objs.size = none := I1.hok.fresh (Nat.le_refl _)
  refine ⟨.ref s1.heap.objs.size, upd H1 s1.heap.objs.size (.tup xs), I1.laid (t' := s1.toks) (fun b u e => Heap.get?_push_of_some _ e) (Nat.le_refl _) ?_, rfl, q _ hf⟩
  exact ⟨z, us, r, ⟨_, Heap.get?_push_size _ rfl, rfl, _, rfl⟩⟩
theorem pe_lst (h : PA X es t) : PE X (.List es pos) (tLst t) := by
  intro pins s σ H Q I hq
  refine wpAny_List_spliced (thn (h pos pins s σ H _ I hq) fun us s1 ⟨xs, H1, I1, r, z, q⟩ => ⟨by rw [← r.length]; exact z, ?_⟩)
  have hf : H1 s1.heap.objs.size = none := I1.hok.fresh (Nat.le_refl _)
  refine ⟨.ref s1.heap.objs.size, upd H1 s1.heap.objs.size (.lst xs), I1.laid (t' := s1.toks) (fun b u e => Heap.get?_push_of_some _ e) (Nat.le_refl _) ?_, rfl, q _ hf⟩
  exact ⟨z, us, 0, r, Heap.get?_push_size _ rfl⟩
end

/-! ### what a def promises -/
/-- a def's promise: the bound arguments in the parameters' order, the heap, the wanted end, the wanted exception -/
abbrev Sp := List V → Hp → VK → XK → Prop
/-- how an exception lies behind a call (file 08 gives it): the callers' frames, abstract heap and state ahead of the call, the wish, the exception, the state -/
abbrev CXT := List Env → Hp → Shared → XK → Value → Shared → Prop

/-- the state at a call -/
structure Env0 (P : Program) (w : World) (K : PySem.W.Frag) (mg : Str → Option Value) (base : Heap) (A : Around) (outer : List Env) (s : Shared) (H : Hp) : Prop where
  frames : A.frames = some outer
  mod : Mod K mg base
  bs : ∀ b o, base.get? b = some o → s.heap.get? b = some o ∧ H b = none
  bsz : base.objs.size ≤ s.heap.objs.size
  funs : s.heap.FunFrames base outer
  frf : ∀ b ∈ frs outer, H b = none
  hok : HOk P w H s.heap
  bare : AllBare s.gens
  tk : 0 < s.toks
/-- a call's end -/
def CE (outer : List Env) (P : Program) (w : World) (H : Hp) (s : Shared) (Q : VK) (u : Value) (s' : Shared) : Prop :=
  ∃ v H', s'.os = s.os ∧ AllBare s'.gens ∧ Un (frs outer) [] H H' s.heap s'.heap ∧ HOk P w H' s'.heap ∧ 0 < s'.toks ∧ RelV v u ∧ Q v H'
def CR (CX : CXT) (outer : List Env) (P : Program) (w : World) (H : Hp) (s : Shared) (Q : VK) (E : XK) (r : Result) (s' : Shared) : Prop :=
  match r with
  | .ok (.ret u) => CE outer P w H s Q u s'
  | .ok _ => False
  | .error e => CX outer H s E e s'
structure FnOk (P : Program) (w : World) (K : PySem.W.Frag) (mg : Str → Option Value) (base : Heap) (CX : CXT) (k : Nat) (f : Addr) (fd : FuncData) (ps : List Str) (sp : Sp) : Prop where
  len : ∀ vs H Q E, sp vs H Q E → vs.length = ps.length
  run : ∀ (A : Around) (outer : List Env) (s : Shared) (H : Hp) (args : Args) (us : List Value) (vs : List V) (Q : VK) (E : XK), Room k A → Env0 P w K mg base A outer s H → BindsTo s fd args (ps.zip us) → Vals vs us → sp vs H Q E →
    codeAny (model P w) A (.call (.ref f) args) (CR CX outer P w H s Q E) s
theorem FnOk.mono {P : Program} {w : World} {K : PySem.W.Frag} {mg : Str → Option Value} {base : Heap} {CX : CXT} {j k : Nat} {f : Addr} {fd : FuncData} {ps : List Str} {sp : Sp} (F : FnOk P w K mg base CX j f fd ps sp) (h : j ≤ k) :
    FnOk P w K mg base CX k f fd ps sp := ⟨F.len, fun A outer s H args us vs Q E hr => F.run A outer s H args us vs Q E (hr.mono h)⟩


section
variable {X : Cx} {pins : List (Addr × Obj)} {σ : St} {H : Hp} {s s' : Shared}
/-- from a body: what a callee wants -/
theorem Inv.env0 (I : Inv X pins σ H s) : Env0 X.prog X.w X.K X.mg X.base X.A X.stack s H :=
  ⟨I.ok.frames, I.ok.mod, I.bs, Nat.le_trans I.ok.bsz I.sz, I.stack, I.stkFree, I.hok, I.bare, I.tk⟩
/-- behind a call -/
theorem Inv.after {Q : VK} {u : Value} (I : Inv X pins σ H s) (h : CE X.stack X.prog X.w H s Q u s') : EP X pins σ Q u s' := by
  obtain ⟨v, H', os, bare, un, hok, tk', r, q⟩ := h
  obtain ⟨hh, g, d, t, os'⟩ := s'
  obtain rfl : os' = s.os := os
  exact ⟨v, H', I.call (h' := hh) (g' := g) (d' := d) (t' := t) (ch := []) un hok bare (fun b z => absurd z (by simp)) tk', r, q⟩
end

/-! ### calls -/
/-- f(..): the written arguments, then the defaults dvs; E: what is wanted of an exception -/
def tCall (sp : Sp) (dvs : List V) (E : XK) (t : TA) : TE := fun σ H Q => t σ H fun vs H1 => sp (vs ++ dvs) H1 Q E

/-- how the parameters are bound: us the positional arguments, kw the keywords' values by name, ds the defaults that fill up -/
def Binds (K : PySem.W.Frag) (fd : FuncData) (ps : List Str) (ds : List Value) : Prop :=
  ∀ (s : Shared) (us : List Value), K.In s.heap → (us ++ ds).length = ps.length → BindsTo s fd ⟨us, []⟩ (ps.zip (us ++ ds))
/-- every parameter is given -/
theorem Binds.all {K : PySem.W.Frag} {fd : FuncData} {ps : List Str} (h : ∀ us : List Value, us.length = ps.length → bindArgs fd ⟨us, []⟩ = pure (ps.zip us)) : Binds K fd ps [] := fun s us _ hl => by
  rw [List.append_nil] at hl ⊢
  exact .of_eq (h us hl)

/-- an exception of a callee reaches what this body wants of exceptions -/
def Passes (CX : CXT) (X : Cx) (E : XK) : Prop := ∀ (pins : List (Addr × Obj)) (σ : St) (H : Hp) (s : Shared) (e : Value) (s' : Shared), Inv X pins σ H s → CX X.stack H s E e s' → X.xe e s'

section
variable {X : Cx} {CX : CXT} {k : Nat} {f C : Addr} {fd : FuncData} {ps : List Str} {sp : Sp} {dvs : List V} {ds : List Value} {E : XK} {x m : Str} {p pos apos : Pos} {e o : Expr} {es : List Expr} {ta : TE} {t : TA}

/-- the callee runs -/
theorem run_fn {pins : List (Addr × Obj)} {σ : St} {H : Hp} {s : Shared} {Q : VK} {us : List Value} {vs : List V} (F : FnOk X.prog X.w X.K X.mg X.base CX k f fd ps sp) (hr : Room k X.A) (hb : Binds X.K fd ps ds) (hd : Vals dvs ds) (hx : Passes CX X E)
    (I : Inv X pins σ H s) (r : Vals vs us) (h : sp (vs ++ dvs) H Q E) : wpAny (model X.prog X.w) X.A (call (.ref f) us) (EP X pins σ Q) X.xe s := by
  have r2 : Vals (vs ++ dvs) (us ++ ds) := r.append hd
  have hl : (us ++ ds).length = ps.length := by rw [← r2.length]; exact F.len _ _ _ _ h
  refine wpAny_call (codeAny_mono (F.run X.A X.stack s H ⟨us, []⟩ (us ++ ds) (vs ++ dvs) Q E hr I.env0 (hb s us I.kIn hl) r2 h) fun r s' hq => ?_)
  cases r with
  | error e => exact hx pins σ H s e s' I hq
  | ok fl =>
    cases fl with
    | ret u => exact I.after hq
    | next => exact False.elim hq
    | brk => exact False.elim hq
    | cont => exact False.elim hq

theorem pe_call (F : FnOk X.prog X.w X.K X.mg X.base CX k f fd ps sp) (hr : Room k X.A) (hg : Gl X x) (hm : X.mg x = some (.ref f)) (hk : PySem.W.keepIn X.K (.ref f) = true) (hb : Binds X.K fd ps ds) (hd : Vals dvs ds) (hx : Passes CX X E)
    (ha : PA X (e :: es) t) (hdb : (x == ("__debug__" : Str)) = false := by decide) (he : starEach (e :: es) X.env = (false, eval e X.env) :: starEach es X.env := by rfl) (hpl : (backTo pos (starEach es X.env)).any (·.1) = false := by rfl) :
    PE X (.Call (.Name x p) (e :: es) [] pos) (tCall sp dvs E t) := by
  intro pins s σ H Q I h
  refine wpAny_Call_Name_kw (ld_glob I hg hm ?_ hdb)
  refine PySem.W.callWith_K (h₀ := X.base) I.ok.mod.kin hk (thn (ha pos pins s σ H _ I h) fun us s1 ⟨vs, H1, I1, r, q⟩ => ⟨I1.kIn, ?_⟩) he hpl
  exact run_fn F hr hb hd hx I1 r q



end

/-! ### keywords -/
section
variable {X : Cx} {CX : CXT} {k : Nat} {f C : Addr} {fd : FuncData} {ps ks : List Str} {sp : Sp} {E : XK} {x m : Str} {p pos apos kpos : Pos} {e o : Expr} {es : List Expr} {kws : List Keyword} {te ta : TE} {t tk : TA} {nm : Option Str}

variable {g : List Value → List Value → List Value} {gV : List V → List V → List V}
end

/-! ### a def's body keeps its promise -/
/-- names: the parameters first -/
structure FnScope (N P : List Str) (sc : Scope) : Prop where
  kind : sc.kind = .function
  co : sc.isCoroutine = false
  gen : sc.isGenerator = false
  nd : N.Nodup
  pre : N.take P.length = P
  par : ∀ x ∈ P, sc.names.lookup x = some .local ∨ sc.names.lookup x = some .cell
  nofree : ∀ y ∈ sc.names, y.2 ≠ .free

theorem bindL_out {kindOf : Str → Option NameKind} {x : Str} : ∀ {binds : List (Str × Value)} {m : Str → Option Value}, (∀ v, (x, v) ∉ binds) → bindL kindOf binds m x = m x
  | [], _, _ => rfl
  | (n, v) :: r, m, h => by
    unfold bindL
    rw [bindL_out fun w hw => h w (List.mem_cons_of_mem _ hw)]
    split
    · have : x ≠ n := by rintro rfl; exact h v List.mem_cons_self
      simp [this]
    · rfl
theorem bindC_out {kindOf : Str → Option NameKind} {x : Str} : ∀ {binds : List (Str × Value)} {m : Str → Option Value}, (∀ v, (x, v) ∉ binds) → bindC kindOf binds m x = m x
  | [], _, _ => rfl
  | (n, v) :: r, m, h => by
    unfold bindC
    rw [bindC_out fun w hw => h w (List.mem_cons_of_mem _ hw)]
    split
    · rfl
    · have : x ≠ n := by rintro rfl; exact h v List.mem_cons_self
      simp [this]
theorem bindL_get {kindOf : Str → Option NameKind} {x : Str} {v : Value} : ∀ {P : List Str} {vs : List Value} {i : Nat} {m : Str → Option Value}, P.Nodup → P[i]? = some x → vs[i]? = some v → kindOf x = some .local →
    bindL kindOf (P.zip vs) m x = some v
  | [], _, _, _, _, h, _, _ => by simp at h
  | _ :: _, [], _, _, _, _, h, _ => by simp at h
  | p :: P, w :: vs, 0, m, nd, h1, h2, hk => by
    simp at h1 h2; subst h1; subst h2
    show bindL kindOf ((p, w) :: P.zip vs) m p = _
    unfold bindL
    rw [bindL_out fun v hv => (List.nodup_cons.mp nd).1 (List.of_mem_zip hv).1, if_pos hk]
    simp
  | p :: P, w :: vs, i + 1, m, nd, h1, h2, hk => by
    show bindL kindOf ((p, w) :: P.zip vs) m x = _
    unfold bindL
    exact bindL_get (i := i) (List.nodup_cons.mp nd).2 (by simpa using h1) (by simpa using h2) hk
theorem bindC_get {kindOf : Str → Option NameKind} {x : Str} {v : Value} : ∀ {P : List Str} {vs : List Value} {i : Nat} {m : Str → Option Value}, P.Nodup → P[i]? = some x → vs[i]? = some v → kindOf x ≠ some .local →
    bindC kindOf (P.zip vs) m x = some v
  | [], _, _, _, _, h, _, _ => by simp at h
  | _ :: _, [], _, _, _, _, h, _ => by simp at h
  | p :: P, w :: vs, 0, m, nd, h1, h2, hk => by
    simp at h1 h2; subst h1; subst h2
    show bindC kindOf ((p, w) :: P.zip vs) m p = _
    unfold bindC
    rw [bindC_out fun v hv => (List.nodup_cons.mp nd).1 (List.of_mem_zip hv).1, if_neg hk]
    simp
  | p :: P, w :: vs, i + 1, m, nd, h1, h2, hk => by
    show bindC kindOf ((p, w) :: P.zip vs) m x = _
    unfold bindC
    exact bindC_get (i := i) (List.nodup_cons.mp nd).2 (by simpa using h1) (by simpa using h2) hk

/-- the names' values at the entry -/
def start (N : List Str) (vs : List V) : St := vs.map some ++ List.replicate (N.length - vs.length) none

/-- the context of a def's body, at its entry; an exception leaves the frame, then lies as CX says -/
def cxOf (CX : CXT) (P : Program) (w : World) (K : PySem.W.Frag) (mg : Str → Option Value) (base : Heap) (N : List Str) (qual : Str) (scope : Scope) (f : Addr) (cd : Value) (A : Around) (outer : List Env) (s : Shared) (H : Hp) (E : XK) : Cx where
  prog := P
  w := w
  K := K
  mg := mg
  base := base
  A := A.deeper (envOfC qual scope s.heap.objs.size f cd)
  N := N
  s₀ := s
  H₀ := H
  env := envOfC qual scope s.heap.objs.size f cd
  outer := outer
  stack := envOfC qual scope s.heap.objs.size f cd :: outer
  ex := []
  calm := true
  fn := fun _ => true
  pn := []
  xe := fun e s' => wpAny (model P w) (A.deeper (envOfC qual scope s.heap.objs.size f cd)) (leaving (envOfC qual scope s.heap.objs.size f cd) e) (fun _ s'' => CX outer H s E e s'') (fun e' s'' => CX outer H s E e' s'') s'

theorem cell_has {sc : Scope} {n : Nat} {x : Str} (h : sc.names.lookup x = some .cell) : ∃ c, (cellsFrom n sc.names []).lookup x = some c := by
  have q := PySem.W.cellsFrom_some sc.names n [] (.inl h)
  exact Option.isSome_iff_exists.mp q

theorem inv_start {CX : CXT} {P : Program} {w : World} {K : PySem.W.Frag} {mg : Str → Option Value} {base : Heap} {N ps : List Str} {qual : Str} {scope : Scope} {f : Addr} {cd : Value} {A : Around} {outer : List Env} {s s1 : Shared} {H : Hp} {E : XK} {us : List Value} {vs : List V}
    (S : FnScope N ps scope) (hd : A.handled = none) (e0 : Env0 P w K mg base A outer s H) (hl : vs.length = ps.length) (r : Vals vs us) (htk : 0 < s1.toks)
    (x : InCallC s s.heap.objs.size (bindL (envOfC qual scope s.heap.objs.size f cd).kindOf (ps.zip us) fun _ => none) (cellsFrom (s.heap.objs.size + 1) scope.names []) (bindC (envOfC qual scope s.heap.objs.size f cd).kindOf (ps.zip us) fun _ => none) s1) :
    Inv (cxOf CX P w K mg base N qual scope f cd A outer s H E) [] (start N vs) H s1 := by
  have hpl : ps.length ≤ N.length := by have := congrArg List.length S.pre; rw [List.length_take] at this; omega
  obtain ⟨h1, tk, rfl, hk⟩ := x.done
  have noA : ∀ b : Addr, b ∉ (cxOf CX P w K mg base N qual scope f cd A outer s H E).ex := fun b z => absurd (show b ∈ ([] : List Addr) from z) (by simp)
  refine ⟨⟨e0.mod, S.kind, rfl, rfl, Nat.le_refl _, fun y z c h1 h2 => ?_, fun y hy => ?_, fun y c _ h => ?_, fun _ => hd, Around.frames_deeper e0.frames, .inr ⟨rfl, rfl⟩, fun b z => absurd z (noA b), e0.bs, e0.bsz, fun b _ _ => noA b, fun b z => absurd z (noA b), e0.funs, e0.frf⟩,
    rfl, e0.bare, Un.kept hk, ⟨_, x.toInCall.ns, fun i y v h1 h2 h3 => ?_⟩, fun y c h => ⟨_, x.cell y c h⟩, e0.hok.fresh (Nat.le_refl _), fun y c h => ?_, fun p hp => absurd (show p ∈ ([] : List (Addr × Obj)) from hp) (by simp), e0.hok.kept hk, ?_, htk⟩
  · exact name_of_addr x.apart (PySem.mem_of_lookup h1) (PySem.mem_of_lookup h2)
  · have hy : scope.names.lookup y = some .cell ∨ scope.names.lookup y = some .free := hy
    rcases hy with hy | hy
    · exact cell_has hy
    · exact absurd rfl (S.nofree _ (PySem.mem_of_lookup hy))
  · exact Nat.le_of_lt (x.above y c (PySem.mem_of_lookup h))
  · have hi : i < vs.length := by
      unfold start at h2
      by_cases hi : i < vs.length
      · exact hi
      · rw [List.getElem?_append_right (by simpa using hi)] at h2
        rw [List.getElem?_replicate] at h2
        split at h2 <;> cases h2
    have ha : vs[i]? = some v := by
      unfold start at h2
      rw [List.getElem?_append_left (by simpa using hi), List.getElem?_map] at h2
      cases e : vs[i]? with
      | none => rw [e] at h2; cases h2
      | some a => rw [e] at h2; cases h2; rfl
    obtain ⟨u, hu, rv⟩ := r.get ha
    have hp : ps[i]? = some y := by
      rw [← S.pre, List.getElem?_take_of_lt (by omega)]; exact h1
    have ndP : ps.Nodup := by rw [← S.pre]; exact S.nd.sublist (List.take_sublist _ _)
    refine ⟨u, rv, ?_⟩
    rcases S.par y (List.mem_of_getElem? hp) with k | k
    · exact .inl ⟨k, bindL_get ndP hp hu k⟩
    · obtain ⟨c, e⟩ := cell_has (n := s.heap.objs.size + 1) k
      refine .inr ⟨.inl k, c, e, ?_⟩
      have q := x.cell y c e
      rw [bindC_get ndP hp hu (by show scope.names.lookup y ≠ _; rw [k]; decide)] at q
      exact q
  · exact e0.hok.fresh (Nat.le_of_lt (x.above y c (PySem.mem_of_lookup h)))
  · unfold start
    show _ = N.length
    rw [List.length_append, List.length_map, List.length_replicate]
    omega

/-- THE RULE: a def (or a method) of the text, by its body. The body's reading t is chosen for each entry; it is run at the parameters' values -/
theorem fn_of {CX : CXT} {P : Program} {w : World} {K : PySem.W.Frag} {mg : Str → Option Value} {base : Heap} {k : Nat} {f : Addr} {name qual : Str} {params : Arguments} {body : List Stmt} {scope : Scope} {dV kV doc pm cdv ct oc : Value} {an od : Option Addr}
    {osl : Array (Option Value)} {N ps : List Str} {sp : Sp} (lk : K.lookup f = some ⟨oc, od, .func (PySem.W.fnOf name qual params body scope dV kV doc pm an cdv ct), osl⟩) (hcd : PySem.W.codeIn K cdv qual = true) (S : FnScope N ps scope)
    (len : ∀ vs H Q E, sp vs H Q E → vs.length = ps.length)
    (hbody : ∀ (A : Around) (outer : List Env) (s : Shared) (H : Hp) (vs : List V) (Q : VK) (E : XK), Room k (A.deeper (envOfC qual scope s.heap.objs.size f cdv)) → sp vs H Q E →
      ∃ t, PSs (cxOf CX P w K mg base N qual scope f cdv A outer s H E) body t ∧ t { nx := fun _ H' => Q .non H', rt := Q } (start N vs) H) :
    FnOk P w K mg base CX (k + 1) f (PySem.W.fnOf name qual params body scope dV kV doc pm an cdv ct) ps sp := by
  refine ⟨len, fun A outer s H args us vs Q E hr e0 hb r hsp => ?_⟩
  have hl := len _ _ _ _ hsp
  have KX : K.In s.heap := e0.mod.kin.keeps fun b o e => (e0.bs b o e).1
  have lim : s.heap.NoLimit := e0.mod.nolimit.keeps fun b o e => (e0.bs b o e).1
  have hkind : ∀ y ∈ ps.zip us, scope.names.lookup y.1 = some .local ∨ (scope.names.lookup y.1 = some .cell ∧ ((cellsFrom (s.heap.objs.size + 1) scope.names []).lookup y.1).isSome = true) := fun ⟨n, v⟩ hy => by
    rcases S.par n (List.of_mem_zip hy).1 with q | q
    · exact .inl q
    · exact .inr ⟨q, PySem.W.cellsFrom_some _ _ _ (.inl q)⟩
  refine codeAny_call_function hr.depth (KX _ _ lk) rfl S.co S.gen rfl (PySem.W.codeRec_of KX hcd) (hb _ _ _ _ ?_)
  refine wpAny_with_toks (n := 1) e0.tk (wpAny_newFunctionEnv_cells S.kind hkind fun env he s1 x htk => ?_)
  subst he
  refine ⟨lim.keeps x.toInCall.keep, codeAny_func ?_⟩
  obtain ⟨t, ht, hq⟩ := hbody A outer s H vs Q E (hr.deeper _) hsp
  have I : Inv (cxOf CX P w K mg base N qual scope f cdv A outer s H E) [] (start N vs) H s1 := inv_start S hr.hd e0 hl r htk x
  refine wpAny_mono (ht [] s1 (start N vs) H _ I hq) (fun fl s' hs => ?_) fun e s' hs => hs
  have fin : ∀ {σ' : St} {H' : Hp} {v : V} {u : Value}, Inv (cxOf CX P w K mg base N qual scope f cdv A outer s H E) [] σ' H' s' → RelV v u → Q v H' → CE outer P w H s Q u s' :=
    fun {σ' H' v u} J rv q => ⟨v, H', J.os, J.bare, J.base, J.hok, J.tk, rv, q⟩
  cases fl with
  | ret u =>
    obtain ⟨v, σ', H', J, rv, q⟩ := hs
    exact fin J rv q
  | next =>
    obtain ⟨σ', H', J, q⟩ := hs
    exact fin (v := V.non) (u := Value.none) J rfl q
  | brk =>
    obtain ⟨_, _, _, q⟩ := hs
    exact False.elim q
  | cont =>
    obtain ⟨_, _, _, q⟩ := hs
    exact False.elim q
end L2

namespace L2
open PySem PySem.Spec PyProof.Rows
section
variable {X : Cx} {x : Str} {p pos : Pos} {e : Expr} {es : List Expr} {t : TA} {id T : String} {r : List V → Hp → VK → Prop}

def tCB (r : List V → Hp → VK → Prop) (t : TA) : TE := fun σ H Q => t σ H fun vs H1 => r vs H1 Q
/-- f(e, ..), f a built-in function -/
theorem pe_callB (hc : CallR X (.builtin id) r) (hg : Gl X x) (hm : X.mg x = none) (hv : bootBuiltins x = some (.builtin id)) (ha : PA X (e :: es) t) (hn : x ≠ "__name__" := by decide) (hdb : (x == ("__debug__" : Str)) = false := by decide)
    (he : starEach (e :: es) X.env = (false, eval e X.env) :: starEach es X.env := by rfl) (hpl : (backTo pos (starEach es X.env)).any (·.1) = false := by rfl) : PE X (.Call (.Name x p) (e :: es) [] pos) (tCB r t) := by
  intro pins s σ H Q I h
  refine wpAny_Call_Name_kw (ld_blt I hg hm hv ?_ hn hdb)
  exact PyProof.Rows.callWith_builtin1 (thn (ha pos pins s σ H _ I h) fun us s1 ⟨vs, H1, I1, r1, q1⟩ => hc pins s1 σ H1 vs us Q I1 r1 q1) he hpl
/-- T(e, ..), T a built-in type -/
theorem pe_callTy (hc : CallR X (.type T) r) (hg : Gl X x) (hm : X.mg x = none) (hv : bootBuiltins x = some (.type T)) (ha : PA X (e :: es) t) (hn : x ≠ "__name__" := by decide) (hdb : (x == ("__debug__" : Str)) = false := by decide)
    (he : starEach (e :: es) X.env = (false, eval e X.env) :: starEach es X.env := by rfl) (hpl : (backTo pos (starEach es X.env)).any (·.1) = false := by rfl) : PE X (.Call (.Name x p) (e :: es) [] pos) (tCB r t) := by
  intro pins s σ H Q I h
  refine wpAny_Call_Name_kw (ld_blt I hg hm hv ?_ hn hdb)
  exact PyProof.Rows.callWith_type1 (thn (ha pos pins s σ H _ I h) fun us s1 ⟨vs, H1, I1, r1, q1⟩ => hc pins s1 σ H1 vs us Q I1 r1 q1) he hpl
end
end L2

namespace HT
open PySem PyProof.Rows



section
open PySem.SeqAt
open PySem.AutoSeq1 (wpAny_loadPart')
open PySem.MeetsSeq PySem.MeetsSeq2 PySem.MeetsSeq3

end

section
variable {prog : Program} {w : World} {A : Around} {E : Value → Shared → Prop} {s : Shared}



/-! ### t[a:b], not the whole -/
/-- a slice's bound as a place among n (d where it is left out) -/
def sIx (n d : Nat) : Option Int → Nat
  | none => d
  | some v => if v < 0 then (v + (n : Int)).toNat else min v.toNat n

end
end HT

namespace L2
open PySem PySem.Spec PyProof.Rows

/-! ### the parts of a slice -/
abbrev TO := St → Hp → (Option Int → Hp → Prop) → Prop
/-- a slice's part (left out, or an int) -/
def PO (X : Cx) (e : Option Expr) (t : TO) : Prop :=
  ∀ (pins : List (Addr × Obj)) (s : Shared) (σ : St) (H : Hp) (Q : Option Int → Hp → Prop), Inv X pins σ H s → t σ H Q →
    wpAny (model X.prog X.w) X.A (evalPart e X.env) (fun u s' => ∃ o H', Inv X pins σ H' s' ∧ IsPart u o ∧ Q o H') X.xe s
def tNoPart : TO := fun _ H Q => Q none H
def tPart (t : TE) : TO := fun σ H Q => t σ H fun x H1 => ∃ i, x = .int i ∧ Q (some i) H1


section
variable {X : Cx} {e : Expr} {te : TE} {lo hi : Option Expr} {tl th : TO} {pos p2 : Pos}

theorem po_none : PO X none tNoPart := by
  intro pins s σ H Q I h
  rw [evalPart_none]
  exact wpAny_pure ⟨none, H, I, .none, h⟩
theorem po_some (h : PE X e te) : PO X (some e) (tPart te) := by
  intro pins s σ H Q I hw
  rw [evalPart_some]
  refine thn (h pins s σ H _ I hw) fun u s1 ⟨x, H1, I1, r1, q1⟩ => ?_
  obtain ⟨i, rfl, q⟩ := q1
  obtain ⟨t, rfl⟩ := r1
  exact ⟨some i, H1, I1, .int i t, q⟩

/-- what a slice of a value is, by values: the slice object stands at sl -/
def SlR (X : Cx) (r : V → Option Int → Option Int → Hp → VK → Prop) : Prop :=
  ∀ (pins : List (Addr × Obj)) (s : Shared) (σ : St) (H : Hp) (x : V) (v vl vu : Value) (lo hi : Option Int) (sl : Addr) (Q : VK), Inv X pins σ H s → RelV x v → s.heap.IsSliceOf sl vl vu .none → IsPart vl lo → IsPart vu hi → r x lo hi H Q →
    ∃ T id, typeLookup (.type T) "__getitem__" = pure (some (.builtin id)) ∧ s.TypeIs v T ∧ wpAny (model X.prog X.w) X.A (getItem v (.ref sl)) (EP X pins σ Q) X.xe s
def tSl (r : V → Option Int → Option Int → Hp → VK → Prop) (te : TE) (tl th : TO) : TE := fun σ H Q => te σ H fun x H1 => tl σ H1 fun l H2 => th σ H2 fun u H3 => r x l u H3 Q
/-- a[lo:hi], any a -/
theorem pe_slice {r : V → Option Int → Option Int → Hp → VK → Prop} (hr : SlR X r) (he : PE X e te) (hl : PO X lo tl) (hu : PO X hi th) : PE X (.Subscript e (.Slice lo hi none p2) pos) (tSl r te tl th) := by
  intro pins s σ H Q I h
  refine Subscript_ (thn (he pins s σ H _ I h) fun v s1 ⟨x, H1, I1, r1, q1⟩ => ?_)
  refine wpAny_Slice (thn (hl pins s1 σ H1 _ I1 q1) fun vl s2 ⟨l, H2, I2, pl, q2⟩ => thn (hu pins s2 σ H2 _ I2 q2) fun vu s3 ⟨u, H3, I3, pu, q3⟩ => ?_)
  rw [evalPart_none]
  refine wpAny_pure ?_
  have I4 : Inv X pins σ H3 { s3 with heap := s3.heap.push { cls := .type "slice", data := .fields #[vl, vu, .none] } } := I3.kept (t' := s3.toks) fun b ob q => Heap.get?_push_of_some _ q
  obtain ⟨T, id, hT, ht, hg⟩ := hr pins { s3 with heap := s3.heap.push { cls := .type "slice", data := .fields #[vl, vu, .none] } } σ H3 x v vl vu l u s3.heap.objs.size Q I4 r1 (Heap.IsSliceOf.new ..) pl pu q3
  show wpAny (model X.prog X.w) X.A (subscriptTail e (.Slice lo hi none p2) v (.ref s3.heap.objs.size)) (EP X pins σ Q) X.xe { s3 with heap := s3.heap.push { cls := .type "slice", data := .fields #[vl, vu, .none] } }
  exact tail_any (ops := [.ref s3.heap.objs.size, v]) ht hT hg (by with_unfolding_all rfl)

/-- the items of xs[lo:hi] -/
def cutV (xs : List V) (lo hi : Option Int) : List V := (xs.drop (HT.sIx xs.length 0 lo)).take (HT.sIx xs.length xs.length hi - HT.sIx xs.length 0 lo)
theorem cutV_length (xs : List V) (lo hi : Option Int) : (cutV xs lo hi).length ≤ xs.length := by
  unfold cutV
  rw [List.length_take, List.length_drop]
  omega

/-! ### t < u, t + u -/
end
end L2

namespace L2
open PySem PySem.Spec PyProof.Rows

/-! ### places -/
/-- the place that an index of any sign means -/
def ixN (n : Nat) (i : Int) : Option Nat := if 0 ≤ i then (if i < n then some i.toNat else none) else if -(n : Int) ≤ i then some (i + n).toNat else none
def atI {α : Type} (xs : List α) (i : Int) : Option α := (ixN xs.length i).bind fun j => xs[j]?
theorem ixN_seq {n : Nat} {i : Int} {j : Nat} (h : ixN n i = some j) : seqIndex? i n = some j ∧ j < n ∧ -(n : Int) ≤ i ∧ i < n := by
  unfold ixN at h
  by_cases h0 : 0 ≤ i
  · rw [if_pos h0] at h
    by_cases h1 : i < n
    · rw [if_pos h1] at h
      have e : i.toNat = j := Option.some.inj h
      exact ⟨by rw [seqIndex_of h0 h1, e], by omega, by omega, h1⟩
    · rw [if_neg h1] at h; cases h
  · rw [if_neg h0] at h
    by_cases h1 : -(n : Int) ≤ i
    · rw [if_pos h1] at h
      have e : (i + n).toNat = j := Option.some.inj h
      exact ⟨by rw [seqIndex_neg (by omega) h1, e], by omega, h1, by omega⟩
    · rw [if_neg h1] at h; cases h
theorem atI_get {α : Type} {xs : List α} {i : Int} {v : α} (h : atI xs i = some v) : ∃ j, seqIndex? i xs.length = some j ∧ xs[j]? = some v ∧ j < xs.length ∧ -(xs.length : Int) ≤ i ∧ i < xs.length := by
  unfold atI at h
  cases e : ixN xs.length i with
  | none => rw [e] at h; cases h
  | some j =>
    rw [e] at h
    obtain ⟨h1, h2, h3, h4⟩ := ixN_seq e
    exact ⟨j, h1, h, h2, h3, h4⟩
theorem atI_nat {α : Type} {xs : List α} {j : Nat} {v : α} (h : xs[j]? = some v) : atI xs (j : Int) = some v := by
  have hj : j < xs.length := (List.getElem?_eq_some_iff.mp h).1
  have e : ixN xs.length (j : Int) = some j := by
    unfold ixN
    rw [if_pos (by omega), if_pos (by omega)]; simp
  unfold atI; rw [e]; exact h

/-! ### what may be subscripted -/
/-- what stands as an index of a plain subscript -/
def PlainIx (b : Expr) : Prop := ∀ o i, subscripted b false o i = operate [o, i] (getItem o i)
/-- a subscript by values -/
def IxR (X : Cx) (r : R2) : Prop :=
  ∀ (value slice : Expr) (pins : List (Addr × Obj)) (s : Shared) (σ : St) (H : Hp) (x y : V) (v u : Value) (Q : VK), Inv X pins σ H s → RelV x v → RelV y u → r x y H Q →
    subscripted slice false v u = operate [v, u] (getItem v u) → wpAny (model X.prog X.w) X.A (subscriptTail value slice v u) (EP X pins σ Q) X.xe s
/-- a call of a builtin's method by values: the receiver, the arguments -/
def MtR (X : Cx) (id : String) (r : V → List V → Hp → VK → Prop) : Prop :=
  ∀ (pins : List (Addr × Obj)) (s : Shared) (σ : St) (H : Hp) (x : V) (xs : List V) (v : Value) (us : List Value) (Q : VK), Inv X pins σ H s → RelV x v → Vals xs us → r x xs H Q →
    wpAny (model X.prog X.w) X.A (call (.builtin id) (v :: us)) (EP X pins σ Q) X.xe s
section
variable {X : Cx} {a b : Expr} {ta tb : TE} {pos : Pos}
/-- a[b] -/
theorem pe_ix {r : R2} (hr : IxR X r) (ha : PE X a ta) (hb : PE X b tb) (hs : PlainIx b) : PE X (.Subscript a b pos) (tOp r ta tb) := by
  intro pins s σ H Q I h
  exact Subscript_ (binT ha hb I h fun v u s2 x y H2 I2 rx ry q => hr a b pins s2 σ H2 x y v u Q I2 rx ry q (hs _ _))

def rIxL (K : PySem.W.Frag) : R2 := fun x y H Q => ∃ p xs i v, x = .ref p ∧ y = .int i ∧ SqL K H p xs ∧ atI xs i = some v ∧ Q v H
def rIxS : R2 := fun x y H Q => ∃ z i c, x = .str z ∧ y = .int i ∧ z.length ≤ sizeLine ∧ atI z.cps.toList i = some c ∧ Q (.str ⟨#[c]⟩) H
theorem ix_list : IxR X (rIxL X.K) := by
  intro value slice pins s σ H x y v u Q I rx ry h hs
  obtain ⟨p, xs, i, z, rfl, rfl, hq, he, q⟩ := h
  cases rx
  obtain ⟨t, rfl⟩ := ry
  obtain ⟨its, r, pl, hz⟩ := I.list hq
  obtain ⟨j, h1, h2, h3, h4, h5⟩ := atI_get he
  obtain ⟨w, ew, rw'⟩ := r.get h2
  have hl := r.length
  have hn := line63
  have fin : EP X pins σ Q w s := ⟨z, H, I, rw', q⟩
  by_cases h0 : 0 ≤ i
  · have hj : i.toNat = j := by
      rw [seqIndex_of h0 h5] at h1
      exact Option.some.inj h1
    exact item_listR pl.isList h0 (by omega) (by rw [hj]; simpa using ew) fin hs
  · have hj : (i + (its.toArray.size : Int)).toNat = j := by
      rw [seqIndex_neg (by omega) h4] at h1
      rw [List.size_toArray, ← hl]
      exact Option.some.inj h1
    exact subscriptTail_builtinR (x := w) pl.isList.typeIs slot_list_getitem.lookup
      (wpAny_getItem_list_neg (Q := fun r s' => r = w ∧ EP X pins σ Q r s') pl.isList (by omega) (by rw [List.size_toArray] <;> omega) (by omega) (by rw [hj]; simpa using ew) ⟨rfl, fin⟩) hs
theorem ix_str : IxR X rIxS := by
  intro value slice pins s σ H x y v u Q I rx ry h hs
  obtain ⟨z, i, c, rfl, rfl, hz, he, q⟩ := h
  obtain ⟨t, rfl⟩ := rx
  obtain ⟨t', rfl⟩ := ry
  obtain ⟨j, h1, h2, h3, h4, h5⟩ := atI_get he
  have hl : z.cps.toList.length = z.length := by simp [Str.length]
  rw [hl] at h1 h4 h5
  have hn := line63
  exact tail_any (typeIs_str s z t) slot_str_getitem.lookup (getItem_str (c := c) (by
    have e1 : decide (i < -(2 ^ 63 : Int)) = false := decide_eq_false (by omega)
    have e2 : decide (i ≥ 2 ^ 63) = false := decide_eq_false (by omega)
    rw [e1, e2, Bool.or_false]) (by rw [h1]; simpa using h2) ⟨.str ⟨#[c]⟩, H, I.tok _, ⟨_, rfl⟩, q⟩) hs

/-! ### xs[i] = v, any sign -/
/-- the list's object behind a store -/
theorem mapSeq_set (its : List Value) (n j : Nat) (u : Value) : Obj.mapSeq (·.setIfInBounds j u) { cls := .type "list", data := .seq its.toArray n } = { cls := .type "list", data := .seq (its.set j u).toArray n } := by
  simp [Obj.mapSeq]
theorem Inv.lst {pins : List (Addr × Obj)} {σ : St} {H : Hp} {s : Shared} {p : Addr} {xs : List V} (I : Inv X pins σ H s) (h : H p = some (.lst xs)) :
    ∃ (its : List Value) (n : Nat), Vals xs its ∧ s.heap.get? p = some { cls := .type "list", data := .seq its.toArray n } ∧ xs.length ≤ sizeLine := by
  obtain ⟨z, its, n, r, e⟩ := I.hok p _ h
  exact ⟨its, n, r, e, z⟩
/-- the list at p is written by an update of its object -/
theorem Inv.lstUpd {pins : List (Addr × Obj)} {σ : St} {H : Hp} {s : Shared} {p : Addr} {xs ys : List V} {its its' : List Value} {n n' : Nat} {f : Obj → Obj} (I : Inv X pins σ H s) (h : H p = some (.lst xs))
    (ho : s.heap.get? p = some { cls := .type "list", data := .seq its.toArray n }) (hf : f { cls := .type "list", data := .seq its.toArray n } = { cls := .type "list", data := .seq its'.toArray n' }) (r : Vals ys its') (hz : ys.length ≤ sizeLine) (t : Nat) (ht : 0 < t := by first | assumption | exact Nat.succ_pos _ | (apply Inv.tk; assumption)) :
    Inv X pins σ (upd H p (.lst ys)) { s with heap := s.heap.update p f, toks := t } := by
  have e : (s.heap.update p f).get? p = some { cls := .type "list", data := .seq its'.toArray n' } := by
    rw [Heap.get?_update_self f ho (by rw [hf] <;> rfl), hf]
  refine I.write (x := p) (e := p) (by rw [h]; trivial) (.inl rfl) (fun b u hb q => (Heap.get?_update_other _ _ (Ne.symm hb)).trans q) ⟨_, e⟩ ?_
  exact ⟨hz, its', n', r, e⟩
def rSetL : V → V → V → Hp → (Hp → Prop) → Prop := fun o i v H Q => ∃ p xs k j, o = .ref p ∧ i = .int k ∧ H p = some (.lst xs) ∧ ixN xs.length k = some j ∧ Q (upd H p (.lst (xs.set j v)))
theorem set_list : PSet X rSetL := by
  intro pins s σ H o i v ov iv u Q I ro ri rv h
  obtain ⟨p, xs, k, j, rfl, rfl, hp, hj, q⟩ := h
  cases ro
  obtain ⟨t, rfl⟩ := ri
  obtain ⟨its, n, r, ho, hz⟩ := I.lst hp
  obtain ⟨h1, h2, h3, h4⟩ := ixN_seq hj
  have hl := r.length
  have hn := line63
  have I' : Inv X pins σ (upd H p (.lst (xs.set j v))) { s with heap := s.heap.update p (Obj.mapSeq (·.setIfInBounds j u)) } :=
    I.lstUpd hp ho (mapSeq_set its n j u) (r.set rv j) (by rw [List.length_set]; exact hz) s.toks
  by_cases h0 : 0 ≤ k
  · have hk : k.toNat = j := by
      rw [seqIndex_of h0 h4] at h1
      exact Option.some.inj h1
    exact PySem.W.ki_setAt ho h0 (by omega) (by rw [List.size_toArray, ← hl]; exact h4) (by rw [hk]; exact ⟨_, I', q⟩)
  · have hk : (k + (its.toArray.size : Int)).toNat = j := by
      rw [seqIndex_neg (by omega) h3] at h1
      rw [List.size_toArray, ← hl]
      exact Option.some.inj h1
    exact PySem.W.ki_setBack ho (by omega) (by rw [List.size_toArray, ← hl]; exact h3) (by omega) (by rw [hk]; exact ⟨_, I', q⟩)

/-! ### slices -/
theorem slice_bounds (lo hi : Option Int) (n : Nat) : (sliceBounds lo hi none n).1 = ((HT.sIx n 0 lo : Nat) : Int) ∧ (sliceBounds lo hi none n).2.1 = ((HT.sIx n n hi : Nat) : Int) ∧ (sliceBounds lo hi none n).2.2 = 1 := by
  refine ⟨?_, ?_, rfl⟩
  · cases lo with
    | none => simp [sliceBounds, HT.sIx]
    | some i =>
      simp only [sliceBounds, HT.sIx, Option.getD_none, show (1 : Int) > 0 by decide, if_true]
      by_cases h : i < 0
      · simp only [h, if_true] <;> omega
      · simp only [h, if_false] <;> omega
  · cases hi with
    | none => simp [sliceBounds, HT.sIx]
    | some i =>
      simp only [sliceBounds, HT.sIx, Option.getD_none, show (1 : Int) > 0 by decide, if_true]
      by_cases h : i < 0
      · simp only [h, if_true] <;> omega
      · simp only [h, if_false] <;> omega
theorem slicePick_cut (its : List Value) (lo hi : Option Int) : slicePick its.toArray lo hi none = ((its.drop (HT.sIx its.length 0 lo)).take (HT.sIx its.length its.length hi - HT.sIx its.length 0 lo)).toArray := by
  obtain ⟨h1, h2, h3⟩ := slice_bounds lo hi its.toArray.size
  unfold slicePick
  rw [h1, h2, h3]
  simp only [sliceRange_one, pick_run, List.size_toArray] <;> rfl
/-- xs[lo:hi] of a list: a new list -/
def rSlL (K : PySem.W.Frag) : V → Option Int → Option Int → Hp → VK → Prop := fun x lo hi H Q => ∃ a xs, x = .ref a ∧ SqL K H a xs ∧ ∀ p, H p = none → Q (.ref p) (upd H p (.lst (cutV xs lo hi)))
theorem sl_list : SlR X (rSlL X.K) := by
  intro pins s σ H x v vl vu lo hi sl Q I rx hs pl pu h
  obtain ⟨a, xs, rfl, hx, q⟩ := h
  cases rx
  obtain ⟨its, r, ht, hz⟩ := I.list hx
  have hlen := r.length
  refine ⟨"list", _, slot_list_getitem.lookup, ht.isList.typeIs, ?_⟩
  refine wpAny_getItem_list_slice ht.isList hs pl pu .none (by simp) ?_ (by rw [List.size_toArray] <;> omega)
  rw [slicePick_cut, ← hlen]
  refine ⟨.ref s.heap.objs.size, _, I.laid (t' := s.toks) (o := .lst (cutV xs lo hi)) (fun b ob q => Heap.get?_push_of_some _ q) (Nat.le_refl _) ?_, rfl, q _ (I.hok.fresh (Nat.le_refl _))⟩
  exact ⟨Nat.le_trans (cutV_length xs lo hi) hz, _, 0, (r.drop (HT.sIx xs.length 0 lo)).take (HT.sIx xs.length xs.length hi - HT.sIx xs.length 0 lo), Heap.get?_push_size _ rfl⟩

/-! ### in, not in: flat items -/

/-! ### len, list(x), tuple(x) of any list or tuple that is read -/
theorem call_len_seq : CallR X (.builtin "len") (fun xs H Q => ∃ p ys, xs = [.ref p] ∧ (SqL X.K H p ys ∨ SqT X.K H p ys) ∧ Q (.int ys.length) H) := by
  intro pins s σ H xs us Q I r h
  obtain ⟨p, ys, rfl, hq, q⟩ := h
  obtain ⟨u, rfl, rx⟩ := vals1 r
  cases rx
  have hn := line63
  rcases hq with hq | hq
  · obtain ⟨its, r', pl, hz⟩ := I.list hq
    have hlen := r'.length
    exact Calls.call_len_list pl.isList (by simp only [List.size_toArray] <;> omega) ⟨.int ys.length, H, I.tok _, ⟨s.toks + 1, by rw [List.size_toArray, hlen]⟩, q⟩
  · obtain ⟨its, r', pl, hz⟩ := I.tuple hq
    have hlen := r'.length
    exact len_tuple pl (by simp only [List.size_toArray] <;> omega) ⟨.int ys.length, H, I.tok _, ⟨s.toks + 1, by rw [List.size_toArray, hlen]⟩, q⟩
theorem call_len_str : CallR X (.builtin "len") (fun xs H Q => ∃ z, xs = [.str z] ∧ z.length ≤ sizeLine ∧ Q (.int z.length) H) := by
  intro pins s σ H xs us Q I r h
  obtain ⟨z, rfl, hz, q⟩ := h
  obtain ⟨u, rfl, t, rfl⟩ := vals1 r
  have hn := line63
  exact len_str (by omega) ⟨.int z.length, H, I.tok _, ⟨_, rfl⟩, q⟩
theorem call_list_of : CallR X (.type "list") (fun xs H Q => ∃ p ys, xs = [.ref p] ∧ (SqL X.K H p ys ∨ SqT X.K H p ys) ∧ ∀ l, H l = none → Q (.ref l) (upd H l (.lst ys))) := by
  intro pins s σ H xs us Q I r h
  obtain ⟨p, ys, rfl, hq, q⟩ := h
  obtain ⟨u, rfl, rx⟩ := vals1 r
  cases rx
  have fin : ∀ (its : List Value), Vals ys its → ys.length ≤ sizeLine → ∀ (h' : Heap) (c' : Nat), (∀ b o', s.heap.get? b = some o' → h'.get? b = some o') →
      h'.get? s.heap.objs.size = some { cls := .type "list", dict := none, data := .seq its.toArray c', slots := #[] } → EP X pins σ Q (.ref s.heap.objs.size) { s with heap := h' } := fun its r' hz h' c' kp e =>
    ⟨.ref s.heap.objs.size, _, I.laid (t' := s.toks) kp (Nat.le_refl _) (show ObjOk X.prog X.w _ h' _ (.lst ys) from ⟨hz, its, c', r', e⟩), rfl, q _ (I.hok.fresh (Nat.le_refl _))⟩
  rcases hq with hq | hq
  · obtain ⟨its, r', pl, hz⟩ := I.list hq
    have hlen := r'.length
    obtain ⟨o, ho, hc, n, hd⟩ := pl.isList
    exact call_list_seq p (.inl rfl) ho hc hd (fun h' c' kp e => fin its r' hz h' c' kp e) (by simp only [List.size_toArray] <;> omega)
  · obtain ⟨its, r', pl, hz⟩ := I.tuple hq
    have hlen := r'.length
    obtain ⟨o, ho, hc, n, hd⟩ := pl
    exact call_list_seq p (.inr rfl) ho hc hd (fun h' c' kp e => fin its r' hz h' c' kp e) (by simp only [List.size_toArray] <;> omega)

/-! ### the call of a builtin's method: o.m(..) -/
/-- the value is of that builtin type -/
def tyV (K : PySem.W.Frag) (T : String) (x : V) (H : Hp) : Prop := match x with
  | .str _ => T = "str"
  | .int _ => T = "int"
  | .ref p => (T = "list" ∧ ∃ xs, SqL K H p xs) ∨ (T = "tuple" ∧ ∃ o, K.lookup p = some o ∧ o.cls = .type "tuple" ∧ o.dict = none) ∨
      (T = "dict" ∧ ((∃ kvs, H p = some (.dK kvs)) ∨ ∃ kvs, H p = some (.dT kvs))) ∨ (T = "set" ∧ ∃ S n, H p = some (.set S n))
  | _ => False
theorem tyV_is {pins : List (Addr × Obj)} {σ : St} {H : Hp} {s : Shared} {T : String} {x : V} {v : Value} (I : Inv X pins σ H s) (r : RelV x v) (ty : tyV X.K T x H) :
    s.TypeIs v T ∧ ∀ a, v = .ref a → ∃ ob, s.heap.get? a = some ob ∧ ob.dict = none := by
  cases x with
  | str z =>
    obtain ⟨t, rfl⟩ := r
    cases (show T = "str" from ty)
    exact ⟨typeIs_str s z t, fun _ e => nomatch e⟩
  | int i =>
    obtain ⟨t, rfl⟩ := r
    cases (show T = "int" from ty)
    exact ⟨typeIs_int s i t, fun _ e => nomatch e⟩
  | ref p =>
    cases r
    rcases ty with ⟨rfl, xs, hq⟩ | ⟨rfl, o, hk, hc, hd⟩ | ⟨rfl, hk⟩ | ⟨rfl, S, n, hk⟩
    · obtain ⟨its, _, pl, _⟩ := I.list hq
      refine ⟨pl.isList.typeIs, fun a e => ?_⟩
      cases e
      obtain ⟨o, n, e, c, hd, _⟩ := pl
      exact ⟨o, e, hd⟩
    · refine ⟨⟨o, I.kIn p o hk, hc⟩, fun a e => ?_⟩
      cases e
      exact ⟨o, I.kIn _ o hk, hd⟩
    · have z : ∃ o, s.heap.get? p = some o ∧ o.ExactDict := by
        rcases hk with ⟨kvs, hk⟩ | ⟨kvs, hk⟩
        · obtain ⟨_, _, _, _, o, _, _, e, ex, _⟩ := I.hok p _ hk
          exact ⟨o, e, ex⟩
        · obtain ⟨_, _, _, _, o, _, _, e, ex, _⟩ := I.hok p _ hk
          exact ⟨o, e, ex⟩
      obtain ⟨o, e, ex⟩ := z
      refine ⟨⟨o, e, ex.1⟩, fun a e2 => ?_⟩
      cases e2
      exact ⟨o, e, ex.2.1⟩
    · obtain ⟨o, _, _, _, e, ex, _⟩ := I.hok p _ hk
      refine ⟨⟨o, e, ex.1⟩, fun a e2 => ?_⟩
      cases e2
      exact ⟨o, e, ex.2.1⟩
  | _ => exact False.elim ty
def tBM (K : PySem.W.Frag) (T : String) (r : V → List V → Hp → VK → Prop) (to : TE) (t : TA) : TE := fun σ H Q => to σ H fun x H1 => tyV K T x H1 ∧ t σ H1 fun xs H2 => r x xs H2 Q
variable {o e : Expr} {es : List Expr} {to : TE} {t : TA} {name : Str} {apos cpos : Pos} {T id : String} {r : V → List V → Hp → VK → Prop}
theorem pe_bm (pa : PlainAttrs T) (slot : Slot T name id) (hty : typeOf (.builtin id) = pure (.type "method_descriptor")) (hm : MtR X id r) (ho : PE X o to) (ha : PA X (e :: es) t)
    (hbase : attributeBase o name X.env (eval o X.env) = eval o X.env := by rfl)
    (hfew : ((backTo cpos (starEach (e :: es) X.env)).all (fun x => !x.1) && (backToKw cpos (keywordEach [] X.env)).all (fun x => x.1.isSome)
      && decide ((e :: es).length + ([] : List Keyword).length + (if ([] : List Keyword).isEmpty then 0 else 1) < 30)) = true := by rfl)
    (hline : (apos.endLine == cpos.line) = true := by rfl) (hs : starEach (e :: es) X.env = (false, eval e X.env) :: starEach es X.env := by rfl) (hplain : (backTo cpos (starEach es X.env)).any (·.1) = false := by rfl) :
    PE X (.Call (.Attribute o name apos) (e :: es) [] cpos) (tBM X.K T r to t) := by
  intro pins s σ H Q I h
  refine wpAny_Call_method_late hbase hfew hline rfl (thn (ho pins s σ H _ I h) fun v s1 ⟨x, H1, I1, r1, ty, q1⟩ => ?_)
  obtain ⟨h1, h2⟩ := tyV_is I1 r1 ty
  refine ⟨T, id, pa, slot, hty, h1, h2, ?_⟩
  have hA := ha cpos pins s1 σ H1 _ I1 q1
  rw [hs] at hA ⊢
  refine Calls.callWith_builtin (by show (false || (backTo cpos (starEach es X.env)).any (·.1)) = false; rw [hplain] <;> rfl) (Calls.evalArgs_plain ?_)
  exact thn hA fun us s2 ⟨vs, H2, I2, r2, q2⟩ => hm pins s2 σ H2 x vs v us Q I2 r1 r2 q2
/- xs.append(e), list.index on a module's tuple .. are MtR facts of 06m -/
end
end L2

namespace L2
open PySem PySem.Spec PyProof.Rows

def MtM (X : Cx) (id : String) (r : V → List V → Hp → VK → Prop) : Prop :=
  ∀ (pins : List (Addr × Obj)) (s : Shared) (σ : St) (H : Hp) (x : V) (xs : List V) (v : Value) (us : List Value) (Q : VK), Inv X pins σ H s → RelV x v → Vals xs us → r x xs H Q →
    wpAny (model X.prog X.w) X.A (call (.builtin id) (v :: us)) (EP X pins σ Q) X.xe s

/-! ### lists of values -/
theorem Vals.one : ∀ {x : V} {us : List Value}, Vals [x] us → ∃ u, us = [u] ∧ RelV x u
  | _, _, .cons r .nil => ⟨_, rfl, r⟩
theorem Vals.two : ∀ {x y : V} {us : List Value}, Vals [x, y] us → ∃ u v, us = [u, v] ∧ RelV x u ∧ RelV y v
  | _, _, _, .cons r (.cons q .nil) => ⟨_, _, rfl, r, q⟩
theorem Vals.eraseIdx : ∀ {xs : List V} {us : List Value} (i : Nat), Vals xs us → Vals (xs.eraseIdx i) (us.eraseIdx i)
  | _, _, _, .nil => .nil
  | _, _, 0, .cons _ t => t
  | _, _, i + 1, .cons r t => .cons r (Vals.eraseIdx i t)
theorem len_erase {α : Type} : ∀ (l : List α) (i : Nat), (l.eraseIdx i).length ≤ l.length
  | [], _ => Nat.le_refl _
  | _ :: _, 0 => Nat.le_succ _
  | _ :: r, i + 1 => Nat.succ_le_succ (len_erase r i)

section
variable {X : Cx} {pins : List (Addr × Obj)} {σ : St} {H : Hp} {s : Shared} {l b : Addr} {xs ys zs : List V}

/-! ### the two steps: a tracked list is rewritten, a new list is laid -/
theorem Inv.lset {its its' : List Value} {n : Nat} {f : Array Value → Array Value} {t' : Nat} (I : Inv X pins σ H s) (hH : H l = some (.lst xs))
    (e : s.heap.get? l = some { cls := .type "list", data := .seq its.toArray n }) (hf : f its.toArray = its'.toArray) (hv : Vals ys its') (hz : ys.length ≤ sizeLine) (ht : 0 < t' := by first | assumption | exact Nat.succ_pos _ | (apply Inv.tk; assumption)) :
    Inv X pins σ (upd H l (.lst ys)) { s with heap := s.heap.update l (Obj.mapSeq f), toks := t' } := by
  have q := PySem.IsL.update e f
  rw [hf] at q
  refine I.write (x := l) (e := l) (by rw [hH]; exact trivial) (.inl rfl) (fun b' u hb hu => (Heap.get?_update_other s.heap (Obj.mapSeq f) (Ne.symm hb)).trans hu) ⟨_, q⟩ ?_
  exact ⟨hz, its', _, hv, q⟩
theorem Inv.lnew {its : List Value} {t' : Nat} (I : Inv X pins σ H s) (hv : Vals ys its) (hz : ys.length ≤ sizeLine) (ht : 0 < t' := by first | assumption | exact Nat.succ_pos _ | (apply Inv.tk; assumption)) :
    Inv X pins σ (upd H s.heap.objs.size (.lst ys)) { s with heap := s.heap.push { cls := .type "list", data := .seq its.toArray }, toks := t' } :=
  I.laid (fun _ _ q => Heap.get?_push_of_some _ q) (Nat.le_refl _) ⟨hz, its, 0, hv, Heap.get?_push_size _ rfl⟩
theorem Inv.fresh (I : Inv X pins σ H s) : H s.heap.objs.size = none := I.hok.fresh (Nat.le_refl _)
theorem Inv.lstM (I : Inv X pins σ H s) (hH : H l = some (.lst xs)) : xs.length ≤ sizeLine ∧ ∃ (its : List Value) (n : Nat), Vals xs its ∧ xs.length = its.length ∧ s.heap.get? l = some { cls := .type "list", data := .seq its.toArray n } := by
  obtain ⟨z, its, n, r, e⟩ := I.hok l _ hH
  exact ⟨z, its, n, r, r.length, e⟩

end

section
variable {X : Cx}

/-! ### methods -/
def rAppend : V → List V → Hp → VK → Prop := fun x vs H Q => ∃ l xs y, x = .ref l ∧ vs = [y] ∧ H l = some (.lst xs) ∧ xs.length < sizeLine ∧ Q .non (upd H l (.lst (xs ++ [y])))
theorem mt_append : MtM X "list.append" rAppend := by
  intro pins s σ H x vs v us Q I rx rv h
  obtain ⟨l, xs, y, rfl, rfl, hH, hz, q⟩ := h
  cases rx
  obtain ⟨u, rfl, ru⟩ := rv.one
  obtain ⟨z, its, n, r, hl, e⟩ := I.lstM hH
  refine call_meets F.slot_list_append ⟨_, e, rfl⟩ F.entry_list_append (F.args_list_append_2 _ _) (PySem.list_append l its.toArray n u (by rw [List.size_toArray]; omega)) ⟨e, ?_⟩
  refine ⟨.non, _, I.lset (its' := its ++ [u]) hH e (by simp) (r.append (.cons ru .nil)) ?_, rfl, q⟩
  rw [List.length_append, List.length_singleton]
  omega



def rPopAt : V → List V → Hp → VK → Prop := fun x vs H Q => ∃ l xs i k y, x = .ref l ∧ vs = [.int i] ∧ H l = some (.lst xs) ∧ -(2 ^ 63) ≤ i ∧ i < 2 ^ 63 ∧ seqIndex? i xs.length = some k ∧ xs[k]? = some y ∧ Q y (upd H l (.lst (xs.eraseIdx k)))
theorem mt_popAt : MtM X "list.pop" rPopAt := by
  intro pins s σ H x vs v us Q I rx rv h
  obtain ⟨l, xs, i, k, y, rfl, rfl, hH, h1, h2, hk, hy, q⟩ := h
  cases rx
  obtain ⟨u, rfl, ru⟩ := rv.one
  obtain ⟨t, rfl⟩ := ru
  obtain ⟨z, its, n, r, hl, e⟩ := I.lstM hH
  obtain ⟨w, hw, rw'⟩ := r.get hy
  refine call_meets F.slot_list_pop ⟨_, e, rfl⟩ F.entry_list_pop (F.args_list_pop_2 _ _)
    (MeetsSeq.list_pop_at l its.toArray n i t k w (fitsIndex_both h1 h2) (by rw [List.size_toArray, ← hl]; exact hk) (by rw [← Array.getElem?_toList]; exact hw) (by rw [List.size_toArray]; omega)) ⟨e, ?_⟩
  refine ⟨y, _, I.lset (its' := its.eraseIdx k) hH e ?_ (r.eraseIdx k) ?_, rw', q⟩
  · show its.toArray.eraseIdxIfInBounds k = (its.eraseIdx k).toArray
    rw [List.eraseIdxIfInBounds_toArray]
  · have := len_erase xs k
    omega



/-! ### list + list, list += list, list * int -/
def rCat : R2 := fun x y H Q => ∃ l b xs zs, x = .ref l ∧ y = .ref b ∧ H l = some (.lst xs) ∧ H b = some (.lst zs) ∧ xs.length + zs.length ≤ sizeLine ∧ ∀ p, H p = none → Q (.ref p) (upd H p (.lst (xs ++ zs)))
theorem op_cat : OpR X (binaryOp .Add) rCat := by
  intro pins s σ H x y v u Q I rx ry h
  obtain ⟨l, b, xs, zs, rfl, rfl, hH, hB, hz, q⟩ := h
  cases rx
  cases ry
  obtain ⟨z, its, n, r, hl, e⟩ := I.lstM hH
  obtain ⟨z2, its2, n2, r2, hl2, e2⟩ := I.lstM hB
  refine PySem.P.add_list e e2 ?_ (by rw [List.size_toArray, List.size_toArray]; omega)
  have ea : its.toArray ++ its2.toArray = (its ++ its2).toArray := by simp
  rw [ea]
  exact ⟨.ref _, _, I.lnew (t' := s.toks) (r.append r2) (by rw [List.length_append]; omega), rfl, q _ I.fresh⟩

/-! ### del xs[i] -/
end

/-! ### xs[a:b] = ys -/
section
variable {prog : Program} {w : World} {A : Around} {E : Value → Shared → Prop} {s : Shared}
set_option maxRecDepth 100000 in
end

section
variable {X : Cx}
end
end L2

namespace Att
open PySem PySem.W PySem.Calls PyProof.Rows

/-! ### the script -/



/-! ### the attachment: holds_open's last premise (the goal 'hc' behind k_head) from a wpAny of the law's body -/



/-! ### rules over ANY heap (no ledger) from facts about the written part K: the library's own take a ledger (News) for what they write -/
section
variable {prog : Program} {w : World} {A : Around} {E : Value → Shared → Prop} {s : Shared} {K : Frag}





/-! the whole heap as the ledger: makes every rule that writes through a ledger a rule over any heap -/

end
end Att

namespace L2
open PySem PySem.Spec PyProof.Rows

theorem vals_ints : ∀ {vs : List Value} {ns : List Int}, IntsAre vs ns → Vals (ns.map V.int) vs
  | _, _, .nil => .nil
  | _, _, .cons n t h => .cons ⟨t, rfl⟩ (vals_ints h)


end L2

namespace L2
open PySem PySem.Spec PyProof.Rows

abbrev KOf {K : PySem.W.Frag} {h : Heap} (_ : K.In h) : PySem.W.Frag := K

end L2



/-! SHORT WORDS over the layer: a def of the text, its body, what a loop and a test want. -/
namespace L2
open PySem PySem.Spec PyProof.Rows

/-! ### the text by places -/
def defArgs (s : Stmt) : Arguments := match s with
  | .FunctionDef _ a _ _ _ _ _ _ _ _ => a
  | _ => { posonlyargs := [], args := [], vararg := none, kwonlyargs := [], kw_defaults := [], kwarg := none, defaults := [] }
def defBody (s : Stmt) : List Stmt := match s with
  | .FunctionDef _ _ b _ _ _ _ _ _ _ => b
  | _ => []
def defScope (s : Stmt) : Scope := match s with
  | .FunctionDef _ _ _ _ _ _ sc _ _ _ => sc
  | _ => { kind := .function, names := [], isGenerator := false, isCoroutine := false }

/-! ### no exception leaves a def -/
abbrev CX0 : CXT := fun _ _ _ _ _ _ => False
abbrev E0 : XK := fun _ _ _ => False
theorem pass0 {X : Cx} : Passes CX0 X E0 := fun _ _ _ _ _ _ _ h => h.elim

/-! ### a def (or method) of the text as it stands behind the top -/
structure Fun (K : PySem.W.Frag) (x qual : Str) (st : Stmt) (f : Addr) (fd : FuncData) : Prop where
  ex : ∃ (oc : Value) (od : Option Addr) (kV doc pm : Value) (an : Option Addr) (cdv ct : Value) (osl : Array (Option Value)),
    fd = PySem.W.fnOf x qual (defArgs st) (defBody st) (defScope st) .none kV doc pm an cdv ct ∧ K.lookup f = some ⟨oc, od, .func fd, osl⟩ ∧ PySem.W.codeIn K cdv qual = true
  kp : PySem.W.keepIn K (.ref f) = true
section
variable {P : Program} {w : World} {K : PySem.W.Frag} {mg : Str → Option Value} {base : Heap}
/-- THE RULE for a def: its body as a term of rules, and the reading of that term -/
theorem Fun.ok {x qual : Str} {st : Stmt} {f : Addr} {fd : FuncData} {N ps : List Str} {k : Nat} {sp : Sp} (F : Fun K x qual st f fd) (S : FnScope N ps (defScope st)) (len : ∀ vs H Q E, sp vs H Q E → vs.length = ps.length)
    (hbody : ∀ (cdv : Value) (A : Around) (outer : List Env) (s : Shared) (H : Hp) (vs : List V) (Q : VK) (E : XK), Room k (A.deeper (envOfC qual (defScope st) s.heap.objs.size f cdv)) → sp vs H Q E →
      ∃ t, PSs (cxOf CX0 P w K mg base N qual (defScope st) f cdv A outer s H E).nox (defBody st) t ∧ t { nx := fun _ H' => Q .non H', rt := Q } (start N vs) H) : FnOk P w K mg base CX0 (k + 1) f fd ps sp := by
  obtain ⟨oc, od, kV, doc, pm, an, cdv, ct, osl, rfl, lk, hcd⟩ := F.ex
  refine fn_of lk hcd S len fun A outer s H vs Q E hr hsp => ?_
  obtain ⟨t, h, q⟩ := hbody cdv A outer s H vs Q E hr hsp
  exact ⟨t, h.nox, q⟩
/-- how its arguments bind (no defaults): h is «fun _ _ _ _ _ _ us hl => match us, hl with | [_, _], _ => rfl», one _ a parameter -/
theorem Fun.binds {x qual : Str} {st : Stmt} {f : Addr} {fd : FuncData} {ps : List Str} (F : Fun K x qual st f fd)
    (h : ∀ (kV doc pm : Value) (an : Option Addr) (cdv ct : Value) (us : List Value), us.length = ps.length → bindArgs (PySem.W.fnOf x qual (defArgs st) (defBody st) (defScope st) .none kV doc pm an cdv ct) ⟨us, []⟩ = pure (ps.zip us)) : Binds K fd ps [] := by
  obtain ⟨oc, od, kV, doc, pm, an, cdv, ct, osl, rfl, lk, hcd⟩ := F.ex
  exact .all (h kV doc pm an cdv ct)
theorem fun_mk {x qual : Str} {st : Stmt} {f : Addr} {oc : Value} {od an : Option Addr} {osl : Array (Option Value)} {kV doc pm cdv ct : Value} (l : K.lookup f = some ⟨oc, od, .func (PySem.W.fnOf x qual (defArgs st) (defBody st) (defScope st) .none kV doc pm an cdv ct), osl⟩)
    (c : PySem.W.codeIn K cdv qual = true) (k : PySem.W.keepIn K (.ref f) = true) : Fun K x qual st f (PySem.W.fnOf x qual (defArgs st) (defBody st) (defScope st) .none kV doc pm an cdv ct) := ⟨⟨oc, od, kV, doc, pm, an, cdv, ct, osl, rfl, l, c⟩, k⟩
end

/-! ### expressions in short: the name that stands in the i-th slot -/
section
variable {X : Cx}
theorem pv (i : Nat) {x : Str} {pos : Pos} (hN : X.N[i]? = some x := by rfl) (hv : Vis X.env.scope x := by first | exact Or.inl rfl | exact Or.inr (Or.inl rfl) | exact Or.inr (Or.inr rfl)) (hd : (x == ("__debug__" : Str)) = false := by decide)
    (hcd : (x == ("__classdict__" : Str)) = false := by decide) : PE X (.Name x pos) (tVar i) := pe_var hN hv hd hcd
end

/-! ### tests -/
theorem ite2 {c A B : Prop} [Decidable c] (h1 : c → A) (h2 : ¬ c → B) : if c then A else B := by
  by_cases h : c
  · rw [if_pos h]
    exact h1 h
  · rw [if_neg h]
    exact h2 h

/-! ### heaps -/
/-- all that was tracked is as it was -/
def Same (H H' : Hp) : Prop := ∀ b o, H b = some o → H' b = some o
theorem Same.refl (H : Hp) : Same H H := fun _ _ h => h
theorem Same.trans {H H1 H2 : Hp} (a : Same H H1) (b : Same H1 H2) : Same H H2 := fun c o h => b c o (a c o h)
theorem Same.seq {K : PySem.W.Frag} {H H' : Hp} {a : Addr} {xs : List V} (e : Same H H') (h : SqL K H a xs) : SqL K H' a xs := by
  rcases h with (h | ⟨o, h⟩) | h
  · exact .inl (.inl (e _ _ h))
  · exact .inl (.inr ⟨o, e _ _ h⟩)
  · exact .inr h

end L2

set_option Elab.async false
set_option linter.all false
set_option maxRecDepth 100000
/-! A list comprehension of one clause, no exception leaving it. -/
namespace L2
open PySem PySem.Spec PyProof.Rows

def CellsIn (env : Env) : List (Str × Addr) → Prop
  | [] => True
  | p :: r => env.cells.lookup p.1 = some p.2 ∧ CellsIn env r
theorem CellsIn.look {env : Env} : ∀ {cl : List (Str × Addr)}, CellsIn env cl → ∀ x c, cl.lookup x = some c → env.cells.lookup x = some c
  | [], _, x, c, e => by simp at e
  | p :: r, h, x, c, e => by
    obtain ⟨n, a⟩ := p
    rw [List.lookup_cons] at e
    cases q : x == n with
    | true =>
      rw [q] at e
      have q' : x = n := eq_of_beq q
      subst q'
      cases e
      exact h.1
    | false =>
      rw [q] at e
      exact h.2.look x c e

/-- the comprehension's own context -/
abbrev compX (X : Cx) (scope : Scope) (cl : List (Str × Addr)) (C : Addr) (N' : List Str) (fp : List Addr) (s : Shared) (H : Hp) : Cx :=
  { X with N := N', s₀ := s, H₀ := H, env := compEnvC scope cl C X.env, outer := X.stack, ex := fp, fn := fun _ => false, pn := [], xe := fun _ _ => False }
/-- its slots: own names, none yet; then those of the outer frame that it reads -/
def nfS (k : Nat) (fr : List Nat) (σ : St) : St := List.replicate k none ++ fr.map fun j => (σ[j]?).join
/-- what is asked of the block's names: own: its targets; fr: the outer slots of the names that it reads -/
structure CompN (X : Cx) (scope : Scope) (cl : List (Str × Addr)) (own : List Str) (fr : List Nat) (N' : List Str) : Prop where
  kind : scope.kind = .function
  cells : CellsIn X.env cl
  has : ∀ x, ((relabel scope X.env).names.lookup x = some .cell ∨ (relabel scope X.env).names.lookup x = some .free) → ∃ c, cl.lookup x = some c
  nd : N'.Nodup
  len : N'.length = own.length + fr.length
  free : ∀ (i : Nat) (j : Nat), fr[i]? = some j → ∃ x, X.N[j]? = some x ∧ N'[own.length + i]? = some x ∧ (X.env.kindOf x = some .cell ∨ X.env.kindOf x = some .free) ∧
    ((relabel scope X.env).names.lookup x = some .cell ∨ (relabel scope X.env).names.lookup x = some .free)

section
variable {X : Cx} {pins : List (Addr × Obj)} {σ : St} {H : Hp} {s s4 : Shared} {scope : Scope} {cl : List (Str × Addr)} {own : List Str} {fr : List Nat} {N' : List Str} {fp : List Addr} {C : Addr} {H4 : Hp}
theorem comp_ok (I : Inv X pins σ H s) (Z : CompN X scope cl own fr N') (hC : s.heap.objs.size ≤ C) (hf : ∀ b ∈ fp, FpOk X pins H b) (ho : ∀ b ∈ fp, ∃ o, s.heap.get? b = some o ∧ ∀ v, o.data ≠ .cell v) : (compX X scope cl C N' fp s H).Ok where
  mod := I.ok.mod
  kind := Z.kind
  glob := I.ok.glob
  blt := I.ok.blt
  above := hC
  inj := fun x y c h1 h2 => I.ok.inj x y c (Z.cells.look x c h1) (Z.cells.look y c h2)
  has := fun x h => Z.has x h
  cab := fun x c h _ => Bool.noConfusion h
  hd := I.ok.hd
  frames := I.ok.frames
  stk := .inl rfl
  exf := fun b hb => by
    obtain ⟨o, e, _⟩ := ho b hb
    refine ⟨Nat.ne_of_lt (Nat.lt_of_lt_of_le (Heap.lt_size e) hC), fun x c h => ?_⟩
    exact (hf b hb).2.2.2.2.1 x c (Z.cells.look x c h)
  bs := I.bs
  bsz := Nat.le_trans I.ok.bsz I.sz
  noex := fun b o e hb => by
    rcases (hf b hb).2.2.2.1 with z | z
    · exact I.ok.noex b o e z
    · exact absurd (Nat.lt_of_lt_of_le (Heap.lt_size e) (Nat.le_trans I.ok.bsz z)) (Nat.lt_irrefl _)
  exfs := fun b hb z => by
    rcases List.mem_cons.mp (I.stkSub b z) with e | e
    · exact (hf b hb).2.1 e
    · exact (hf b hb).2.2.1 e
  funs := I.stack
  frf := I.stkFree

theorem comp_inv (I : Inv X pins σ H s) (Z : CompN X scope cl own fr N') (hC : s.heap.objs.size ≤ C) (hf : ∀ b ∈ fp, FpOk X pins H b) (ho : ∀ b ∈ fp, ∃ o, s.heap.get? b = some o ∧ ∀ v, o.data ≠ .cell v)
    (os : s4.os = s.os) (bare : AllBare s4.gens) (un : Un (frs X.stack) fp H H4 s.heap s4.heap) (ns : ∃ m, s4.heap.Ns C m) (kc : ∀ x c v, X.env.cells.lookup x = some c → s.heap.IsCell c v → s4.heap.IsCell c v)
    (fr4 : H4 C = none) (hok : HOk X.prog X.w H4 s4.heap) (tk : 0 < s4.toks) : Inv (compX X scope cl C N' fp s H) [] (nfS own.length fr σ) H4 s4 where
  ok := comp_ok I Z hC hf ho
  os := os
  bare := bare
  base := un
  loc := by
    obtain ⟨m, hm⟩ := ns
    refine ⟨m, hm, fun i x v h1 h2 h3 => ?_⟩
    unfold nfS at h2
    by_cases hi : i < own.length
    · rw [List.getElem?_append_left (by simpa using hi), List.getElem?_replicate, if_pos hi] at h2
      cases h2
    · rw [List.getElem?_append_right (by simpa using hi), List.length_replicate, List.getElem?_map] at h2
      cases q : fr[i - own.length]? with
      | none => rw [q] at h2; cases h2
      | some j =>
        rw [q] at h2
        have h2' : (σ[j]?).join = some v := Option.some.inj h2
        obtain ⟨y, e1, e2, e3, e4⟩ := Z.free _ j q
        have ei : own.length + (i - own.length) = i := by omega
        rw [ei] at e2
        have h1' : N'[i]? = some x := h1
        rw [e2] at h1'
        cases h1'
        have hs : σ[j]? = some (some v) := by
          cases r : σ[j]? with
          | none => rw [r] at h2'; cases h2'
          | some w => rw [r] at h2'; cases w with
            | none => cases h2'
            | some w => cases h2'; rfl
        obtain ⟨m0, _, hl⟩ := I.loc
        have vis : Vis X.env.scope x := e3.elim (fun z => .inr (.inl z)) fun z => .inr (.inr z)
        obtain ⟨u, ru, lk⟩ := hl j x v e1 hs vis
        refine ⟨u, ru, ?_⟩
        rcases lk with ⟨k, _⟩ | ⟨_, c, ec, hc⟩
        · rcases e3 with z | z <;> (rw [k] at z; cases z)
        · obtain ⟨c', ec'⟩ := Z.has x e4
          have := Z.cells.look x c' ec'
          rw [ec] at this
          cases this
          exact .inr ⟨e4, c, ec', kc x c _ ec hc⟩
  cell := fun x c e => by
    have e' := Z.cells.look x c e
    obtain ⟨v, hv⟩ := I.cell x c e'
    exact ⟨v, kc x c v e' hv⟩
  free := fr4
  freeC := fun x c e => by
    have e' := Z.cells.look x c e
    obtain ⟨v, o, hv, _⟩ := I.cell x c e'
    refine un.free c o hv (I.freeC x c e') fun hb => ?_
    exact (hf c hb).2.2.2.2.1 x c e' rfl
  pin := fun p hp => absurd (show p ∈ ([] : List (Addr × Obj)) from hp) (by simp)
  hok := hok
  len := by
    show (nfS own.length fr σ).length = N'.length
    unfold nfS
    rw [List.length_append, List.length_replicate, List.length_map, Z.len]
  tk := tk

/-- behind the block: the outer invariant again -/
theorem comp_out {σ' : St} (I : Inv X pins σ H s) (hf : ∀ b ∈ fp, FpOk X pins H b) {pins' : List (Addr × Obj)} (J : Inv (compX X scope cl C N' fp s H) pins' σ' H4 s4) : Inv X pins σ H4 s4 :=
  I.call' J.os J.base J.hok J.bare (fun b hb => ⟨(hf b hb).2.2.2.1, (hf b hb).2.1, (hf b hb).2.2.2.2.1, (hf b hb).2.2.2.2.2⟩) J.tk
theorem comp_gone {C : Addr} {h' : Heap} (I0 : Inv X pins σ H s) (hC : s.heap.objs.size ≤ C) {σ' : St} (I : Inv X pins σ' H4 s4) (fr4 : H4 C = none) (hs : Heap.SameBut C s4.heap h') : Inv X pins σ' H4 { s4 with heap := h' } := by
  refine I.turned (t' := s4.toks) (it := C) (fun b o hb e => (hs.2 b hb).trans e) fr4 ?_ (.inr (Nat.le_trans I0.sz hC)) ?_ ?_
  · exact Nat.ne_of_gt (Nat.lt_of_lt_of_le I0.lt hC)
  · intro x c e z
    obtain ⟨v, q⟩ := I0.cell x c e
    exact absurd (Nat.lt_of_lt_of_le q.lt (by rw [z]; exact hC)) (Nat.lt_irrefl _)
  · intro p hp z
    exact absurd (Nat.lt_of_lt_of_le (Heap.lt_size (I0.pin p hp).1) (by rw [z]; exact hC)) (Nat.lt_irrefl _)
end

/-! ### the loop of the block -/
/-- the tests of the clause -/
def PTs (X : Cx) (ifs : List Expr) (t : TT) : Prop :=
  ∀ (pins : List (Addr × Obj)) (s : Shared) (σ : St) (H : Hp) (Q : Bool → Hp → Prop), Inv X pins σ H s → t σ H Q →
    wpAny (model X.prog X.w) X.A (forIn ifs true fun c r => if r = true then do let ok ← isTrue c X.env (eval c X.env); pure (ForInStep.yield ok) else pure (ForInStep.yield r)) (TP X pins σ Q) X.xe s
def tYes : TT := fun _ H Q => Q true H
theorem pts_nil {X : Cx} : PTs X [] tYes := fun _ _ _ H _ I h => wpAny_tests_nil ⟨H, I, h⟩
theorem pts_one {X : Cx} {c : Expr} {t : TT} (h : PT X c t) : PTs X [c] t := fun pins s σ H Q I q => wpAny_tests_one (h pins s σ H Q I q)

section
variable {prog : Program} {w : World} {A : Around} {R : Result → Shared → Prop} {s : Shared}
theorem compLoop_any {elt target iter : Expr} {ifs : List Expr} {scope : Scope} {pos : Pos} {it acc : Value} {env : Env} (I : Nat → Shared → Prop)
    (turn : ∀ n s, I n s → wpAny (model prog w) A (pyNext it) (fun r s₁ => match r with
      | none => R (.ok .next) s₁
      | some v => wpAny (model prog w) A (letOwnedTupleGo target it v) (fun _ s₂ => wpAny (model prog w) A (assign target env v) (fun _ s₂ =>
          wpAny (model prog w) A (forIn ifs true fun c r => if r = true then do let ok ← isTrue c env (eval c env); pure (ForInStep.yield ok) else pure (ForInStep.yield r)) (fun ok s₃ =>
            if ok = true then wpAny (model prog w) A (eval elt env) (fun x s₄ =>
              wpAny (model prog w) A (call (.builtin "list.append") [acc, x]) (fun _ s₅ => ∃ m, m < n ∧ I m s₅) (fun _ _ => False) s₄) (fun _ _ => False) s₃
            else ∃ m, m < n ∧ I m s₃) (fun _ _ => False) s₂) (fun _ _ => False) s₂) (fun _ _ => False) s₁) (fun _ _ => False) s)
    (n : Nat) (h : I n s) :
    codeAny (model prog w) A (.compLoop (.ListComp elt [⟨target, iter, ifs, 0⟩] scope pos) 0 it acc env) R s := by
  have no : ∀ {E : Value → Shared → Prop} (e : Value) (s' : Shared), (fun _ _ => False : Value → Shared → Prop) e s' → E e s' := fun _ _ z => False.elim z
  refine codeAny_loop rfl I (fun n s hI => ?_) n h
  show wpAny _ A ((compTurn (.ListComp elt [⟨target, iter, ifs, 0⟩] scope pos) 0 it acc env).onRaise (fun x => do noteFrame x env; theTreesLotGoes x)) _ _ s
  refine wpAny_noted ?_
  rw [compTurn_list]
  refine wpAny_bind (wpAny_standAt (wpAny_bind (wpAny_mono (turn n s hI) (fun r s₁ h₁ => ?_) no)))
  cases r with
  | none => exact wpAny_pure h₁
  | some v =>
    refine wpAny_bind (wpAny_mono h₁ (fun _ s₂ h₂ => ?_) no)
    refine wpAny_bind (wpAny_mono h₂ (fun _ s₂ h₂ => wpAny_bind (wpAny_mono h₂ (fun ok s₃ h₃ => ?_) no)) no)
    cases ok with
    | false => exact wpAny_pure ⟨rfl, h₃⟩
    | true =>
      exact wpAny_bind (wpAny_bind (wpAny_mono h₃ (fun x s₄ h₄ => wpAny_bind (wpAny_mono h₄ (fun _ s₅ h₅ => wpAny_pure (wpAny_pure ⟨rfl, h₅⟩)) no)) no))
end

/-- the frame's slots behind a turn still hold what the block reads -/
def nfLe (k : Nat) (fr : List Nat) (σ σ2 : St) : Prop := σ2.length = (nfS k fr σ).length ∧ ∀ (i : Nat) (v : V), (nfS k fr σ)[i]? = some (some v) → σ2[i]? = some (some v)
theorem nfLe.refl (k : Nat) (fr : List Nat) (σ : St) : nfLe k fr σ (nfS k fr σ) := ⟨rfl, fun _ _ h => h⟩
theorem nfLe.set {k : Nat} {fr : List Nat} {σ σ2 : St} {i : Nat} (h : nfLe k fr σ σ2) (hi : i < k) (x : Option V) : nfLe k fr σ (σ2.set i x) := by
  refine ⟨by rw [List.length_set]; exact h.1, fun j v e => ?_⟩
  by_cases hj : i = j
  · subst hj
    unfold nfS at e
    rw [List.getElem?_append_left (by simpa using hi), List.getElem?_replicate, if_pos hi] at e
    cases e
  · rw [List.getElem?_set_ne hj]
    exact h.2 j v e
/-- the reading of [elt for target in iter if ..] -/
def rLC (k : Nat) (fr : List Nat) (g : TG) (tt : TT) (te : TE) (σ : St) (J : It) (H1 : Hp) (Q : Addr → Hp → Prop) : Prop :=
  ∀ D, H1 D = none → ∃ W : Nat → Nat → List V → Hp → Prop, (∃ m, W 0 m [] (upd H1 D (.lst []))) ∧ ∀ i m acc H, W i m acc H → H D = some (.lst acc) ∧
    ((J.stop i H ∧ Q D H) ∨ (J.go i H ∧ ∀ x H', J.yld i H x H' → g x (nfS k fr σ) H' fun σ2 H2 => nfLe k fr σ σ2 ∧ tt σ2 H2 fun b H3 =>
      if b = true then te σ2 H3 fun y H4 => H4 D = some (.lst acc) ∧ acc.length < sizeLine ∧ ∃ m', m' < m ∧ W (i + 1) m' (acc ++ [y]) (upd H4 D (.lst (acc ++ [y])))
      else ∃ m', m' < m ∧ W (i + 1) m' acc H3))
def tLC (wi : TI) (k : Nat) (fr : List Nat) (g : TG) (tt : TT) (te : TE) : TE := fun σ H Q => wi σ H fun J H1 => rLC k fr g tt te σ J H1 fun D H' => Q (.ref D) H'

section
variable {X : Cx} {scope : Scope} {cl : List (Str × Addr)} {own : List Str} {fr : List Nat} {N' : List Str} {tg iter elt : Expr} {ifs : List Expr} {wi : TI} {g : TG} {tt : TT} {te : TE} {pos : Pos}

/-- the block from its iterator on: RR is what is wanted behind it -/
theorem comp_block {pins : List (Addr × Obj)} {σ : St} {H : Hp} {s : Shared} {it : Addr} {fp : List Addr} {tn : Nat → Heap → Prop} {J : It} {Q : Addr → Hp → Prop} {RR : Value → Addr → Result → Shared → Prop} {E : Value → Shared → Prop}
    (hc : X.calm = true) (Z : CompN X scope cl own fr N') (hcell : ∀ y ∈ scope.names, y.2 ≠ .cell)
    (hg : ∀ C fp s H, PG (compX X scope cl C N' fp s H) tg g) (ht : ∀ C fp s H, PTs (compX X scope cl C N' fp s H) ifs tt) (he : ∀ C fp s H, PE (compX X scope cl C N' fp s H) elt te)
    (I : Inv X pins σ H s) (T : Turn X.prog X.w X.K tg J fp it tn) (st : tn 0 s.heap) (hf : ∀ b ∈ fp, FpOk X pins H b) (q : rLC own.length fr g tt te σ J H Q)
    (hRR : ∀ D C s' H' , s.heap.objs.size ≤ C → (∃ m, s'.heap.Ns C m) → H' C = none → Inv X pins σ H' s' → Q D H' → RR (.ref D) C (.ok .next) s') :
    wpAny (model X.prog X.w) X.A (newList []) (fun acc s₃ => wpAny (model X.prog X.w) X.A (newFunctionEnv scope X.env.globals cl [] X.env.qual none .none (some X.env)) (fun cenv s₄ =>
      codeAny (model X.prog X.w) X.A (.compStart (.ListComp elt [⟨tg, iter, ifs, 0⟩] scope pos) 0 (.ref it) acc { cenv with scope := relabel scope X.env }) (RR acc cenv.locals) s₄) E s₃) E s := by
  refine wpAny_newObj_type (wpAny_newFunctionEnv hcell (by intro y hy; simp at hy) (fun h₁ hns₁ hsb₁ => ?_) Z.kind)
  dsimp only at hns₁ hsb₁ ⊢
  generalize hH2 : s.heap.push { cls := .type "list", dict := none, data := .seq ([] : List Value).toArray } = H2 at hns₁ hsb₁ ⊢
  have hC : H2.objs.size = s.heap.objs.size + 1 := by rw [← hH2, Heap.size_push]
  have hCle : s.heap.objs.size ≤ H2.objs.size := by rw [hC]; exact Nat.le_succ _
  have hDC : s.heap.objs.size ≠ H2.objs.size := by rw [hC]; exact Nat.ne_of_lt (Nat.lt_succ_self _)
  have old : ∀ b o, s.heap.get? b = some o → h₁.get? b = some o := fun b o e =>
    hsb₁.extBut b o (Nat.ne_of_lt (Nat.lt_of_lt_of_le (Heap.lt_size e) hCle)) (Heap.get?_push_of_some _ (hH2 ▸ Heap.get?_push_of_some _ e))
  have hD : h₁.get? s.heap.objs.size = some { cls := .type "list", dict := none, data := .seq ([] : List Value).toArray } :=
    hsb₁.extBut _ _ hDC (Heap.get?_push_of_some _ (hH2 ▸ Heap.get?_push_size _ rfl))
  have ho := T.obj _ _ st
  have frD : H s.heap.objs.size = none := I.hok.fresh (Nat.le_refl _)
  have frC : H H2.objs.size = none := I.hok.fresh hCle
  obtain ⟨W, ⟨m0, w0⟩, turn⟩ := q s.heap.objs.size frD
  have hok1 : HOk X.prog X.w (upd H s.heap.objs.size (.lst [])) h₁ := I.hok.laid old (Nat.le_refl _) ⟨Nat.zero_le _, [], 0, .nil, hD⟩
  have un1 : Un (frs X.stack) fp H (upd H s.heap.objs.size (.lst [])) s.heap h₁ := Un.laid old (Nat.le_refl _) frD
  have C1 : upd H s.heap.objs.size (.lst []) H2.objs.size = none := by rw [upd_ne (Ne.symm hDC)]; exact frC
  have fpD : ∀ b ∈ fp, b ≠ s.heap.objs.size := fun b hb z => by
    obtain ⟨o, e, _⟩ := ho b hb
    exact absurd (Heap.lt_size e) (by rw [z]; exact Nat.lt_irrefl _)
  have J0 : ∀ t, 0 < t → Inv (compX X scope cl H2.objs.size N' fp s H) [] (nfS own.length fr σ) (upd H s.heap.objs.size (.lst [])) { s with heap := h₁, toks := t } := fun t ht =>
    comp_inv I Z hCle hf ho rfl I.bare un1 ⟨_, hns₁⟩ (fun x c v e ⟨o, e1, e2⟩ => ⟨o, old c o e1, e2⟩) C1 hok1 ht
  have st1 : tn 0 h₁ := T.keep _ _ _ st fun b _ o e => old b o e
  have loop : ∀ s₃ : Shared, s₃ = { s with heap := h₁, toks := s.toks + ([] : List (Str × Value)).length } →
      codeAny (model X.prog X.w) X.A (.compLoop (.ListComp elt [⟨tg, iter, ifs, 0⟩] scope pos) 0 (.ref it) (.ref s.heap.objs.size) (compEnvC scope cl H2.objs.size X.env)) (RR (.ref s.heap.objs.size) H2.objs.size) s₃ := by
    rintro s₃ rfl
    generalize hX : compX X scope cl H2.objs.size N' fp s H = X' at J0
    have hg' : PG X' tg g := by rw [← hX]; exact hg _ _ _ _
    have ht' : PTs X' ifs tt := by rw [← hX]; exact ht _ _ _ _
    have he' : PE X' elt te := by rw [← hX]; exact he _ _ _ _
    have eP : X'.prog = X.prog := by rw [← hX]
    have eW : X'.w = X.w := by rw [← hX]
    have eK : X'.K = X.K := by rw [← hX]
    have eA : X'.A = X.A := by rw [← hX]
    have eE : X'.env = compEnvC scope cl H2.objs.size X.env := by rw [← hX]
    have eX : X'.xe = fun _ _ => False := by rw [← hX]
    have eC : X'.calm = true := by rw [← hX]; exact hc
    have fpX : ∀ {H' : Hp}, (∀ b ∈ fp, H' b = none) → ∀ b ∈ fp, FpOk X' [] H' b := fun hn b hb => by
      rw [← hX]
      have ok := comp_ok I Z hCle hf ho
      refine ⟨hn b hb, (ok.exf b hb).1, ok.exfs b hb, .inl hb, (ok.exf b hb).2, fun p hp => absurd (show p ∈ ([] : List (Addr × Obj)) from hp) (by simp)⟩
    refine compLoop_any (fun n s' => ∃ i acc H', Inv X' [] (nfS own.length fr σ) H' s' ∧ tn i s'.heap ∧ (∀ b ∈ fp, H' b = none) ∧ W i n acc H') ?_ m0 ⟨0, [], _, J0 _ (by have := I.tk; omega), st1, fun b hb => by rw [upd_ne (fpD b hb)]; exact (hf b hb).1, w0⟩
    rintro n s3 ⟨i, acc, H3, I3, st3, fr3, w3⟩
    obtain ⟨hDa, turn3⟩ := turn i n acc H3 w3
    rcases turn3 with ⟨stop, qn⟩ | ⟨go, step⟩
    · have := T.done X' eP eW eK eC i [] s3 _ H3 (fun _ _ => False) I3 (fpX fr3) st3 stop
      rw [eA] at this
      refine thn this fun r s4 ⟨hr, I4⟩ => ?_
      subst hr
      show RR _ _ _ _
      have I4' : Inv (compX X scope cl H2.objs.size N' fp s H) [] (nfS own.length fr σ) H3 s4 := by rw [hX]; exact I4
      obtain ⟨m, hm, _⟩ := I4'.loc
      exact hRR _ _ s4 H3 hCle ⟨m, hm⟩ I4'.free (comp_out I hf I4') qn
    · have := T.item X' eP eW eK eC i [] s3 _ H3 (fun _ _ => False) I3 (fpX fr3) st3 go
      rw [eA] at this
      refine thn this fun r s4 ⟨u, hr, h4⟩ => ?_
      subst hr
      show wpAny _ _ (letOwnedTupleGo tg (.ref it) u) _ _ s4
      refine thn h4 fun _ s5 ⟨x, H5, I5, r5, y5, st5, fr5⟩ => ?_
      have I5' := I5.pinned (fpX fr5) (T.obj _ _ st5)
      have back : ∀ {σ7 : St} {H7 : Hp} {s7 : Shared}, Inv X' ([] ++ pinsAt fp s5.heap) σ7 H7 s7 → tn (i + 1) s7.heap ∧ ∀ b ∈ fp, H7 b = none := fun {σ7 H7 s7} I7 => by
        refine ⟨T.keep _ _ _ st5 fun b hb o e => (I7.pin (b, o) (List.mem_append_right _ (List.mem_append_right _ (mem_pinsAt hb e)))).1, fun b hb => ?_⟩
        obtain ⟨o, e, d⟩ := T.obj _ _ st5 b hb
        exact (I7.pin (b, o) (List.mem_append_right _ (List.mem_append_right _ (mem_pinsAt hb e)))).2.1
      have g5 := hg' _ s5 _ H5 x u _ I5' r5 (step x H5 y5)
      rw [eP, eW, eA, eE, eX] at g5
      refine thn g5 fun _ s6 ⟨σ6, H6, I6, nf6, q6⟩ => ?_
      have t6 := ht' _ s6 σ6 H6 _ I6 q6
      rw [eP, eW, eA, eE, eX] at t6
      refine thn t6 fun ok s7 ⟨H7, I7, q7⟩ => ?_
      have again : ∀ {H8 : Hp} {s8 : Shared} {acc8 : List V}, Inv X' ([] ++ pinsAt fp s5.heap) σ6 H8 s8 → (∃ m', m' < n ∧ W (i + 1) m' acc8 H8) →
          ∃ m, m < n ∧ ∃ i acc H', Inv X' [] (nfS own.length fr σ) H' s8 ∧ tn i s8.heap ∧ (∀ b ∈ fp, H' b = none) ∧ W i m acc H' := fun {H8 s8 acc8} I8 ⟨m', hm, w8⟩ =>
        ⟨m', hm, i + 1, acc8, H8, I8.unpinned.weak nf6.1.symm nf6.2, (back I8).1, (back I8).2, w8⟩
      cases ok with
      | false =>
        have q7' : ∃ m', m' < n ∧ W (i + 1) m' acc H7 := by rw [if_neg Bool.false_ne_true] at q7; exact q7
        show if false = true then _ else _
        rw [if_neg Bool.false_ne_true]
        exact again I7 q7'
      | true =>
        rw [if_pos rfl] at q7
        show if true = true then _ else _
        rw [if_pos rfl]
        have e7 := he' _ s7 σ6 H7 _ I7 q7
        rw [eP, eW, eA, eE, eX] at e7
        refine thn e7 fun yv s8 ⟨y, H8, I8, r8, hD8, hz8, m', hm, w8⟩ => ?_
        have a8 := mt_append _ s8 σ6 H8 (.ref s.heap.objs.size) [y] (.ref s.heap.objs.size) [yv] (fun _ H9 => H9 = upd H8 s.heap.objs.size (.lst (acc ++ [y]))) I8 rfl (.cons r8 .nil) ⟨_, acc, y, rfl, rfl, hD8, hz8, rfl⟩
        rw [eP, eW, eA, eX] at a8
        refine thn a8 fun _ s9 ⟨_, H9, I9, _, e9⟩ => ?_
        subst e9
        exact again I9 ⟨m', hm, w8⟩
  exact codeAny_compStart_list (loop _ rfl) (T.self _ 0 _ _ _ st1 (loop _ rfl))

theorem pe_lc (hc : X.calm = true) (Z : CompN X scope cl own fr N') (hcell : ∀ y ∈ scope.names, y.2 ≠ .cell) (hnames : ∀ x ∈ scope.names, x.2 = .local → scope.names.lookup x.1 = some .local) (hclos : closureFor scope X.env = pure cl)
    (hi : PI X tg iter wi) (hg : ∀ C fp s H, PG (compX X scope cl C N' fp s H) tg g) (ht : ∀ C fp s H, PTs (compX X scope cl C N' fp s H) ifs tt) (he : ∀ C fp s H, PE (compX X scope cl C N' fp s H) elt te)
    (hs : ∀ x, foldedSetIterable iter X.env x = pure x := by intro _; rfl) : PE X (.ListComp elt [⟨tg, iter, ifs, 0⟩] scope pos) (tLC wi own.length fr g tt te) := by
  intro pins s σ H Q I h
  rw [eval_ListComp]
  refine wpAny_comprehension_free (use := none) rfl hs hclos Z.kind hnames (thn (hi pins s σ H _ I h) fun v s1 h1 => thn h1 fun itv s2 h2 => ?_)
  obtain ⟨it, fp, tn, J, H2, e, I2, T, st2, f2, q2⟩ := h2
  subst e
  refine comp_block hc Z hcell hg ht he I2 T st2 f2 q2 (RR := fun acc C => compPost (model X.prog X.w) X.A X.xe none (EP X pins σ Q) acc C) fun D C s' H' hC ⟨m, hm⟩ fC I' q' => ?_
  exact ⟨m, hm, fun h' hs' => ⟨.ref D, H', comp_gone I2 hC I' fC hs', rfl, q'⟩⟩
end
end L2

set_option Elab.async false
set_option linter.all false
set_option maxRecDepth 100000
/-! Rules for texts over the layer. -/
namespace L2
open PySem PySem.Spec PyProof.Rows
open Builtin Builtin.Str

section
variable {X : Cx}

theorem vals_str : ∀ {ys : List Str} {us : List Value}, Vals (ys.map V.str) us → ∃ l : List (Str × Tok), us = strValues l ∧ l.map (·.1) = ys
  | [], us, r => by
    rw [List.map_nil] at r
    cases r
    exact ⟨[], rfl, rfl⟩
  | y :: ys, us, r => by
    rw [List.map_cons] at r
    cases r with
    | cons r1 r2 =>
      obtain ⟨t, e⟩ := r1
      obtain ⟨l, e1, e2⟩ := vals_str r2
      subst e
      subst e1
      exact ⟨(y, t) :: l, rfl, by rw [List.map_cons, e2]⟩

/-! ### split -/

/-! ### join -/
def rJoin (K : PySem.W.Frag) : V → List V → Hp → VK → Prop := fun x vs H Q => ∃ z a ys, x = .str z ∧ vs = [.ref a] ∧ SqL K H a (ys.map V.str) ∧ (ys.map (·.length)).sum + ys.length * z.length ≤ sizeLine ∧ Q (.str (Txt.join z ys)) H
theorem join_fold (z : Str) : ∀ (ys : List Str) (n : Nat), ys.foldl (fun (n : Nat) (s : Str) => n + s.length + z.length) n = n + ((ys.map (·.length)).sum + ys.length * z.length)
  | [], n => by simp
  | y :: ys, n => by
    rw [List.foldl_cons, join_fold z ys, List.map_cons, List.sum_cons, List.length_cons, Nat.succ_mul]
    omega
theorem mt_join : MtR X "str.join" (rJoin X.K) := by
  intro pins s σ H x vs v us Q I rx rv h
  obtain ⟨z, a, ys, rfl, rfl, hq, hz, q⟩ := h
  obtain ⟨t, rfl⟩ := rx
  obtain ⟨u, rfl, ru⟩ := rv.one
  cases ru
  obtain ⟨its, r, pl, hn⟩ := I.list hq
  obtain ⟨l, rfl, e⟩ := vals_str r
  refine wpAny_with_toks (n := 1) I.tk (SC.join (texts := ys) pl.isList e ?_ fun t' k htk => ⟨.str (Txt.join z ys), H, I.tok _ htk, ⟨_, rfl⟩, q⟩)
  unfold JoinOk tooLong
  rw [← Array.foldl_toList, List.toList_toArray, join_fold, Nat.zero_add]
  simpa using hz

/-! ### strip, startswith, find, lower -/

/-! ### replace, both arguments written texts -/

/-! ### text * number -/
theorem op_mul_str : OpR X (binaryOp .Mult) (fun x y H Q => ∃ z n, x = .str z ∧ y = .int n ∧ z.length = 1 ∧ 0 ≤ n ∧ n ≤ 1000 ∧ Q (.str (Txt.mul z n)) H) := by
  intro pins s σ H x y v u Q I rx ry h
  obtain ⟨z, n, rfl, rfl, hz, h0, h1, q⟩ := h
  obtain ⟨t, rfl⟩ := rx
  obtain ⟨t', rfl⟩ := ry
  refine wpAny_with_toks (n := 1) I.tk (SB.mul ?_ fun t' k htk => ⟨.str (Txt.mul z n), H, I.tok _ htk, ⟨_, rfl⟩, q⟩)
  have hs : sizeLine = 16777216 := sizeLine_eq
  refine ⟨?_, fun _ _ => ?_, fun _ _ => ?_⟩
  · have e1 : decide (n < -(2 ^ 63 : Int)) = false := decide_eq_false (by omega)
    have e2 : decide (n ≥ 2 ^ 63) = false := decide_eq_false (by omega)
    rw [e1, e2]; rfl
  · rw [hz]
    have hn : n = 0 ∨ 0 < n := by omega
    intro q
    have h9 : (2 ^ 63 - 1 : Int) / n ≥ 1 := by
      rename_i a _
      have hp : 0 < n := by omega
      exact (Int.le_ediv_iff_mul_le hp).mpr (by omega)
    omega
  · unfold tooLong
    rw [hz]
    exact decide_eq_false (by omega)

/-! ### slices of a text -/
def rSlS : V → Option Int → Option Int → Hp → VK → Prop := fun x lo hi H Q => ∃ z, x = .str z ∧ z.length ≤ sizeLine ∧ Q (.str (Txt.slice z lo hi)) H
theorem sl_str : SlR X rSlS := by
  intro pins s σ H x v vl vu lo hi sl Q I rx hs pl pu h
  obtain ⟨z, rfl, hz, q⟩ := h
  obtain ⟨t, rfl⟩ := rx
  refine ⟨"str", _, F.slot_str_getitem.lookup, typeIs_str _ _ _, ?_⟩
  have fin : ∀ (l u : Option (Int × Tok)), l.map (·.1) = lo → u.map (·.1) = hi → (sliceMade z t l u none).post (EP X pins σ Q) s := by
    intro l u el eu
    subst el eu
    unfold sliceMade
    unfold Txt.slice at q
    have e : slicePicked z l u none = strSliceIndices (l.map (·.1)) (u.map (·.1)) 1 z.length := rfl
    rw [e]
    show (if ((1 : Int) == 1 && (strSliceIndices (l.map (·.1)) (u.map (·.1)) 1 z.length).length == z.length) = true then Made.val (.str z t) else Made.str ⟨((strSliceIndices (l.map (·.1)) (u.map (·.1)) 1 z.length).filterMap (z.cps[·]?)).toArray⟩).post (EP X pins σ Q) s
    by_cases c : (((1 : Int) == 1 && (strSliceIndices (l.map (·.1)) (u.map (·.1)) 1 z.length).length == z.length)) = true
    · rw [if_pos c]
      rw [if_pos c] at q
      exact ⟨.str z, H, I, ⟨_, rfl⟩, q⟩
    · rw [if_neg c]
      rw [if_neg c] at q
      have hl := Txt.slice_le z (l.map (·.1)) (u.map (·.1))
      unfold Txt.slice at hl
      rw [if_neg c] at hl
      exact ⟨Nat.le_trans hl hz, .str _, H, I.tok _, ⟨_, rfl⟩, q⟩
  have go : ∀ (l u : Option (Int × Tok)), vl = partValue l → vu = partValue u → l.map (·.1) = lo → u.map (·.1) = hi → wpAny (model X.prog X.w) X.A (getItem (.str z t) (.ref sl)) (EP X pins σ Q) X.xe s := by
    intro l u e1 e2 e3 e4
    subst e1 e2
    exact wpAny_getItem_str_slice (l := l) (u := u) (st := none) hs rfl (fin l u e3 e4)
  cases pl with
  | none => cases pu with
    | none => exact go none none rfl rfl rfl rfl
    | int j tj => exact go none (some (j, tj)) rfl rfl rfl rfl
  | int i ti => cases pu with
    | none => exact go (some (i, ti)) none rfl rfl rfl rfl
    | int j tj => exact go (some (i, ti)) (some (j, tj)) rfl rfl rfl rfl

/-! ### a text walked sign by sign -/

/-! ### all of a list of truths -/
end

/-! ### values as data -/
mutual
inductive Den (K : PySem.W.Frag) (H : Hp) : V → PyData → Prop where
  | non : Den K H .non .none
  | bl (b : Bool) : Den K H (.bl b) (.bool b)
  | int (i : Int) : Den K H (.int i) (.int i)
  | str (x : Str) (h : PyData.strOk x = true) : Den K H (.str x) (.str x)
  | lst {a : Addr} {xs : List V} {ds : List PyData} : SqL K H a xs → DenAll K H xs ds → Den K H (.ref a) (.list ds)
  | tup {a : Addr} {xs : List V} {ds : List PyData} : SqT K H a xs → DenAll K H xs ds → Den K H (.ref a) (.tuple ds)
inductive DenAll (K : PySem.W.Frag) (H : Hp) : List V → List PyData → Prop where
  | nil : DenAll K H [] []
  | cons {x : V} {xs : List V} {d : PyData} {ds : List PyData} : Den K H x d → DenAll K H xs ds → DenAll K H (x :: xs) (d :: ds)
end

section
variable {X : Cx} {pins : List (Addr × Obj)} {σ : St} {H : Hp} {s : Shared}
mutual
theorem Den.reads (I : Inv X pins σ H s) : ∀ {x : V} {d : PyData} {u : Value}, Den X.K H x d → RelV x u → ∃ as, Reads s.heap u d as
  | _, _, _, .non, r => by cases r; exact ⟨_, .none⟩
  | _, _, _, .bl b, r => by cases r; exact ⟨_, .bool b⟩
  | _, _, _, .int i, r => by obtain ⟨t, rfl⟩ := r; exact ⟨_, .int i t⟩
  | _, _, _, .str x _, r => by obtain ⟨t, rfl⟩ := r; exact ⟨_, .str x t⟩
  | _, _, _, .lst hq hd, r => by
    cases r
    obtain ⟨its, rv, ⟨o, n, e, c, _, d⟩, _⟩ := I.list hq
    obtain ⟨as, ra⟩ := DenAll.reads I hd rv
    exact ⟨_, .list e c d (by simpa using ra)⟩
  | _, _, _, .tup hq hd, r => by
    cases r
    obtain ⟨its, rv, ⟨o, e, c, n, d⟩, _⟩ := I.tuple hq
    obtain ⟨as, ra⟩ := DenAll.reads I hd rv
    exact ⟨_, .tuple e c d (by simpa using ra)⟩
theorem DenAll.reads (I : Inv X pins σ H s) : ∀ {xs : List V} {ds : List PyData} {us : List Value}, DenAll X.K H xs ds → Vals xs us → ∃ as, ReadsAll s.heap us ds as
  | _, _, _, .nil, r => by cases r; exact ⟨_, .nil⟩
  | _, _, _, .cons h hs, r => by
    cases r with
    | cons r1 r2 =>
      obtain ⟨as, a⟩ := Den.reads I h r1
      obtain ⟨bs, b⟩ := DenAll.reads I hs r2
      exact ⟨_, .cons a b⟩
end
end
mutual
theorem eqv_refl : ∀ d : PyData, d.canLay0 = true → PyData.eqv d d = true
  | .none, _ => rfl
  | .bool b, _ => by simp [PyData.eqv]
  | .int i, _ => by simp [PyData.eqv]
  | .str x, _ => by simp [PyData.eqv]
  | .list xs, h => by simp only [PyData.eqv]; exact eqvAll_refl xs (by simpa [PyData.canLay0] using h)
  | .tuple xs, h => by simp only [PyData.eqv]; exact eqvAll_refl xs (by simpa [PyData.canLay0] using h)
  | .dict _, h => by simp [PyData.canLay0] at h
theorem eqvAll_refl : ∀ ds : List PyData, PyData.canLayAll0 ds = true → PyData.eqvAll ds ds = true
  | [], _ => rfl
  | d :: ds, h => by
    simp only [PyData.canLayAll0, Bool.and_eq_true] at h
    simp only [PyData.eqvAll, Bool.and_eq_true]
    exact ⟨eqv_refl d h.1, eqvAll_refl ds h.2⟩
end
mutual
theorem Den.lay {K : PySem.W.Frag} {H : Hp} : ∀ {x : V} {d : PyData}, Den K H x d → d.canLay0 = true
  | _, _, .non => rfl
  | _, _, .bl _ => rfl
  | _, _, .int _ => rfl
  | _, _, .str _ h => h
  | _, _, .lst _ h => by simp only [PyData.canLay0]; exact h.lay
  | _, _, .tup _ h => by simp only [PyData.canLay0]; exact h.lay
theorem DenAll.lay {K : PySem.W.Frag} {H : Hp} : ∀ {xs : List V} {ds : List PyData}, DenAll K H xs ds → PyData.canLayAll0 ds = true
  | _, _, .nil => rfl
  | _, _, .cons h hs => by simp only [PyData.canLayAll0, Bool.and_eq_true]; exact ⟨h.lay, hs.lay⟩
end
section
variable {X : Cx}
/-- two things of one datum -/
def rEqD (K : PySem.W.Frag) (k : Bool) : R2 := fun x y H Q => ∃ d, Den K H x d ∧ Den K H y d ∧ d.depth ≤ 6 ∧ Q (.bl k) H
theorem op_eqD (hu : X.A.units + 64 < cLine) : OpR X (compareOp .Eq) (rEqD X.K true) := by
  intro pins s σ H x y v u Q I rx ry h
  obtain ⟨d, dx, dy, hd, q⟩ := h
  obtain ⟨as, ra⟩ := dx.reads I rx
  obtain ⟨bs, rb⟩ := dy.reads I ry
  have hs : SeqAt.shaped d = true := by
    unfold SeqAt.shaped
    rw [dx.lay, Bool.true_and]
    exact decide_eq_true (Nat.le_trans hd (by decide))
  refine eq_dataH ra rb hs hs hu ?_
  rw [eqv_refl d dx.lay]
  exact ⟨.bl true, H, I, rfl, q⟩
theorem op_neD (hu : X.A.units + 64 < cLine) : OpR X (compareOp .NotEq) (rEqD X.K false) := by
  intro pins s σ H x y v u Q I rx ry h
  obtain ⟨d, dx, dy, hd, q⟩ := h
  obtain ⟨as, ra⟩ := dx.reads I rx
  obtain ⟨bs, rb⟩ := dy.reads I ry
  have hs : SeqAt.shaped d = true := by
    unfold SeqAt.shaped
    rw [dx.lay, Bool.true_and]
    exact decide_eq_true (Nat.le_trans hd (by decide))
  refine ne_dataH ra rb hs hs hu ?_
  rw [eqv_refl d dx.lay]
  exact ⟨.bl false, H, I, rfl, q⟩
end

/-! ### comprehensions over lists and numbers, nothing changed by them -/
theorem same_new {H : Hp} {p : Addr} (h : H p = none) (o : HO) : Same H (upd H p o) := fun b u q => by rw [upd_ne (ne_of_none q h)]; exact q
/-- what stood ahead of the list that grows -/
theorem same_grow {H H' : Hp} {D : Addr} {o : HO} (hD : H D = none) (e : Same H H') : Same H (upd H' D o) := fun b u q => by
  rw [upd_ne (ne_of_none q hD)]
  exact e b u q
theorem lc_seq {J : It} {xs : List V} {k : Nat} {fr : List Nat} {g : TG} {tt : TT} {te : TE} {σ : St} {H0 : Hp} {Q : Addr → Hp → Prop} (p : V → Bool) (f : V → V) (hl : xs.length ≤ sizeLine)
    (hgo : ∀ i H, Same H0 H → i < xs.length → J.go i H) (hyl : ∀ i H x H', i < xs.length → Same H0 H → J.yld i H x H' → H' = H ∧ xs[i]? = some x) (hst : ∀ i H, Same H0 H → xs.length ≤ i → J.stop i H)
    (ht : ∀ x ∈ xs, ∀ H', Same H0 H' → ∀ (C : V → Hp → Prop) (N : Hp → Prop), (∀ H4, Same H' H4 → p x = true → C (f x) H4) → (∀ H3, Same H' H3 → p x = false → N H3) →
      g x (nfS k fr σ) H' fun σ2 H2 => nfLe k fr σ σ2 ∧ tt σ2 H2 fun b H3 => if b = true then te σ2 H3 C else N H3)
    (hq : ∀ D H', H0 D = none → Same H0 H' → H' D = some (.lst ((xs.filter p).map f)) → Q D H') : rLC k fr g tt te σ J H0 Q := by
  intro D hD
  refine ⟨fun i m acc H => m = xs.length - i ∧ i ≤ xs.length ∧ acc = ((xs.take i).filter p).map f ∧ H D = some (.lst acc) ∧ Same H0 H, ⟨xs.length, by simp, Nat.zero_le _, by simp, upd_same, same_new hD _⟩, ?_⟩
  rintro i m acc H ⟨rfl, hi, rfl, hDa, sm⟩
  refine ⟨hDa, ?_⟩
  by_cases hlt : i < xs.length
  · refine .inr ⟨hgo i H sm hlt, fun x H' y => ?_⟩
    obtain ⟨e, hxi⟩ := hyl i H x H' hlt sm y
    subst e
    have hmem : x ∈ xs := List.mem_of_getElem? hxi
    have htk := take_succ_filter p xs i x hxi
    refine ht x hmem H' sm _ _ (fun H4 s4 hp => ?_) (fun H3 s3 hp => ?_)
    · refine ⟨s4 _ _ hDa, ?_, xs.length - (i + 1), by omega, rfl, hlt, ?_, upd_same, ?_⟩
      · rw [List.length_map]
        have := List.length_filter_le p (xs.take i)
        rw [List.length_take] at this
        omega
      · rw [htk, hp]; simp
      · exact same_grow hD (sm.trans s4)
    · refine ⟨xs.length - (i + 1), by omega, rfl, hlt, ?_, s3 _ _ hDa, sm.trans s3⟩
      rw [htk, hp]; simp
  · have e : i = xs.length := by omega
    subst e
    rw [List.take_length] at hDa ⊢
    exact .inl ⟨hst _ H sm (Nat.le_refl _), hq D H hD sm hDa⟩
theorem lc_list {K : PySem.W.Frag} {a : Addr} {xs : List V} {k : Nat} {fr : List Nat} {g : TG} {tt : TT} {te : TE} {σ : St} {H0 : Hp} {Q : Addr → Hp → Prop} (p : V → Bool) (f : V → V) (hx : SqL K H0 a xs) (hl : xs.length ≤ sizeLine)
    (ht : ∀ x ∈ xs, ∀ H', Same H0 H' → ∀ (C : V → Hp → Prop) (N : Hp → Prop), (∀ H4, Same H' H4 → p x = true → C (f x) H4) → (∀ H3, Same H' H3 → p x = false → N H3) →
      g x (nfS k fr σ) H' fun σ2 H2 => nfLe k fr σ σ2 ∧ tt σ2 H2 fun b H3 => if b = true then te σ2 H3 C else N H3)
    (hq : ∀ D H', H0 D = none → Same H0 H' → H' D = some (.lst ((xs.filter p).map f)) → Q D H') : rLC k fr g tt te σ (Itl K a) H0 Q :=
  lc_seq p f hl (fun i H sm hi => ⟨xs, xs[i], sm.seq hx, by simp [hi]⟩) (fun i H x H' _ sm y => ⟨y.1, by obtain ⟨e, y⟩ := y; exact y xs (sm.seq hx)⟩) (fun i H sm hi => ⟨xs, sm.seq hx, hi⟩) ht hq

/-! ### the names of a block, shown by computation -/
def FreeOk (X : Cx) (scope : Scope) (N' : List Str) : Nat → List Nat → List Str → Prop
  | _, [], [] => True
  | k, j :: fr, x :: xs => X.N[j]? = some x ∧ N'[k]? = some x ∧ (X.env.kindOf x = some .cell ∨ X.env.kindOf x = some .free) ∧
      ((relabel scope X.env).names.lookup x = some .cell ∨ (relabel scope X.env).names.lookup x = some .free) ∧ FreeOk X scope N' (k + 1) fr xs
  | _, _, _ => False
theorem FreeOk.get {X : Cx} {scope : Scope} {N' : List Str} : ∀ {k : Nat} {fr : List Nat} {xs : List Str}, FreeOk X scope N' k fr xs → ∀ (i j : Nat), fr[i]? = some j → ∃ x, X.N[j]? = some x ∧ N'[k + i]? = some x ∧
    (X.env.kindOf x = some .cell ∨ X.env.kindOf x = some .free) ∧ ((relabel scope X.env).names.lookup x = some .cell ∨ (relabel scope X.env).names.lookup x = some .free)
  | _, [], [], _, i, j, e => by simp at e
  | _, [], _ :: _, h, _, _, _ => h.elim
  | _, _ :: _, [], h, _, _, _ => h.elim
  | k, j0 :: fr, x :: xs, h, i, j, e => by
    obtain ⟨h1, h2, h3, h4, h5⟩ := h
    cases i with
    | zero =>
      simp at e
      subst e
      exact ⟨x, h1, h2, h3, h4⟩
    | succ i =>
      have := h5.get i j (by simpa using e)
      have e2 : k + 1 + i = k + (i + 1) := by omega
      rw [e2] at this
      exact this
theorem compN {X : Cx} {scope : Scope} {cl : List (Str × Addr)} {own : List Str} {fr : List Nat} {xs N' : List Str} (cells : CellsIn X.env cl) (free : FreeOk X scope N' own.length fr xs)
    (nd : N'.Nodup) (all : ((relabel scope X.env).names.all fun y => y.2 == .local || y.2 == .globalImplicit || (cl.lookup y.1).isSome) = true := by rfl)
    (kind : scope.kind = .function := by rfl) (len : N'.length = own.length + fr.length := by rfl) : CompN X scope cl own fr N' := by
  refine ⟨kind, cells, fun x hx => ?_, nd, len, fun i j e => free.get i j e⟩
  have key : ∀ k, (relabel scope X.env).names.lookup x = some k → (k = .cell ∨ k = .free) → ∃ c, cl.lookup x = some c := fun k e hk => by
    have hm := PySem.mem_of_lookup e
    have := List.all_eq_true.mp all _ hm
    rcases hk with rfl | rfl
    · simp only [Bool.or_eq_true] at this
      rcases this with (z | z) | z
      · exact absurd z (by decide)
      · exact absurd z (by decide)
      · exact Option.isSome_iff_exists.mp z
    · simp only [Bool.or_eq_true] at this
      rcases this with (z | z) | z
      · exact absurd z (by decide)
      · exact absurd z (by decide)
      · exact Option.isSome_iff_exists.mp z
  rcases hx with e | e
  · exact key _ e (.inl rfl)
  · exact key _ e (.inr rfl)
end L2

namespace L2
open PySem PySem.Spec PyProof.Rows
/-- a def that keeps its promise, with all that a call of it asks -/
structure Def (P : Program) (w : World) (K : PySem.W.Frag) (mg : Str → Option Value) (base : Heap) (k : Nat) (x : Str) (ps : List Str) (sp : Sp) : Prop where
  ex : ∃ f fd, FnOk P w K mg base CX0 k f fd ps sp ∧ mg x = some (.ref f) ∧ PySem.W.keepIn K (.ref f) = true ∧ Binds K fd ps []
section
variable {X : Cx} {k : Nat} {x : Str} {ps : List Str} {sp : Sp} {e : Expr} {es : List Expr} {te : TE} {t : TA} {p pos : Pos}
theorem pe_callD (D : Def X.prog X.w X.K X.mg X.base k x ps sp) (hr : Room k X.A) (ha : PA X (e :: es) t) (hg : Gl X x := by exact rfl) (hdb : (x == ("__debug__" : Str)) = false := by decide)
    (he : starEach (e :: es) X.env = (false, eval e X.env) :: starEach es X.env := by rfl) (hpl : (backTo pos (starEach es X.env)).any (·.1) = false := by rfl) :
    PE X (.Call (.Name x p) (e :: es) [] pos) (tCall sp [] E0 t) := by
  obtain ⟨f, fd, G, hm, hk, hb⟩ := D.ex
  exact pe_call G hr hg hm hk hb .nil pass0 ha hdb he hpl

/-! ### argument lists, their stars seen by the first constructor alone -/
def isStar : Expr → Bool
  | .Starred .. => true
  | _ => false
theorem star_cons {e : Expr} {es : List Expr} {env : Env} (h : isStar e = false) : starEach (e :: es) env = (false, eval e env) :: starEach es env := by
  cases e <;> first | rfl | cases h
def noStars : List Expr → Bool
  | [] => true
  | e :: es => !isStar e && noStars es
theorem stars_any {pos : Pos} {env : Env} : ∀ {es : List Expr}, noStars es = true → (backTo pos (starEach es env)).any (·.1) = false
  | [], _ => rfl
  | e :: es, h => by
    unfold noStars at h
    rw [Bool.and_eq_true, Bool.not_eq_true'] at h
    rw [star_cons h.1]
    exact (show (false || (backTo pos (starEach es env)).any (·.1)) = false by rw [stars_any h.2]; rfl)
theorem stars_all {pos : Pos} {env : Env} : ∀ {es : List Expr}, noStars es = true → (backTo pos (starEach es env)).all (fun x => !x.1) = true
  | [], _ => rfl
  | e :: es, h => by
    unfold noStars at h
    rw [Bool.and_eq_true, Bool.not_eq_true'] at h
    rw [star_cons h.1]
    exact (show (true && (backTo pos (starEach es env)).all (fun x => !x.1)) = true by rw [stars_all h.2]; rfl)
theorem pa (ha : PE X e te) (hr : PA X es t) (h : isStar e = false := by rfl) : PA X (e :: es) (tCons te t) := pa_cons ha hr (star_cons h)
theorem few {cpos : Pos} {env : Env} {es : List Expr} (h : noStars es = true) (hl : decide (es.length + ([] : List Keyword).length + (if ([] : List Keyword).isEmpty then 0 else 1) < 30) = true) :
    ((backTo cpos (starEach es env)).all (fun x => !x.1) && (backToKw cpos (keywordEach [] env)).all (fun x => x.1.isSome)
      && decide (es.length + ([] : List Keyword).length + (if ([] : List Keyword).isEmpty then 0 else 1) < 30)) = true := by
  rw [stars_all h, hl]
  rfl
theorem pm {o e : Expr} {es : List Expr} {to : TE} {t : TA} {name : Str} {apos cpos : Pos} {T id : String} {r : V → List V → Hp → VK → Prop} (pa : PlainAttrs T) (slot : Slot T name id) (hty : typeOf (.builtin id) = pure (.type "method_descriptor")) (hm : MtR X id r) (ho : PE X o to) (ha : PA X (e :: es) t)
    (hbase : attributeBase o name X.env (eval o X.env) = eval o X.env) (hst : noStars (e :: es) = true := by rfl) (hl : decide ((e :: es).length + ([] : List Keyword).length + (if ([] : List Keyword).isEmpty then 0 else 1) < 30) = true := by rfl)
    (hline : (apos.endLine == cpos.line) = true := by rfl) : PE X (.Call (.Attribute o name apos) (e :: es) [] cpos) (tBM X.K T r to t) := by
  have h2 : noStars es = true := by
    unfold noStars at hst
    rw [Bool.and_eq_true] at hst
    exact hst.2
  have h1 : isStar e = false := by
    unfold noStars at hst
    rw [Bool.and_eq_true, Bool.not_eq_true'] at hst
    exact hst.1
  exact pe_bm pa slot hty hm ho ha hbase (few hst hl) hline (star_cons h1) (stars_any h2)
/-- the receiver is no bare call without arguments (super()) -/
def plainBase : Expr → Bool
  | .Call (.Name x _) [] [] _ => x != Str.ofString "super"
  | _ => true
theorem base_of {o : Expr} {name : Str} {env : Env} {w : Sem Value} (h : plainBase o = true) : attributeBase o name env w = w := by
  unfold attributeBase
  split
  · rename_i id _ _
    have h : (id != Str.ofString "super") = true := h
    rw [h]
    rfl
  · rfl
theorem cD {k : Nat} {x : Str} {ps : List Str} {sp : Sp} (D : Def X.prog X.w X.K X.mg X.base k x ps sp) (hr : Room k X.A) (ha : PA X (e :: es) t) (hg : Gl X x := by exact rfl) (hdb : (x == ("__debug__" : Str)) = false := by decide)
    (hst : noStars (e :: es) = true := by rfl) : PE X (.Call (.Name x p) (e :: es) [] pos) (tCall sp [] E0 t) := by
  have h2 : noStars es = true := by
    unfold noStars at hst
    rw [Bool.and_eq_true] at hst
    exact hst.2
  have h1 : isStar e = false := by
    unfold noStars at hst
    rw [Bool.and_eq_true, Bool.not_eq_true'] at hst
    exact hst.1
  exact pe_callD D hr ha hg hdb (star_cons h1) (stars_any h2)
theorem cB {id : String} {r : List V → Hp → VK → Prop} (hc : CallR X (.builtin id) r) (hg : Gl X x) (hm : X.mg x = none) (hv : bootBuiltins x = some (.builtin id)) (ha : PA X (e :: es) t) (hn : x ≠ "__name__" := by decide) (hdb : (x == ("__debug__" : Str)) = false := by decide)
    (hst : noStars (e :: es) = true := by rfl) : PE X (.Call (.Name x p) (e :: es) [] pos) (tCB r t) := by
  have h2 : noStars es = true := by
    unfold noStars at hst
    rw [Bool.and_eq_true] at hst
    exact hst.2
  have h1 : isStar e = false := by
    unfold noStars at hst
    rw [Bool.and_eq_true, Bool.not_eq_true'] at hst
    exact hst.1
  exact pe_callB hc hg hm hv ha hn hdb (star_cons h1) (stars_any h2)
/-! ### isinstance of a written type -/
def rIsT (K : PySem.W.Frag) : List V → Hp → VK → Prop := fun xs H Q => ∃ x t T b, xs = [x, .ty T] ∧ TyOf K H x t ∧ PySem.W.kitOne K t (.type T) = some b ∧ Q (.bl b) H
theorem call_isT : CallR X (.builtin "isinstance") (rIsT X.K) := by
  intro pins s σ H xs us Q I r h
  obtain ⟨x, t, T, b, rfl, ty, e, q⟩ := h
  obtain ⟨u, v, rfl, rx, rv⟩ := r.two
  cases rv
  exact wpAny_with_toks (n := 1) I.tk (isinst_ok I rx ty e fun tk htk => ⟨.bl b, H, I.tok _ htk, rfl, q⟩)
theorem kit_same (K : PySem.W.Frag) (t : Value) : PySem.W.kitOne K t t = some true := by
  unfold PySem.W.kitOne
  rw [if_pos (beq_self_eq_true t)]
end
end L2

set_option Elab.async false
set_option linter.all false
set_option maxRecDepth 100000
/-! The judgements as structures: the elaborator does not look behind them. -/
namespace L2
open PySem PySem.Spec PyProof.Rows
structure XE (X : Cx) (e : Expr) (t : TE) : Prop where
  h : PE X e t
structure XT (X : Cx) (e : Expr) (t : TT) : Prop where
  h : PT X e t
structure XW (X : Cx) (e : Expr) (t : TT) : Prop where
  h : PW X e t
structure XA (X : Cx) (e : List Expr) (t : TA) : Prop where
  h : PA X e t
structure XS (X : Cx) (st : Stmt) (t : TS) : Prop where
  h : PS X st t
structure XB (X : Cx) (st : List Stmt) (t : TS) : Prop where
  h : PSs X st t
structure XG (X : Cx) (e : Expr) (t : TG) : Prop where
  h : PG X e t
structure XGs (X : Cx) (e : List Expr) (t : TGs) : Prop where
  h : PGs X e t
structure XI (X : Cx) (tg it : Expr) (t : TI) : Prop where
  h : PI X tg it t
structure XO (X : Cx) (e : Option Expr) (t : TO) : Prop where
  h : PO X e t
structure XQ (X : Cx) (ifs : List Expr) (t : TT) : Prop where
  h : PTs X ifs t
theorem of_XB {X : Cx} {st : List Stmt} {t : TS} {D : Ends} {σ : St} {H : Hp} (h : XB X st t) (q : t D σ H) : ∃ t, PSs X st t ∧ t D σ H := ⟨t, h.h, q⟩
section
variable {X : Cx} {a b c o e : Expr} {ta tb tc te to : TE} {tA tB' : TT} {es : List Expr} {t : TA} {pos p p2 apos cpos : Pos} {x : Str}
/-! blocks -/
theorem xb0 : XB X [] tNext := ⟨pss_nil⟩
theorem xb1 {st : Stmt} {u : TS} (h : XS X st u) : XB X [st] u := ⟨pss_one h.h⟩
theorem xbc {st : Stmt} {sts : List Stmt} {u v : TS} (h : XS X st u) (r : XB X sts v) : XB X (st :: sts) (tSeq u v) := ⟨pss_cons h.h r.h⟩
theorem xret (h : XE X e te) : XS X (.Return (some e) pos) (tRet te) := ⟨ps_ret h.h⟩
theorem xif {f g : List Stmt} {tf tg : TS} (h : XT X c tA) (h1 : XB X f tf) (h2 : XB X g tg) : XS X (.If c f g pos) (tIfS tA tf tg) := ⟨ps_if h.h h1.h h2.h⟩
theorem xexpr (h : XE X e te) (hs : swapsWith e none pos.line X.env = pure false := by rfl) : XS X (.Expr e pos) (tDrop te) := ⟨ps_expr h.h hs⟩
theorem xset {i : Nat} {pos' : Pos} (hN : X.N.Nodup) (hi : X.N[i]? = some x) (hx : Loc X.env.scope x) (he : XE X e te) (hs : swapsWith e (some (.Name x pos')) pos.line X.env = pure false := by rfl) (hf : X.fn x = true ∨ X.env.scope.names.lookup x = some .local := by first | exact .inl rfl | exact .inr rfl) :
    XS X (.Assign [.Name x pos'] e pos) (tAsg te (gName i)) := ⟨ps_set hN hi hx he.h hs hf⟩
theorem xgn {i : Nat} (hN : X.N.Nodup) (hi : X.N[i]? = some x) (hx : Loc X.env.scope x) (hf : X.fn x = true ∨ X.env.scope.names.lookup x = some .local := by first | exact .inl rfl | exact .inr rfl) : XG X (.Name x pos) (gName i) := ⟨pg_name hN hi hx hf⟩
theorem xgs0 : XGs X [] gNil := ⟨pgs_nil⟩
theorem xgsc {tg : TG} {tgs : TGs} (h1 : XG X e tg) (h2 : XGs X es tgs) (hs : (assignEach (e :: es) X.env).map (·.2) = assign e X.env :: (assignEach es X.env).map (·.2) := by rfl) : XGs X (e :: es) (gCons tg tgs) := ⟨pgs_cons h1.h h2.h hs⟩
theorem xgt {k n : Nat} {tgs : TGs} (hc : X.calm = true) (h : XGs X es tgs) (hn : (assignEach es X.env).length = n := by rfl) (hst : (assignEach es X.env).findIdx? (·.1) = none := by rfl) : XG X (.Tuple es k pos) (gTup X.K n tgs) := ⟨pg_tup hc h.h hn hst⟩
theorem xasg {tg : Expr} {g : TG} (he : XE X e te) (hg : XG X tg g) (hs : swapsWithSole [tg] e pos.line X.env = pure false := by rfl) (hw : swappedStores [tg] e X.env = pure none := by rfl)
    (h1 : (assignEach [tg] X.env).map (·.2) = [assign tg X.env] := by rfl) : XS X (.Assign [tg] e pos) (tAsg te g) := ⟨ps_asg he.h hg.h hs hw h1⟩
theorem xfor {tg it : Expr} {body : List Stmt} {wi : TI} {g : TG} {tb : TS} (hp : PassesOwn (model X.prog X.w) X.A X.env X.xe) (hc : X.calm = true) (hi : XI X tg it wi) (hg : XG X tg g) (hb : XB X body tb)
    (hs : ∀ x, foldedSetIterable it X.env x = pure x := by intro _; rfl) : XS X (.For tg it body [] pos) (tFor wi g tb) := ⟨ps_for hp hc hi.h hg.h hb.h hs⟩
theorem xwhile {body : List Stmt} {tb : TS} (hp : PassesOwn (model X.prog X.w) X.A X.env X.xe) (hc : XT X c tA) (hb : XB X body tb) : XS X (.While c body [] pos) (tWhile tA tb) := ⟨ps_while hp hc.h hb.h⟩
theorem xgsub {i : Expr} {ti : TE} {t : TSet} (ho : XE X o to) (hi : XE X i ti) (hs : PSet X t)
    (ha : ∀ v, assign (.Subscript o i pos) X.env v = (do
      let ov ← holding [v] (eval o X.env)
      let iv ← holding [v, ov] (eval i X.env)
      standAt pos
      holding [v, ov, iv] (setItem ov iv v)
      release [v, ov, iv] []) := by intro _; rfl) : XG X (.Subscript o i pos) (gSub to ti t) := ⟨pg_sub ho.h hi.h hs ha⟩
/-! iterators -/
theorem xir1 {tg : Expr} (hg : Gl X "range") (hm : X.mg "range" = none) (ha : XA X [a] t) (h : isStar a = false := by rfl) : XI X tg (.Call (.Name "range" p) [a] [] pos) (iRng1 t) := ⟨pi_range1 hg hm ha.h (star_cons h)⟩
theorem xil {tg l : Expr} {tl : TE} (h : XE X l tl) : XI X tg l (iList X.K tl) := ⟨pi_list h.h⟩
/-! tests -/
theorem xcmpT {op : CmpOp} {r : R2} (ho : OpR X (compareOp op) r) (ha : XE X a ta) (hb : XE X b tb) (hm : behindInMarks op b = false) : XT X (.Compare a [op] [b] pos) (tTest (tOp r ta tb)) := ⟨pt_cmpR ho ha.h hb.h hm⟩
theorem xnotT (h : XT X a tA) : XT X (.UnaryOp .Not a pos) (tNot tA) := ⟨pt_not h.h⟩
theorem xvalT (h : XE X e te) (he : ∀ whole, isTrue e X.env whole = (do let v ← whole; standAt e.pos; holding [v] (truthy v)) := by intro _; rfl) : XT X e (tB te) := ⟨pt_val h.h he⟩
theorem xand1 (h : XT X a tA) : XW X (.BoolOp .And [a] pos) tA := ⟨pw_and1 h.h⟩
theorem xor1 (h : XT X a tA) : XW X (.BoolOp .Or [a] pos) tA := ⟨pw_or1 h.h⟩
theorem xand {rest : List Expr} (h : XT X a tA) (h2 : XW X (.BoolOp .And (b :: rest) pos) tB') : XW X (.BoolOp .And (a :: b :: rest) pos) (tAnd tA tB') := ⟨pw_and h.h h2.h⟩
theorem xor {rest : List Expr} (h : XT X a tA) (h2 : XW X (.BoolOp .Or (b :: rest) pos) tB') : XW X (.BoolOp .Or (a :: b :: rest) pos) (tOr tA tB') := ⟨pw_or h.h h2.h⟩
theorem XW.xt (h : XW X e tA) : XT X e tA := ⟨h.h.pt⟩
/-! expressions -/
theorem xbl {k : Bool} {j : Nat} : XE X (.Constant (.bool k) j pos) (tC (.bl k)) := ⟨pe_bl⟩
theorem xint {i : Int} {j : Nat} : XE X (.Constant (.int i) j pos) (tC (.int i)) := ⟨pe_int⟩
theorem xstr {y : Str} {j : Nat} : XE X (.Constant (.str y) j pos) (tC (.str y)) := ⟨pe_str⟩
theorem xv (i : Nat) (hN : X.N[i]? = some x := by rfl) (hv : Vis X.env.scope x := by first | exact Or.inl rfl | exact Or.inr (Or.inl rfl) | exact Or.inr (Or.inr rfl)) (hd : (x == ("__debug__" : Str)) = false := by decide)
    (hcd : (x == ("__classdict__" : Str)) = false := by decide) : XE X (.Name x pos) (tVar i) := ⟨pv i hN hv hd hcd⟩
theorem xty {T : String} (hm : X.mg x = none) (hv : bootBuiltins x = some (.type T)) (hg : Gl X x := by exact rfl) (hn : x ≠ "__name__" := by decide) (hd : (x == ("__debug__" : Str)) = false := by decide) : XE X (.Name x pos) (tC (.ty T)) := ⟨pe_bltn hg hm hv rfl hn hd⟩
theorem xop {op : Operator} {r : R2} (ho : OpR X (binaryOp op) r) (ha : XE X a ta) (hb : XE X b tb) : XE X (.BinOp a op b pos) (tOp r ta tb) := ⟨pe_op ho ha.h hb.h⟩
theorem xcmp {op : CmpOp} {r : R2} (ho : OpR X (compareOp op) r) (ha : XE X a ta) (hb : XE X b tb) (hm : behindInMarks op b = false) : XE X (.Compare a [op] [b] pos) (tOp r ta tb) := ⟨pe_cmpR ho ha.h hb.h hm⟩
theorem xone {op} (h : XE X a ta) : XE X (.BoolOp op [a] pos) ta := ⟨pe_one h.h⟩
theorem xandV {rest : List Expr} (h : XE X a ta) (h2 : XE X (.BoolOp .And (b :: rest) pos) tb) : XE X (.BoolOp .And (a :: b :: rest) pos) (tAndV ta tb) := ⟨pe_and h.h h2.h⟩
theorem xnot (h : XE X a ta) : XE X (.UnaryOp .Not a pos) (tNotV ta) := ⟨pe_not h.h⟩
theorem xo0 : XO X none tNoPart := ⟨po_none⟩
theorem xo1 (h : XE X e te) : XO X (some e) (tPart te) := ⟨po_some h.h⟩
theorem xsl {r : V → Option Int → Option Int → Hp → VK → Prop} {lo hi : Option Expr} {tl th : TO} (hr : SlR X r) (he : XE X e te) (hl : XO X lo tl) (hu : XO X hi th) : XE X (.Subscript e (.Slice lo hi none p2) pos) (tSl r te tl th) := ⟨pe_slice hr he.h hl.h hu.h⟩
theorem xix {r : R2} (hr : IxR X r) (ha : XE X a ta) (hb : XE X b tb) (hs : PlainIx b) : XE X (.Subscript a b pos) (tOp r ta tb) := ⟨pe_ix hr ha.h hb.h hs⟩
theorem xa0 : XA X [] tNil := ⟨pa_nil⟩
theorem xac (ha : XE X e te) (hr : XA X es t) (h : isStar e = false := by rfl) : XA X (e :: es) (tCons te t) := ⟨pa ha.h hr.h h⟩
theorem xlst (h : XA X es t) : XE X (.List es pos) (tLst t) := ⟨pe_lst h.h⟩
theorem xtup {k} (h : XA X es t) : XE X (.Tuple es k pos) (tTup t) := ⟨pe_tup h.h⟩
theorem xcD {k : Nat} {ps : List Str} {sp : Sp} (D : Def X.prog X.w X.K X.mg X.base k x ps sp) (hr : Room k X.A) (ha : XA X (e :: es) t) (hg : Gl X x := by exact rfl) (hdb : (x == ("__debug__" : Str)) = false := by decide) (hst : noStars (e :: es) = true := by rfl) :
    XE X (.Call (.Name x p) (e :: es) [] pos) (tCall sp [] E0 t) := ⟨cD D hr ha.h hg hdb hst⟩
theorem xcB {id : String} {r : List V → Hp → VK → Prop} (hc : CallR X (.builtin id) r) (hm : X.mg x = none) (hv : bootBuiltins x = some (.builtin id)) (ha : XA X (e :: es) t) (hg : Gl X x := by exact rfl) (hn : x ≠ "__name__" := by decide) (hdb : (x == ("__debug__" : Str)) = false := by decide)
    (hst : noStars (e :: es) = true := by rfl) : XE X (.Call (.Name x p) (e :: es) [] pos) (tCB r t) := ⟨cB hc hg hm hv ha.h hn hdb hst⟩
theorem xcTy {T : String} {r : List V → Hp → VK → Prop} (hc : CallR X (.type T) r) (hm : X.mg x = none) (hv : bootBuiltins x = some (.type T)) (ha : XA X (e :: es) t) (hg : Gl X x := by exact rfl) (hn : x ≠ "__name__" := by decide) (hdb : (x == ("__debug__" : Str)) = false := by decide)
    (hst : noStars (e :: es) = true := by rfl) : XE X (.Call (.Name x p) (e :: es) [] pos) (tCB r t) := by
  have h1 : isStar e = false := by
    have := hst
    unfold noStars at this
    rw [Bool.and_eq_true, Bool.not_eq_true'] at this
    exact this.1
  have h2 : noStars es = true := by
    have := hst
    unfold noStars at this
    rw [Bool.and_eq_true] at this
    exact this.2
  exact ⟨pe_callTy hc hg hm hv ha.h hn hdb (star_cons h1) (stars_any h2)⟩
theorem xm {name : Str} {T id : String} {r : V → List V → Hp → VK → Prop} (pa : PlainAttrs T) (slot : Slot T name id) (hty : typeOf (.builtin id) = pure (.type "method_descriptor")) (hm : MtR X id r) (ho : XE X o to) (ha : XA X (e :: es) t)
    (hb : plainBase o = true := by rfl) (hst : noStars (e :: es) = true := by rfl) (hl : decide ((e :: es).length + ([] : List Keyword).length + (if ([] : List Keyword).isEmpty then 0 else 1) < 30) = true := by rfl)
    (hline : (apos.endLine == cpos.line) = true := by rfl) : XE X (.Call (.Attribute o name apos) (e :: es) [] cpos) (tBM X.K T r to t) := ⟨pm pa slot hty hm ho.h ha.h (base_of hb) hst hl hline⟩
/-! comprehensions -/
theorem xq0 : XQ X [] tYes := ⟨pts_nil⟩
theorem xq1 (h : XT X c tA) : XQ X [c] tA := ⟨pts_one h.h⟩
section
variable {scope : Scope} {cl : List (Str × Addr)} {own : List Str} {fr : List Nat} {N' : List Str} {tg iter elt : Expr} {ifs : List Expr} {wi : TI} {g : TG} {tt : TT}
theorem xlc (hc : X.calm = true) (Z : CompN X scope cl own fr N') (hcell : ∀ y ∈ scope.names, y.2 ≠ .cell) (hnames : ∀ x ∈ scope.names, x.2 = .local → scope.names.lookup x.1 = some .local) (hclos : closureFor scope X.env = pure cl)
    (hi : XI X tg iter wi) (hg : ∀ C fp s H, XG (compX X scope cl C N' fp s H) tg g) (ht : ∀ C fp s H, XQ (compX X scope cl C N' fp s H) ifs tt) (he : ∀ C fp s H, XE (compX X scope cl C N' fp s H) elt te)
    (hs : ∀ x, foldedSetIterable iter X.env x = pure x := by intro _; rfl) : XE X (.ListComp elt [⟨tg, iter, ifs, 0⟩] scope pos) (tLC wi own.length fr g tt te) :=
  ⟨pe_lc hc Z hcell hnames hclos hi.h (fun C fp s H => (hg C fp s H).h) (fun C fp s H => (ht C fp s H).h) (fun C fp s H => (he C fp s H).h) hs⟩
end
end
end L2

set_option Elab.async false
set_option linter.all false
set_option maxRecDepth 100000
namespace L2
open PySem PySem.Spec PyProof.Rows


section
variable {X : Cx} {CX : CXT} {k : Nat} {f C : Addr} {fd : FuncData} {ps : List Str} {sp : Sp} {dvs : List V} {ds : List Value} {E : XK} {x m : Str} {p pos apos : Pos} {e o : Expr} {es : List Expr} {ta : TE} {t : TA}


end
section
variable {P : Program} {w : World} {K : PySem.W.Frag} {mg : Str → Option Value} {base : Heap}

end
section
variable {X : Cx} {k : Nat} {x : Str} {ps : List Str} {sp : Sp} {e : Expr} {es : List Expr} {te : TE} {t : TA} {p pos : Pos}
end
end L2

set_option Elab.async false
set_option linter.all false
set_option maxRecDepth 100000
/-! enumerate over a list, and a list by steps -/
namespace L2
open PySem PySem.Spec PyProof.Rows
section
variable {X : Cx} {pins : List (Addr × Obj)} {σ : St} {H : Hp} {s : Shared} {h' : Heap}
/-- two records of ours have turned, a new object is laid -/
theorem Inv.turned2 {t' : Nat} {e it T : Addr} {o : HO} (I : Inv X pins σ H s) (k : ∀ b ob, b ≠ e → b ≠ it → s.heap.get? b = some ob → h'.get? b = some ob) (fe : FpOk X pins H e) (fi : FpOk X pins H it) (hT : s.heap.objs.size ≤ T)
    (new : ObjOk X.prog X.w (upd H T o) h' T o) (ht : 0 < t') : Inv X pins σ (upd H T o) { s with heap := h', toks := t' } := by
  have hn : H T = none := I.hok.fresh hT
  have ne1 : ∀ b u, H b = some u → b ≠ e := fun b u q z => by rw [z, fe.1] at q; cases q
  have ne2 : ∀ b u, H b = some u → b ≠ it := fun b u q z => by rw [z, fi.1] at q; cases q
  have kk : ∀ b ob, b ∉ [e, it] → s.heap.get? b = some ob → h'.get? b = some ob := fun b ob hb q => k b ob (fun z => hb (by simp [z])) (fun z => hb (by simp [z])) q
  refine I.step (g' := s.gens) (d' := s.drawn) (ch := [e, it]) (fun b hb => ?_) (fun b ob _ _ hc q _ => kk b ob hc q) (fun b ob _ _ hc q _ => ⟨ob.slots, kk b ob hc q⟩) (fun b ob _ q n => ?_)
    (fun b ob hc q => ⟨ob, kk b ob hc q⟩) (fun b xs q => ?_) (fun b ob u q => ?_) (fun b ps q => ⟨#[], ?_⟩) (fun m hm => ?_) (fun b u q => ?_) I.bare
  · rcases List.mem_cons.mp hb with rfl | hb
    · exact ⟨fe.2.2.2.1, fe.2.1, fe.2.2.2.2.1, fe.2.2.2.2.2⟩
    · have z : b = it := by simpa using hb
      subst z
      exact ⟨fi.2.2.2.1, fi.2.1, fi.2.2.2.2.1, fi.2.2.2.2.2⟩
  · rw [upd_ne (Nat.ne_of_lt (Nat.lt_of_lt_of_le (Heap.lt_size q) hT))]; exact n
  · rw [upd_ne (ne_of_none q hn)]; exact q
  · rw [upd_ne (ne_of_none q hn)]; exact q
  · rw [upd_ne (ne_of_none q hn), q]; simp
  · obtain ⟨ob, es, ep, ho, r⟩ := hm
    exact ⟨ob, es, ep, k _ ob (Ne.symm fe.2.1) (Ne.symm fi.2.1) ho, r⟩
  · by_cases hb : b = T
    · subst hb; rw [upd_same] at q; cases q; exact new
    · rw [upd_ne hb] at q
      refine (I.hok b u q).stay (fun c v hc q2 => ?_) (fun c q2 => by rw [upd_ne (ne_of_none q2 hn)]; exact q2) fun c xs q2 => by rw [upd_ne (ne_of_none q2 hn)]; exact q2
      rcases hc with z | z
      · subst z; exact k _ v (ne1 _ u q) (ne2 _ u q) q2
      · exact k c v (ne1 c _ z) (ne2 c _ z) q2
/-- (0, x), (1, y), .. of the list at a: a new tuple each -/
def Ite (K : PySem.W.Frag) (a : Addr) : It :=
  ⟨fun i H => ∃ xs x, SqL K H a xs ∧ xs[i]? = some x, fun i H x H' => ∃ T y, (∀ xs, SqL K H a xs → xs[i]? = some y) ∧ H T = none ∧ x = .ref T ∧ H' = upd H T (.tup [.int i, y]), fun i H => ∃ xs, SqL K H a xs ∧ xs.length ≤ i⟩
theorem turn_enum {P : Program} {w : World} {K : PySem.W.Frag} {elts : List Expr} {k : Nat} {pos : Pos} (a e it : Addr) (hne : e ≠ it) :
    Turn P w K (.Tuple elts k pos) (Ite K a) [e, it] e (fun i h => (∃ old, IsEnum h e it i old) ∧ h.IsListIter it a i) where
  mem := by simp
  obj := fun i h st b hb => by
    obtain ⟨⟨old, h1⟩, o, h2, h3, h4⟩ := st
    rcases List.mem_cons.mp hb with rfl | hb
    · exact ⟨_, h1, fun v z => by cases z⟩
    · have z : b = it := by simpa using hb
      subst z
      exact ⟨o, h2, fun v z => by rw [h4] at z; cases z⟩
  keep := fun i h h' st kk => by
    obtain ⟨⟨old, h1⟩, o, h2, h3⟩ := st
    exact ⟨⟨old, kk e (by simp) _ h1⟩, o, kk it (by simp) o h2, h3⟩
  item := by
    intro X hP hw hK hc i pins s σ H E I hf st hg
    subst hP hw hK
    obtain ⟨xs, x, hq, hx⟩ := hg
    obtain ⟨its, rv, p, hz⟩ := I.list hq
    obtain ⟨u, hu, ru⟩ := rv.get hx
    obtain ⟨⟨old, h1⟩, h2⟩ := st
    have fe := hf e (by simp)
    have fi := hf it (by simp)
    have hL := p.isList
    have hae : a ≠ e := fun z => by
      obtain ⟨o, q1, q2, _⟩ := hL
      rw [z, h1] at q1
      cases q1
      exact absurd (Value.type.inj q2) (by decide)
    have hai : a ≠ it := fun z => by
      obtain ⟨o, q1, q2, _⟩ := hL
      obtain ⟨o', q3, q4, _⟩ := h2
      rw [z, q3] at q1
      cases q1
      rw [q4] at q2
      exact absurd (Value.type.inj q2) (by decide)
    refine wpAny_pyNext_enum_item h1 h2 hL (x := u) (by simpa using hu) hne fun h' g1 g2 g3 g4 g5 => ⟨_, rfl, ?_⟩
    have hle : e < s.heap.objs.size := Heap.lt_size h1
    obtain ⟨oi, hoi, _⟩ := id h2
    have hli : it < s.heap.objs.size := Heap.lt_size hoi
    have hTe : s.heap.objs.size ≠ e := Nat.ne_of_gt hle
    have hTi : s.heap.objs.size ≠ it := Nat.ne_of_gt hli
    have hL' : h'.IsList a its.toArray := by
      obtain ⟨o, q1, q2, q3⟩ := hL
      exact ⟨o, g5 a o hae hai q1, q2, q3⟩
    refine (WalksT.enumerate (I.ok.hd hc) e it a hne hae hai its.toArray).go elts k pos i s.heap.objs.size _ _ _ ⟨⟨_, g1⟩, g2, hL', hTe, hTi⟩ fun h2 st2 kp => ?_
    have hT : h2.get? s.heap.objs.size = some { cls := .type "tuple", data := .seq #[.int i s.toks, u] } := kp _ _ (by simp [hTe, hTi]) g3
    refine ⟨.ref s.heap.objs.size, upd H s.heap.objs.size (.tup [.int i, x]), ?_, rfl, ⟨s.heap.objs.size, x, fun ys hy => by rw [I.list_inj hy hq]; exact hx, I.hok.fresh (Nat.le_refl _), rfl, rfl⟩, ⟨?_, ?_⟩, ?_⟩
    · refine I.turned2 (t' := s.toks + 1) (fun b ob n1 n2 q => kp b ob (by simp [n1, n2]) (g5 b ob n1 n2 q)) fe fi (Nat.le_refl _) ?_ (Nat.succ_pos _)
      refine ⟨by show 2 ≤ sizeLine; rw [sizeLine_eq]; decide, [.int i s.toks, u], .cons ⟨_, rfl⟩ (.cons ru .nil), ?_⟩
      exact ⟨_, hT, rfl, 0, rfl⟩
    · obtain ⟨old2, q⟩ := st2.1
      exact ⟨old2, by simpa using q⟩
    · exact st2.2.1
    · intro b hb
      rcases List.mem_cons.mp hb with rfl | hb
      · rw [upd_ne (Ne.symm hTe)]; exact fe.1
      · have z : b = it := by simpa using hb
        subst z
        rw [upd_ne (Ne.symm hTi)]; exact fi.1
  done := by
    intro X hP hw hK hc i pins s σ H E I hf st hg
    subst hP hw hK
    obtain ⟨xs, hq, hx⟩ := hg
    obtain ⟨its, rv, p, hz⟩ := I.list hq
    obtain ⟨⟨old, h1⟩, h2⟩ := st
    obtain ⟨f0, f1, f2, f3, f4, f5⟩ := hf it (by simp)
    have hl := rv.length
    exact wpAny_pyNext_enum_end (I.ok.hd hc) h1 h2 p.isList (by simp; omega) fun h' eb => ⟨rfl, I.turned (t' := s.toks) (fun b o hb e => eb b o hb e) f0 f1 f3 f4 f5⟩
  self := fun _ _ _ _ _ st h => by
    obtain ⟨⟨old, h1⟩, _⟩ := st
    exact wpAny_pyIter_enum h1 h
def iEnum (K : PySem.W.Frag) (ta : TA) : TI := fun σ H R => ta σ H fun vs H1 => ∃ a xs, vs = [.ref a] ∧ H1 a = some (.lst xs) ∧ R (Ite K a) H1
theorem pi_enum {l : Expr} {ta : TA} {p pos : Pos} {elts : List Expr} {k : Nat} {pos' : Pos} (hg : Gl X "enumerate") (hm : X.mg "enumerate" = none) (ha : PA X [l] ta) (hs : starEach [l] X.env = [(false, eval l X.env)] := by rfl) :
    PI X (.Tuple elts k pos') (.Call (.Name "enumerate" p) [l] [] pos) (iEnum X.K ta) := by
  intro pins s σ H R I h
  refine Call_ (ld_blt I hg hm boot_enumerate (PyProof.Rows.callWith_type1 (thn (ha pos pins s σ H _ I h) fun us s1 ⟨vs, H1, I1, r1, q1⟩ => ?_) hs rfl))
  obtain ⟨a, xs, e, hq, q⟩ := q1
  subst e
  obtain ⟨u, rfl, ru⟩ := r1.one
  cases ru
  obtain ⟨z, its, n, r, hl, e⟩ := I1.lstM hq
  refine call_enumerate_1 e fun h' g1 g2 g3 g4 => ?_
  have hne : s1.heap.objs.size + 1 ≠ s1.heap.objs.size := by omega
  refine wpAny_pyIter_enum g1 ?_
  refine ⟨s1.heap.objs.size + 1, [s1.heap.objs.size + 1, s1.heap.objs.size], _, _, H1, rfl, I1.kept (t' := s1.toks) g4, turn_enum a _ _ hne, ⟨⟨_, g1⟩, g2⟩, fun b hb => ?_, q⟩
  have hb' : s1.heap.objs.size ≤ b := by
    rcases List.mem_cons.mp hb with rfl | hb
    · omega
    · have z : b = s1.heap.objs.size := by simpa using hb
      exact Nat.le_of_eq z.symm
  exact I1.fpOk hb' (I1.hok.fresh hb')
end
/-! ### isinstance of several written types -/
section
variable {X : Cx} {e l : Expr} {te : TE} {t : TA} {pos p p1 p2 p3 : Pos}
theorem xie {elts : List Expr} {k : Nat} {pos' : Pos} (hm : X.mg "enumerate" = none) (ha : XA X [l] t) (hg : Gl X "enumerate" := by exact rfl) (h : isStar l = false := by rfl) : XI X (.Tuple elts k pos') (.Call (.Name "enumerate" p) [l] [] pos) (iEnum X.K t) := ⟨pi_enum hg hm ha.h (star_cons h)⟩
section
variable {scope : Scope} {cl : List (Str × Addr)} {C : Addr} {N' : List Str} {fp : List Addr} {s : Shared} {H : Hp}
end
end
end L2

set_option Elab.async false
set_option linter.all false
set_option maxRecDepth 100000
/-! sum, max, min of a list of numbers; zip; == of any data -/
namespace L2
open PySem PySem.Spec PyProof.Rows
section
variable {X : Cx} {pins : List (Addr × Obj)} {σ : St} {H : Hp} {s : Shared} {h' : Heap}
/-! ### == of any data -/
def rEqG (K : PySem.W.Frag) (neg : Bool) : R2 := fun x y H Q => ∃ d e, Den K H x d ∧ Den K H y e ∧ d.depth ≤ 6 ∧ e.depth ≤ 6 ∧ Q (.bl (if neg then !(PyData.eqv d e) else PyData.eqv d e)) H
theorem op_eqG (hu : X.A.units + 64 < cLine) : OpR X (compareOp .Eq) (rEqG X.K false) := by
  intro pins s σ H x y v u Q I rx ry h
  obtain ⟨d, e, dx, dy, hd, he, q⟩ := h
  obtain ⟨as, ra⟩ := dx.reads I rx
  obtain ⟨bs, rb⟩ := dy.reads I ry
  have hs1 : SeqAt.shaped d = true := by
    unfold SeqAt.shaped
    rw [dx.lay, Bool.true_and]
    exact decide_eq_true (Nat.le_trans hd (by decide))
  have hs2 : SeqAt.shaped e = true := by
    unfold SeqAt.shaped
    rw [dy.lay, Bool.true_and]
    exact decide_eq_true (Nat.le_trans he (by decide))
  exact eq_dataH ra rb hs1 hs2 hu ⟨.bl _, H, I, rfl, q⟩
theorem op_neG (hu : X.A.units + 64 < cLine) : OpR X (compareOp .NotEq) (rEqG X.K true) := by
  intro pins s σ H x y v u Q I rx ry h
  obtain ⟨d, e, dx, dy, hd, he, q⟩ := h
  obtain ⟨as, ra⟩ := dx.reads I rx
  obtain ⟨bs, rb⟩ := dy.reads I ry
  have hs1 : SeqAt.shaped d = true := by
    unfold SeqAt.shaped
    rw [dx.lay, Bool.true_and]
    exact decide_eq_true (Nat.le_trans hd (by decide))
  have hs2 : SeqAt.shaped e = true := by
    unfold SeqAt.shaped
    rw [dy.lay, Bool.true_and]
    exact decide_eq_true (Nat.le_trans he (by decide))
  exact ne_dataH ra rb hs1 hs2 hu ⟨.bl _, H, I, rfl, q⟩
/-! ### zip of two lists -/
/-! ### xs[::-1], as it is -/
end
end L2

set_option Elab.async false
set_option linter.all false
set_option maxRecDepth 100000
/-! Exceptions of own classes: how one is made, leaves a def, passes on, is caught. -/
namespace L2
open PySem PySem.Spec PyProof.Rows
/-! ### an exception and its trace -/
section
variable {h h' B : Heap} {e T : Addr} {cls a0 fl : Value}
end
/-! ### hiding: what the rules of a flight keep -/
/-! ### an exception that has left a def -/
/-! ### an exception within the frame -/
section
variable {X : Cx} {pins : List (Addr × Obj)} {σ : St} {H H' : Hp} {e T : Addr} {cls a0 fl fl' : Value} {s s' : Shared} {h' : Heap}
variable {M : Model} {A : Around} {E : Value → Shared → Prop} {Q : Unit → Shared → Prop}
end
end L2

set_option Elab.async false
set_option linter.all false
set_option maxRecDepth 100000
/-! raise, try, and calls that may raise. -/
namespace L2
open PySem PySem.Spec PyProof.Rows
/-! ### leaving a def -/
section
variable {P : Program} {w : World} {K : PySem.W.Frag} {mg : Str → Option Value} {base : Heap} {N : List Str} {qual : Str} {scope : Scope} {f : Addr} {cd : Value} {A : Around} {outer : List Env} {s₀ : Shared} {H₀ : Hp} {E : XK}
end
/-! ### raise -/
section
variable {X : Cx} {C : Addr} {E : XK} {x : Str} {e0 : Expr} {rest : List Expr} {ta : TA} {np cpos pos : Pos}
end
/-! ### a def that may raise -/
section
variable {X : Cx} {k : Nat} {x : Str} {ps : List Str} {sp : Sp} {e : Expr} {es : List Expr} {te : TE} {t : TA} {p pos : Pos}
/-! ### code that may raise, the exception seen with the names as they are -/
end
/-! ### try -/
section
variable {X : Cx} {x n : Str} {C : Addr} {i : Nat} {body suite : List Stmt} {b₀ : Stmt} {np hpos pos : Pos} {tb : TSx} {th : TS}
end
end L2

set_option Elab.async false
set_option linter.all false
set_option maxRecDepth 100000
/-! isinstance of a caught exception of an own class. -/
namespace L2
open PySem PySem.Spec PySem.Calls PyProof.Rows PySem.W PySem.Builtin PySem.Builtin.Str PySem.Builtin.ObjectAttr PySem.Builtin.Getset_descriptor
section
variable {prog : Program} {w : World} {A : Around} {E : Value → Shared → Prop} {s : Shared} {K : PySem.W.Frag} {e C : Addr}
end
/-! ### the rules in short -/
section
variable {X : Cx} {x : Str} {pos p : Pos}
/-! ### the empty dict, a text many times -/
end
end L2

set_option Elab.async false
set_option linter.all false
set_option maxRecDepth 100000
/-! rules for a comprehension's block that name the outer context's fragment -/
namespace L2
open PySem PySem.Spec PyProof.Rows
section
variable {X : Cx} {scope : Scope} {cl : List (Str × Addr)} {C : Addr} {N' : List Str} {fp : List Addr} {s : Shared} {H : Hp} {o e : Expr} {es : List Expr} {to : TE} {t : TA} {apos cpos : Pos}
end
end L2

set_option Elab.async false
set_option linter.all false
set_option maxRecDepth 100000
/-! Closures: a def within a def, what it captures, a call with it, a call of it. -/
namespace L2
open PySem PySem.Spec PyProof.Rows

/-! ### the closure's body -/
structure CloScope (N ps fr : List Str) (sc : Scope) : Prop where
  kind : sc.kind = .function
  co : sc.isCoroutine = false
  gen : sc.isGenerator = false
  nd : N.Nodup
  pre : N.take (ps.length + fr.length) = ps ++ fr
  par : ∀ x ∈ ps, sc.names.lookup x = some .local
  nocell : ∀ y ∈ sc.names, y.2 ≠ .cell

/-- the cells that it captures, and their values -/
structure CloCells (base : Heap) (cl : List (Str × Addr)) (sc : Scope) (fr : List Str) (fvs : List V) : Prop where
  cell : ∀ x c, cl.lookup x = some c → ∃ v, base.IsCell c v
  inj : ∀ x y c, cl.lookup x = some c → cl.lookup y = some c → x = y
  has : ∀ x, sc.names.lookup x = some .free → ∃ c, cl.lookup x = some c
  len : fvs.length = fr.length
  val : ∀ (i : Nat) x v, fr[i]? = some x → fvs[i]? = some v → sc.names.lookup x = some .free ∧ ∃ u c, RelV v u ∧ cl.lookup x = some c ∧ base.IsCell c (some u)

def cxC (CX : CXT) (P : Program) (w : World) (K : PySem.W.Frag) (mg : Str → Option Value) (base : Heap) (N : List Str) (qual : Str) (scope : Scope) (f : Addr) (cd : Value) (cl : List (Str × Addr)) (A : Around) (outer : List Env) (s : Shared) (H : Hp) (E : XK) : Cx where
  prog := P
  w := w
  K := K
  mg := mg
  base := base
  A := A.deeper (PySem.W.envX qual scope s.heap.objs.size f cd cl)
  N := N
  s₀ := s
  H₀ := H
  env := PySem.W.envX qual scope s.heap.objs.size f cd cl
  outer := outer
  stack := PySem.W.envX qual scope s.heap.objs.size f cd cl :: outer
  ex := []
  calm := true
  fn := fun _ => false
  pn := []
  xe := fun e s' => wpAny (model P w) (A.deeper (PySem.W.envX qual scope s.heap.objs.size f cd cl)) (leaving (PySem.W.envX qual scope s.heap.objs.size f cd cl) e) (fun _ s'' => CX outer H s E e s'') (fun e' s'' => CX outer H s E e' s'') s'

theorem rev_lookup_zip {x : Str} {u : Value} : ∀ {ps : List Str} {us : List Value} {i : Nat}, ps.Nodup → ps[i]? = some x → us[i]? = some u → (ps.zip us).reverse.lookup x = some u := by
  have out : ∀ (l : List (Str × Value)) (r : List (Str × Value)), (∀ v, (x, v) ∉ l) → (l ++ r).lookup x = r.lookup x := by
    intro l
    induction l with
    | nil => intro r _; rfl
    | cons a l ih =>
      intro r h
      obtain ⟨y, v⟩ := a
      have hy : (x == y) = false := by
        apply Bool.eq_false_iff.mpr
        intro z
        have z' := eq_of_beq z
        subst z'
        exact h v List.mem_cons_self
      rw [List.cons_append, List.lookup_cons, hy]
      exact ih r fun v hv => h v (List.mem_cons_of_mem _ hv)
  intro ps
  induction ps with
  | nil => intro us i _ h; simp at h
  | cons p ps ih =>
    intro us i nd h1 h2
    cases us with
    | nil => simp at h2
    | cons w us =>
      rw [List.zip_cons_cons, List.reverse_cons]
      cases i with
      | zero =>
        simp at h1 h2
        subst h1; subst h2
        rw [out _ _ fun v hv => (List.nodup_cons.mp nd).1 (List.of_mem_zip (List.mem_reverse.mp hv)).1]
        rw [List.lookup_cons]; simp
      | succ i =>
        have q := ih (us := us) (i := i) (List.nodup_cons.mp nd).2 (by simpa using h1) (by simpa using h2)
        have app : ∀ (l r : List (Str × Value)) (v : Value), l.lookup x = some v → (l ++ r).lookup x = some v := by
          intro l
          induction l with
          | nil => intro r v h; cases h
          | cons a l ih =>
            intro r v h
            obtain ⟨y, z⟩ := a
            rw [List.cons_append, List.lookup_cons] at *
            cases hb : x == y with
            | true => rw [hb] at h; exact h
            | false => rw [hb] at h; exact ih r v h
        exact app _ _ _ q

theorem inv_startC {CX : CXT} {P : Program} {w : World} {K : PySem.W.Frag} {mg : Str → Option Value} {base : Heap} {N ps fr : List Str} {qual : Str} {scope : Scope} {f : Addr} {cd : Value} {cl : List (Str × Addr)} {A : Around} {outer : List Env} {s : Shared} {h₁ : Heap} {tk : Nat} {H : Hp} {E : XK} {us : List Value} {vs fvs : List V}
    (S : CloScope N ps fr scope) (C : CloCells base cl scope fr fvs) (hd : A.handled = none) (e0 : Env0 P w K mg base A outer s H) (hl : vs.length = ps.length) (r : Vals vs us) (htk : 0 < tk)
    (hns : h₁.Ns s.heap.objs.size (fun x => (ps.zip us).reverse.lookup x)) (hk : ∀ b o, s.heap.get? b = some o → h₁.get? b = some o) :
    Inv (cxC CX P w K mg base N qual scope f cd cl A outer s H E) [] (start N (vs ++ fvs)) H { s with heap := h₁, toks := tk } := by
  have hpl : ps.length + fr.length ≤ N.length := by have := congrArg List.length S.pre; rw [List.length_take, List.length_append] at this; omega
  have noA : ∀ b : Addr, b ∉ (cxC CX P w K mg base N qual scope f cd cl A outer s H E).ex := fun b z => absurd (show b ∈ ([] : List Addr) from z) (by simp)
  have hkb : ∀ b o, base.get? b = some o → h₁.get? b = some o := fun b o e => hk b o (e0.bs b o e).1
  refine ⟨⟨e0.mod, S.kind, rfl, rfl, Nat.le_refl _, C.inj, fun y hy => ?_, fun y c z _ => absurd (show false = true from z) Bool.false_ne_true, fun _ => hd, Around.frames_deeper e0.frames, .inr ⟨rfl, rfl⟩, fun b z => absurd z (noA b), e0.bs, e0.bsz, fun b _ _ => noA b, fun b z => absurd z (noA b), e0.funs, e0.frf⟩,
    rfl, e0.bare, Un.kept hk, ⟨_, hns, fun i y v h1 h2 h3 => ?_⟩, fun y c h => ?_, e0.hok.fresh (Nat.le_refl _), fun y c h => ?_, fun p hp => absurd (show p ∈ ([] : List (Addr × Obj)) from hp) (by simp), e0.hok.kept hk, ?_, htk⟩
  · have hy : scope.names.lookup y = some .cell ∨ scope.names.lookup y = some .free := hy
    rcases hy with hy | hy
    · exact absurd rfl (S.nocell _ (PySem.mem_of_lookup hy))
    · exact C.has y hy
  · have hi : i < (vs ++ fvs).length := by
      unfold start at h2
      by_cases hi : i < (vs ++ fvs).length
      · exact hi
      · rw [List.getElem?_append_right (by simpa using hi)] at h2
        rw [List.getElem?_replicate] at h2
        split at h2 <;> cases h2
    have ha : (vs ++ fvs)[i]? = some v := by
      unfold start at h2
      rw [List.getElem?_append_left (by simpa using hi), List.getElem?_map] at h2
      cases e : (vs ++ fvs)[i]? with
      | none => rw [e] at h2; cases h2
      | some a => rw [e] at h2; cases h2; rfl
    have hlen : (vs ++ fvs).length = ps.length + fr.length := by rw [List.length_append, hl, C.len]
    have hp : (ps ++ fr)[i]? = some y := by
      rw [← S.pre, List.getElem?_take_of_lt (by omega)]; exact h1
    have ndP : (ps ++ fr).Nodup := by rw [← S.pre]; exact S.nd.sublist (List.take_sublist _ _)
    by_cases hip : i < ps.length
    · rw [List.getElem?_append_left hip] at hp
      rw [List.getElem?_append_left (by omega)] at ha
      obtain ⟨u, hu, rv⟩ := r.get ha
      exact ⟨u, rv, .inl ⟨S.par y (List.mem_of_getElem? hp), rev_lookup_zip (List.nodup_append.mp ndP).1 hp hu⟩⟩
    · rw [List.getElem?_append_right (by omega)] at hp
      rw [List.getElem?_append_right (by omega), hl] at ha
      obtain ⟨hf, u, c, rv, hc, z⟩ := C.val _ y v hp ha
      exact ⟨u, rv, .inr ⟨.inr hf, c, hc, z.keeps hkb⟩⟩
  · obtain ⟨v, z⟩ := C.cell y c h
    exact ⟨v, z.keeps hkb⟩
  · obtain ⟨v, o, z, _⟩ := C.cell y c h
    exact (e0.bs _ _ z).2
  · unfold start
    show _ = N.length
    have hlen : (vs ++ fvs).length = ps.length + fr.length := by rw [List.length_append, hl, C.len]
    rw [List.length_append, List.length_map, List.length_replicate]
    omega

/-- THE RULE: a closure that stands in the base, by its body -/
theorem fn_ofC {CX : CXT} {P : Program} {w : World} {K : PySem.W.Frag} {mg : Str → Option Value} {base : Heap} {k : Nat} {f : Addr} {name qual : Str} {params : Arguments} {body : List Stmt} {scope : Scope} {cl : List (Str × Addr)} {dV kV doc pm cdv ct oc : Value} {an od : Option Addr}
    {osl : Array (Option Value)} {N ps fr : List Str} {fvs : List V} {sp : Sp} (lk : base.get? f = some ⟨oc, od, .func (PySem.W.fnX name qual params body scope cl dV kV doc pm an cdv ct), osl⟩) (hcd : base.CodeRec cdv qual) (S : CloScope N ps fr scope) (C : CloCells base cl scope fr fvs)
    (len : ∀ vs H Q E, sp vs H Q E → vs.length = ps.length)
    (hbody : ∀ (A : Around) (outer : List Env) (s : Shared) (H : Hp) (vs : List V) (Q : VK) (E : XK), Room k (A.deeper (PySem.W.envX qual scope s.heap.objs.size f cdv cl)) → sp vs H Q E →
      ∃ t, PSs (cxC CX P w K mg base N qual scope f cdv cl A outer s H E) body t ∧ t { nx := fun _ H' => Q .non H', rt := Q } (start N (vs ++ fvs)) H) :
    FnOk P w K mg base CX (k + 1) f (PySem.W.fnX name qual params body scope cl dV kV doc pm an cdv ct) ps sp := by
  refine ⟨len, fun A outer s H args us vs Q E hr e0 hb r hsp => ?_⟩
  have hl := len _ _ _ _ hsp
  have hkb : ∀ b o, base.get? b = some o → s.heap.get? b = some o := fun b o e => (e0.bs b o e).1
  have lim : s.heap.NoLimit := e0.mod.nolimit.keeps hkb
  refine codeAny_call_def (fd := PySem.W.fnX name qual params body scope cl dV kV doc pm an cdv ct) (body := body) (binds := ps.zip us) hr.depth (hkb _ _ lk) rfl lim (hcd.keeps hkb) rfl hb S.nocell (fun x hx => S.par _ (List.of_mem_zip hx).1) (fun h₁ hns hk₁ => ?_) S.co S.gen S.kind
  obtain ⟨t, ht, hq⟩ := hbody A outer s H vs Q E (hr.deeper _) hsp
  have I : Inv (cxC CX P w K mg base N qual scope f cdv cl A outer s H E) [] (start N (vs ++ fvs)) H { s with heap := h₁, toks := s.toks + (ps.zip us).length } :=
    inv_startC S C hr.hd e0 hl r (Nat.lt_of_lt_of_le e0.tk (Nat.le_add_right _ _)) hns hk₁
  refine wpAny_mono (ht [] _ (start N (vs ++ fvs)) H _ I hq) (fun fl s' hs => ?_) fun e s' hs => hs
  have fin : ∀ {σ' : St} {H' : Hp} {v : V} {u : Value}, Inv (cxC CX P w K mg base N qual scope f cdv cl A outer s H E) [] σ' H' s' → RelV v u → Q v H' → CE outer P w H s Q u s' :=
    fun {σ' H' v u} J rv q => ⟨v, H', J.os, J.bare, J.base, J.hok, J.tk, rv, q⟩
  cases fl with
  | ret u =>
    obtain ⟨v, σ', H', J, rv, q⟩ := hs
    exact fin J rv q
  | next =>
    obtain ⟨σ', H', J, q⟩ := hs
    exact fin (v := V.non) (u := Value.none) J rfl q
  | brk =>
    obtain ⟨_, _, _, q⟩ := hs
    exact False.elim q
  | cont =>
    obtain ⟨_, _, _, q⟩ := hs
    exact False.elim q
end L2

set_option Elab.async false
set_option linter.all false
set_option maxRecDepth 100000
/-! A def within a def: the statement. -/
namespace L2
open PySem PySem.Spec PyProof.Rows

/-! ### what it captures -/
def closL (env : Env) : List (Str × NameKind) → List (Str × Addr) → List (Str × Addr)
  | [], acc => acc
  | (n, k) :: r, acc => if k == .free then (match env.cells.lookup n with | some c => closL env r ((n, c) :: acc) | none => closL env r acc) else closL env r acc
theorem closureFor_of {env : Env} {sc : Scope} (h : ∀ n, (n, NameKind.free) ∈ sc.names → ∃ c, env.cells.lookup n = some c) : closureFor sc env = pure (closL env sc.names []) := by
  have go : ∀ (l : List (Str × NameKind)) (acc : List (Str × Addr)), (∀ n, (n, NameKind.free) ∈ l → ∃ c, env.cells.lookup n = some c) →
      (forIn l acc fun (x : Str × NameKind) (cs : List (Str × Addr)) => (if (x.2 == .free) = true then do let __do_lift ← cellOf env x.1; pure (ForInStep.yield ((x.1, __do_lift) :: cs)) else pure (ForInStep.yield cs) : Sem (ForInStep (List (Str × Addr))))) = pure (closL env l acc) := by
    intro l
    induction l with
    | nil => intro acc _; rfl
    | cons a l ih =>
      intro acc hl
      obtain ⟨n, k⟩ := a
      rw [List.forIn_cons]
      unfold closL
      by_cases hk : (k == NameKind.free) = true
      · have hk' : k = NameKind.free := eq_of_beq hk
        subst hk'
        obtain ⟨c, hc⟩ := hl n List.mem_cons_self
        simp only [hk, if_true, cellOf, hc, pure_bind]
        exact ih _ fun m hm => hl m (List.mem_cons_of_mem _ hm)
      · simp only [hk, if_false, pure_bind, Bool.false_eq_true]
        exact ih _ fun m hm => hl m (List.mem_cons_of_mem _ hm)
  unfold closureFor
  show (forIn sc.names [] _ >>= pure) = _
  rw [bind_pure]
  exact go sc.names [] h
theorem closL_sub {env : Env} {x : Str} {c : Addr} : ∀ {l : List (Str × NameKind)} {acc : List (Str × Addr)}, (x, c) ∈ closL env l acc → (x, c) ∈ acc ∨ env.cells.lookup x = some c
  | [], acc, h => .inl h
  | (n, k) :: r, acc, h => by
    unfold closL at h
    split at h
    · split at h
      · rename_i c' hc
        rcases closL_sub h with z | z
        · rcases List.mem_cons.mp z with z | z
          · cases z; exact .inr hc
          · exact .inl z
        · exact .inr z
      · exact closL_sub h
    · exact closL_sub h
theorem closL_acc {env : Env} {x : Str} {c : Addr} : ∀ {l : List (Str × NameKind)} {acc : List (Str × Addr)}, acc.lookup x = some c → env.cells.lookup x = some c → (closL env l acc).lookup x = some c
  | [], acc, h, _ => h
  | (n, k) :: r, acc, h, he => by
    unfold closL
    split
    · split
      · rename_i c' hc
        refine closL_acc ?_ he
        rw [List.lookup_cons]
        cases hb : x == n with
        | true =>
          have := eq_of_beq hb
          subst this
          rw [he] at hc
          cases hc
          rfl
        | false => exact h
      · exact closL_acc h he
    · exact closL_acc h he
theorem closL_get {env : Env} {x : Str} {c : Addr} (he : env.cells.lookup x = some c) : ∀ {l : List (Str × NameKind)} {acc : List (Str × Addr)}, (x, NameKind.free) ∈ l → (closL env l acc).lookup x = some c
  | [], _, h => by cases h
  | (n, k) :: r, acc, h => by
    unfold closL
    rcases List.mem_cons.mp h with z | z
    · cases z
      rw [if_pos (by rfl), he]
      refine closL_acc ?_ he
      rw [List.lookup_cons]; simp
    · split
      · split
        · exact closL_get he z
        · exact closL_get he z
      · exact closL_get he z

/-! ### the table of a def's codes -/
abbrev codeExt (c : Addr) (q : Str) : HO := .ext fun h => h.CodeRec (.ref c) q
abbrev fnExt (g : Addr) (o : Obj) : HO := .ext fun h => h.get? g = some o
theorem codeExt_ok {P : Program} {w : World} {H : Hp} {h : Heap} {c : Addr} {q : Str} (x : h.CodeRec (.ref c) q) : ObjOk P w H h c (codeExt c q) := by
  refine ⟨x, ?_, fun h1 h2 y k => ?_⟩
  · obtain ⟨c', o, vs, t, e, g, _⟩ := x
    cases e
    exact ⟨o, g⟩
  · obtain ⟨c', o, vs, t, e, g, r⟩ := y
    cases e
    exact ⟨c, o, vs, t, rfl, k o g, r⟩
theorem fnExt_ok {P : Program} {w : World} {H : Hp} {h : Heap} {g : Addr} {o : Obj} (x : h.get? g = some o) : ObjOk P w H h g (fnExt g o) := ⟨x, ⟨o, x⟩, fun h1 h2 y k => k o y⟩

/-- the codes of the defs at the places qs, as far as they were made -/
def Tab (P : Addr) (qs : List (Pos × Str)) (H : Hp) : Prop :=
  ∃ ps, H P = some (.tbl ps) ∧ TriplesOk ps.toList ∧ ∀ q ∈ qs, codeAmong q.1 ps.toList = none ∨ ∃ c, codeAmong q.1 ps.toList = some (.ref c) ∧ H c = some (codeExt c q.2)
theorem Tab.new {P : Addr} {qs : List (Pos × Str)} {H : Hp} (h : H P = some (.tbl #[])) : Tab P qs H := ⟨#[], h, trivial, fun _ _ => .inl rfl⟩
theorem Tab.keep {P : Addr} {qs : List (Pos × Str)} {H H' : Hp} (t : Tab P qs H) (k : ∀ b o, H b = some o → H' b = some o) : Tab P qs H' := by
  obtain ⟨ps, a, b, c⟩ := t
  refine ⟨ps, k _ _ a, b, fun q hq => (c q hq).imp id fun ⟨d, e, f⟩ => ⟨d, e, k _ _ f⟩⟩

theorem Tab.keepW {P : Addr} {qs : List (Pos × Str)} {H H' : Hp} (t : Tab P qs H) (k : ∀ b o, (∀ xs, o ≠ .lst xs) → H b = some o → H' b = some o) : Tab P qs H' := by
  obtain ⟨ps, a, b, c⟩ := t
  refine ⟨ps, k _ _ (fun _ z => nomatch z) a, b, fun q hq => (c q hq).imp id fun ⟨d, e, f⟩ => ⟨d, e, k _ _ (fun _ z => nomatch z) f⟩⟩
theorem codeAmong_app {pos : Pos} {a b : Int} {c : Value} (l : List Value) (h : TriplesOk l) :
    codeAmong pos (l ++ [rawInt a, rawInt b, c]) = match codeAmong pos l with | some v => some v | none => if (a == pos.line && b == pos.col) = true then some c else none := by
  fun_induction TriplesOk l with
  | case1 => simp [codeAmong, rawInt]
  | case2 a' t b' u x rest ih =>
    simp only [List.cons_append, codeAmong]
    split
    · rfl
    · exact ih h
  | case3 l h1 h2 => exact h.elim

/-- a cell that no frame has any more -/
abbrev cellExt (c : Addr) (v : V) : HO := .ext fun h => ∃ u, RelV v u ∧ h.IsCell c (some u)
/-- a closure: the function, its code, and the cells that it alone has -/
structure Clo where
  g : Addr
  c : Addr
  obj : Obj
  qual : Str
  cs : List (Addr × V)
structure Made (P : Addr) (qs : List (Pos × Str)) (H H' : Hp) (d : Clo) : Prop where
  fn : H' d.g = some (fnExt d.g d.obj)
  cd : H' d.c = some (codeExt d.c d.qual)
  tab : Tab P qs H'
  new : H d.g = none
  ne : d.g ≠ d.c
  keep : ∀ b o, b ≠ P → H b = some o → H' b = some o
  only : ∀ b, H b = none → b ≠ d.g → b ≠ d.c → H' b = none

/-- def g(..): ..: a new function (and, at its first time, its code) -/
def tDef (P : Addr) (qs : List (Pos × Str)) (i : Nat) (mk : Clo → Prop) : TS := fun D σ H => Tab P qs H ∧ ∀ d H', Made P qs H H' d → mk d → D.nx (σ.set i (some (.ref d.g))) H'
/-- the def that runs has its code at c, its table at P -/
structure DefAt (X : Cx) (c P : Addr) : Prop where
  code : X.env.code = .ref c
  hd : PySem.W.CodeHd X.base c P
  bi : X.base.BuiltinsAt X.mg P

theorem BuiltinsAt.keeps' {h h' : Heap} {mg : Str → Option Value} {P : Addr} (x : h.BuiltinsAt mg P) (k : ∀ b o, h.get? b = some o → h'.get? b = some o) : h'.BuiltinsAt mg P :=
  let ⟨bm, o, a1, a2, a3, a4, a5, r⟩ := x; ⟨bm, o, a1, a2, a3, a4, k _ _ a5, r⟩

/-- the function that is made -/
def FnMade (X : Cx) (name : Str) (params : Arguments) (body : List Stmt) (scope : Scope) (d : Clo) : Prop :=
  ∃ doc ct, d.obj = PySem.W.fnMade name (qualnameIn X.env name name) params body scope (closL X.env scope.names []) doc ((X.mg "__name__").getD .none) d.c ct ∧ d.qual = qualnameIn X.env name name ∧ d.cs = []

section
variable {X : Cx} {c P : Addr} {name : Str} {params : Arguments} {body : List Stmt} {scope : Scope} {pos : Pos} {qs : List (Pos × Str)} {i : Nat}
theorem ps_def (T : DefAt X c P) (hcl : ∀ n, (n, NameKind.free) ∈ scope.names → ∃ c, X.env.cells.lookup n = some c) (hq : (pos, qualnameIn X.env name name) ∈ qs) (hqs : ∀ q ∈ qs, q.1.line = pos.line → q.1.col = pos.col → q.2 = qualnameIn X.env name name)
    (hN : X.N.Nodup) (hi : X.N[i]? = some name) (hx : Loc X.env.scope name) (hf : X.fn name = true ∨ X.env.scope.names.lookup name = some .local)
    (hd0 : params.defaults = []) (hk0 : params.kw_defaults = []) (ha : annTrees params none X.env = []) :
    PS X (.FunctionDef name params body [] none [] scope none name pos) (tDef P qs i (FnMade X name params body scope)) := by
  intro pins s σ H D I hw
  obtain ⟨tab, hw⟩ := hw
  obtain ⟨ps, hP, hT, hC⟩ := id tab
  have tk0 := I.tk
  have ePs : s.heap.get? P = some (PySem.W.tabObj ps) := I.hok P _ hP
  have hgs : s.heap.Ns mainGlobals X.mg := I.mod.glob.keeps I.bk
  have hgP : mainGlobals ≠ P := by
    obtain ⟨o, es, ep, e, _⟩ := I.mod.glob
    exact fun z => by have := (I.bs _ _ e).2; rw [z, hP] at this; cases this
  have hhd := T.hd.keeps I.bk
  have hbi := BuiltinsAt.keeps' T.bi I.bk
  have big : ∀ b o, H b = some o → b < s.heap.objs.size := fun b o e => I.hok.lt e
  refine PySem.W.nestDef_K hd0 hk0 ha ?_
  rcases hC _ hq with hnf | ⟨c0, hf0, hc0⟩
  · refine wpAny_with_toks (n := 1) tk0 ?_
    refine PySem.W.makeFunction_K (closureFor_of hcl) I.ok.glob hgs T.code hhd ePs hT hnf hgP hbi fun c' ctv doc h' tk hx' hge hlt hrec htb htk => ?_
    have hgt : s.heap.objs.size ≤ h'.objs.size := Nat.le_trans hge (Nat.le_of_lt hlt)
    have cP : c' ≠ P := Nat.ne_of_gt (Nat.lt_of_lt_of_le (big P _ hP) hge)
    have gP : h'.objs.size ≠ P := Nat.ne_of_gt (Nat.lt_of_lt_of_le (big P _ hP) hgt)
    have gc : h'.objs.size ≠ c' := Nat.ne_of_gt hlt
    have old : ∀ b o, H b = some o → b ≠ c' ∧ b ≠ h'.objs.size := fun b o e => ⟨Nat.ne_of_lt (Nat.lt_of_lt_of_le (big b o e) hge), Nat.ne_of_lt (Nat.lt_of_lt_of_le (big b o e) hgt)⟩
    have H'g : ∀ b, (upd (upd (upd H P (.tbl (ps ++ #[rawInt pos.line, rawInt pos.col, .ref c']))) c' (codeExt c' (qualnameIn X.env name name))) h'.objs.size
      (fnExt h'.objs.size (PySem.W.fnMade name (qualnameIn X.env name name) params body scope (closL X.env scope.names []) doc ((X.mg "__name__").getD .none) c' ctv))) b =
      if b = h'.objs.size then some (fnExt h'.objs.size (PySem.W.fnMade name (qualnameIn X.env name name) params body scope (closL X.env scope.names []) doc ((X.mg "__name__").getD .none) c' ctv)) else
      if b = c' then some (codeExt c' (qualnameIn X.env name name)) else if b = P then some (.tbl (ps ++ #[rawInt pos.line, rawInt pos.col, .ref c'])) else H b := fun b => rfl
    generalize (upd (upd (upd H P (.tbl (ps ++ #[rawInt pos.line, rawInt pos.col, .ref c']))) c' (codeExt c' (qualnameIn X.env name name))) h'.objs.size
      (fnExt h'.objs.size (PySem.W.fnMade name (qualnameIn X.env name name) params body scope (closL X.env scope.names []) doc ((X.mg "__name__").getD .none) c' ctv))) = H' at H'g
    have kp : ∀ b o, b ≠ P → H b = some o → H' b = some o := fun b o nP e => by
      rw [H'g, if_neg (old b o e).2, if_neg (old b o e).1, if_neg nP]; exact e
    have none' : ∀ b, H b = none → b ≠ h'.objs.size → b ≠ c' → H' b = none := fun b e n1 n2 => by
      rw [H'g, if_neg n1, if_neg n2, if_neg (fun z => by rw [z, hP] at e; cases e)]; exact e
    have kH : ∀ b o, b ≠ P → s.heap.get? b = some o → (h'.push (PySem.W.fnMade name (qualnameIn X.env name name) params body scope (closL X.env scope.names []) doc ((X.mg "__name__").getD .none) c' ctv)).get? b = some o :=
      fun b o nP e => Heap.get?_push_of_some _ (hx' b o nP e)
    have nP' : ∀ b, H b = none → b ≠ P := fun b e z => by rw [z, hP] at e; cases e
    have J : Inv X pins σ H' { s with heap := h'.push (PySem.W.fnMade name (qualnameIn X.env name name) params body scope (closL X.env scope.names []) doc ((X.mg "__name__").getD .none) c' ctv), toks := tk } := by
      refine I.un ⟨fun b o e n _ _ => kH b o (nP' b n) e, fun b o e n _ _ => ⟨o.slots, kH b o (nP' b n) e⟩, fun b o e n _ => ?_, fun b o e _ => ?_, fun b xs e => ?_, fun b o u e => ?_, fun b qs' e => ?_⟩ (fun b o e => ?_) htk
      · have := Heap.lt_size e
        exact none' b n (Nat.ne_of_lt (Nat.lt_of_lt_of_le this hgt)) (Nat.ne_of_lt (Nat.lt_of_lt_of_le this hge))
      · by_cases z : b = P
        · subst z; exact ⟨_, Heap.get?_push_of_some _ htb⟩
        · exact ⟨o, kH b o z e⟩
      · exact kp b _ (fun z => by rw [z, hP] at e; cases e) e
      · exact kp b _ (fun z => by rw [z, hP] at e; cases e) e
      · by_cases z : b = P
        · subst z
          rw [hP] at e; cases e
          exact ⟨#[rawInt pos.line, rawInt pos.col, .ref c'], by rw [H'g, if_neg gP.symm, if_neg cP.symm, if_pos rfl]⟩
        · exact ⟨#[], by rw [kp b _ z e]; simp⟩
      · rw [H'g] at e
        split at e
        · rename_i z; cases e; subst z
          exact fnExt_ok (Heap.get?_push_size _ rfl)
        · split at e
          · rename_i z; cases e; subst z
            exact codeExt_ok (hrec.push _)
          · split at e
            · rename_i z; cases e; subst z
              exact Heap.get?_push_of_some _ htb
            · rename_i z
              refine (I.hok b o e).stay (fun d u hd q => kH d u ?_ q) (fun d q => kp d _ (fun z => by rw [z, hP] at q; cases q) q) fun d xs q => kp d _ (fun z => by rw [z, hP] at q; cases q) q
              rcases hd with hd | hd
              · rw [hd]; exact z
              · exact fun z => by rw [z, hP] at hd; cases hd
    refine store_ok J hN hi hx (v := .ref h'.objs.size) rfl (fun s2 J2 => ?_) hf
    refine ⟨_, H', J2, hw ⟨h'.objs.size, c', PySem.W.fnMade name (qualnameIn X.env name name) params body scope (closL X.env scope.names []) doc ((X.mg "__name__").getD .none) c' ctv, qualnameIn X.env name name, []⟩ H' ⟨?_, ?_, ⟨ps ++ #[rawInt pos.line, rawInt pos.col, .ref c'], ?_, ?_, fun q hq' => ?_⟩, I.hok.fresh hgt, gc, kp, none'⟩ ⟨doc, ctv, rfl, rfl, rfl⟩⟩
    · rw [H'g, if_pos rfl]
    · rw [H'g, if_neg gc.symm, if_pos rfl]
    · rw [H'g, if_neg gP.symm, if_neg cP.symm, if_pos rfl]
    · rw [Array.toList_append]
      exact TriplesOk_snoc _ _ _ _ hT
    · rw [show (ps ++ #[rawInt pos.line, rawInt pos.col, .ref c']).toList = ps.toList ++ [rawInt pos.line, rawInt pos.col, .ref c'] from Array.toList_append]
      rw [codeAmong_app _ hT]
      rcases hC q hq' with z | ⟨d, z, zd⟩
      · rw [z]
        by_cases hb : ((pos.line : Int) == (q.1.line : Int) && (pos.col : Int) == (q.1.col : Int)) = true
        · refine .inr ⟨c', by simp only [hb, if_true], ?_⟩
          rw [Bool.and_eq_true, beq_iff_eq, beq_iff_eq] at hb
          rw [hqs q hq' (by omega) (by omega), H'g, if_neg gc.symm, if_pos rfl]
        · exact .inl (by simp only [hb, if_false, Bool.false_eq_true])
      · rw [z]
        exact .inr ⟨d, rfl, kp d _ (fun y => by rw [y, hP] at zd; cases zd) zd⟩
  · refine wpAny_with_toks (n := 1) tk0 ?_
    refine PySem.W.makeFunction_hit (closureFor_of hcl) I.ok.glob hgs T.code hhd ePs hT hf0 hbi fun ctv doc h' tk hk hsz htk => ?_
    have J := I.laid (a := h'.objs.size) (o := fnExt h'.objs.size (PySem.W.fnMade name (qualnameIn X.env name name) params body scope (closL X.env scope.names []) doc ((X.mg "__name__").getD .none) c0 ctv))
      (t' := tk) (h' := h'.push (PySem.W.fnMade name (qualnameIn X.env name name) params body scope (closL X.env scope.names []) doc ((X.mg "__name__").getD .none) c0 ctv))
      (fun b u e => Heap.get?_push_of_some _ (hk b u e)) hsz (fnExt_ok (Heap.get?_push_size _ rfl)) htk
    have fr : H h'.objs.size = none := I.hok.fresh hsz
    have kp : ∀ b o, H b = some o → upd H h'.objs.size (fnExt h'.objs.size (PySem.W.fnMade name (qualnameIn X.env name name) params body scope (closL X.env scope.names []) doc ((X.mg "__name__").getD .none) c0 ctv)) b = some o := fun b o e => by
      rw [upd_ne (ne_of_none e fr)]; exact e
    refine store_ok J hN hi hx (v := .ref h'.objs.size) rfl (fun s2 J2 => ?_) hf
    exact ⟨_, _, J2, hw ⟨h'.objs.size, c0, PySem.W.fnMade name (qualnameIn X.env name name) params body scope (closL X.env scope.names []) doc ((X.mg "__name__").getD .none) c0 ctv, qualnameIn X.env name name, []⟩ _ ⟨upd_same, kp _ _ hc0, tab.keep kp, fr, (ne_of_none hc0 fr).symm, fun b o _ e => kp b o e, fun b e n1 _ => by rw [upd_ne n1]; exact e⟩ ⟨doc, ctv, rfl, rfl, rfl⟩⟩
end
end L2

set_option Elab.async false
set_option linter.all false
set_option maxRecDepth 100000
/-! A call with closures: the callee's base holds them. A call of a closure. -/
namespace L2
open PySem PySem.Spec PyProof.Rows

def adrs (D : List Clo) : List Addr := D.flatMap fun d => d.g :: d.c :: d.cs.map (·.1)
theorem mem_adrs {D : List Clo} {b : Addr} : b ∈ adrs D ↔ ∃ d ∈ D, b = d.g ∨ b = d.c ∨ b ∈ d.cs.map (·.1) := by
  unfold adrs
  rw [List.mem_flatMap]
  constructor
  · rintro ⟨d, hd, hb⟩; exact ⟨d, hd, by simpa using hb⟩
  · rintro ⟨d, hd, hb⟩; exact ⟨d, hd, by simpa using hb⟩
/-- the heap without the closures, and with them again -/
def drop (H : Hp) (D : List Clo) : Hp := fun b => if b ∈ adrs D then none else H b
def back (H : Hp) (D : List Clo) (H2 : Hp) : Hp := fun b => if b ∈ adrs D then H b else H2 b
theorem drop_ne {H : Hp} {D : List Clo} {b : Addr} (h : b ∉ adrs D) : drop H D b = H b := if_neg h
theorem back_ne {H H2 : Hp} {D : List Clo} {b : Addr} (h : b ∉ adrs D) : back H D H2 b = H2 b := if_neg h
theorem drop_in {H : Hp} {D : List Clo} {b : Addr} (h : b ∈ adrs D) : drop H D b = none := if_pos h
theorem back_in {H H2 : Hp} {D : List Clo} {b : Addr} (h : b ∈ adrs D) : back H D H2 b = H b := if_pos h
def CloOk (H : Hp) (d : Clo) : Prop := H d.g = some (fnExt d.g d.obj) ∧ H d.c = some (codeExt d.c d.qual) ∧ ∀ q ∈ d.cs, H q.1 = some (cellExt q.1 q.2)
theorem clo_ext {H : Hp} {D : List Clo} (h : ∀ d ∈ D, CloOk H d) {b : Addr} (hb : b ∈ adrs D) : ∃ φ, H b = some (.ext φ) := by
  obtain ⟨d, hd, e⟩ := mem_adrs.mp hb
  rcases e with e | e | e
  · exact ⟨_, e ▸ (h d hd).1⟩
  · exact ⟨_, e ▸ (h d hd).2.1⟩
  · obtain ⟨q, hq, rfl⟩ := List.mem_map.mp e
    exact ⟨_, (h d hd).2.2 q hq⟩
/-- what is no function and no code stays -/
theorem clo_out {H : Hp} {D : List Clo} (h : ∀ d ∈ D, CloOk H d) {b : Addr} {o : HO} (e : H b = some o) (ho : ∀ φ, o ≠ .ext φ) : b ∉ adrs D := fun z => by
  obtain ⟨φ, q⟩ := clo_ext h z
  rw [e] at q; cases q; exact ho φ rfl

structure BaseX (X : Cx) (σ : St) (D : List Clo) (base : Heap) : Prop where
  kin : X.K.In base
  glob : base.Ns mainGlobals X.mg
  old : ∀ b o, X.base.get? b = some o → base.get? b = some o
  fn : ∀ d ∈ D, base.get? d.g = some d.obj
  cd : ∀ d ∈ D, base.CodeRec (.ref d.c) d.qual
  cs : ∀ d ∈ D, ∀ q ∈ d.cs, ∃ u, RelV q.2 u ∧ base.IsCell q.1 (some u)
  cell : ∀ x c, X.env.cells.lookup x = some c → ∃ v, base.IsCell c v
  inj : ∀ x y c, X.env.cells.lookup x = some c → X.env.cells.lookup y = some c → x = y
  val : ∀ (i : Nat) x v, X.N[i]? = some x → σ[i]? = some (some v) → (X.env.kindOf x = some .cell ∨ X.env.kindOf x = some .free) → ∃ u c, RelV v u ∧ X.env.cells.lookup x = some c ∧ base.IsCell c (some u)
/-- the cells of a closure that X makes -/
theorem BaseX.cells {X : Cx} {σ : St} {D : List Clo} {base : Heap} (B : BaseX X σ D base) {sc : Scope} {fr : List Str} {fvs : List V} (hcl : ∀ n, (n, NameKind.free) ∈ sc.names → ∃ c, X.env.cells.lookup n = some c) (hl : fvs.length = fr.length)
    (hv : ∀ (i : Nat) x v, fr[i]? = some x → fvs[i]? = some v → sc.names.lookup x = some .free ∧ (X.env.kindOf x = some .cell ∨ X.env.kindOf x = some .free) ∧ ∃ j : Nat, X.N[j]? = some x ∧ σ[j]? = some (some v)) :
    CloCells base (closL X.env sc.names []) sc fr fvs := by
  have sub : ∀ x c, (closL X.env sc.names []).lookup x = some c → X.env.cells.lookup x = some c := fun x c e => by
    rcases closL_sub (PySem.mem_of_lookup e) with z | z
    · cases z
    · exact z
  refine ⟨fun x c e => B.cell x c (sub x c e), fun x y c e1 e2 => B.inj x y c (sub x c e1) (sub y c e2), fun x hx => ?_, hl, fun i x v e1 e2 => ?_⟩
  · obtain ⟨c, hc⟩ := hcl x (PySem.mem_of_lookup hx)
    exact ⟨c, closL_get hc (PySem.mem_of_lookup hx)⟩
  · obtain ⟨h1, h2, j, h3, h4⟩ := hv i x v e1 e2
    obtain ⟨u, c, r, hc, z⟩ := B.val j x v h3 h4 h2
    exact ⟨h1, u, c, r, closL_get hc (PySem.mem_of_lookup h1), z⟩

section
variable {X : Cx} {pins : List (Addr × Obj)} {σ : St} {H : Hp} {s : Shared} {D : List Clo}
def InX (X : Cx) (D : List Clo) (b : Addr) : Prop := X.base.get? b ≠ none ∨ b ∈ adrs D ∨ ∃ x, X.env.cells.lookup x = some b
noncomputable def hidX (X : Cx) (D : List Clo) (n : Nat) : List Addr := (List.range n).filter fun b => @decide (¬ InX X D b) (Classical.propDecidable _)
theorem mem_hidX {n : Nat} {b : Addr} : b ∈ hidX X D n ↔ b < n ∧ ¬ InX X D b := by
  unfold hidX
  rw [List.mem_filter, List.mem_range]
  exact and_congr Iff.rfl (@decide_eq_true_iff _ (Classical.propDecidable _))
/-- the base with the frame's cells and the closures -/
noncomputable def baseX (X : Cx) (D : List Clo) (h : Heap) : Heap := PySem.W.hideAll h (hidX X D h.objs.size)
theorem baseX_get {h : Heap} {b : Addr} {o : Obj} (e : h.get? b = some o) (p : InX X D b) : (baseX X D h).get? b = some o :=
  PySem.W.hideAll_get _ e fun z => (mem_hidX.mp z).2 p
theorem of_baseX {h : Heap} {b : Addr} {o : Obj} (e : (baseX X D h).get? b = some o) : h.get? b = some o ∧ InX X D b := by
  have e1 := PySem.W.of_hideAll _ e
  refine ⟨e1, Classical.byContradiction fun n => ?_⟩
  have := PySem.W.hideAll_none (h := h) _ (mem_hidX.mpr ⟨Heap.lt_size e1, n⟩)
  unfold baseX at e
  rw [this] at e; cases e
theorem Inv.baseX_ok (I : Inv X pins σ H s) (hD : ∀ d ∈ D, CloOk H d) : BaseX X σ D (baseX X D s.heap) := by
  have old : ∀ b o, X.base.get? b = some o → (baseX X D s.heap).get? b = some o := fun b o e => baseX_get (I.bk b o e) (.inl (by rw [e]; simp))
  have cellK : ∀ x c v, X.env.cells.lookup x = some c → s.heap.IsCell c v → (baseX X D s.heap).IsCell c v := fun x c v e ⟨o, z, r⟩ => ⟨o, baseX_get z (.inr (.inr ⟨x, e⟩)), r⟩
  refine ⟨I.mod.kin.keeps old, I.mod.glob.keeps old, old, fun d hd => ?_, fun d hd => ?_, fun d hd q hq => ?_, fun x c e => ?_, I.ok.inj, fun i x v h1 h2 h3 => ?_⟩
  · obtain ⟨z, _⟩ := I.hok d.g _ (hD d hd).1
    exact baseX_get z (.inr (.inl (mem_adrs.mpr ⟨d, hd, .inl rfl⟩)))
  · obtain ⟨⟨c, o, vs, t, e, z, r⟩, _⟩ := I.hok d.c _ (hD d hd).2.1
    have e' : d.c = c := by cases e; rfl
    exact ⟨c, o, vs, t, e, baseX_get z (.inr (.inl (mem_adrs.mpr ⟨d, hd, .inr (.inl e'.symm)⟩))), r⟩
  · obtain ⟨⟨u, r, o, z, r2⟩, _⟩ := I.hok q.1 _ ((hD d hd).2.2 q hq)
    exact ⟨u, r, o, baseX_get z (.inr (.inl (mem_adrs.mpr ⟨d, hd, .inr (.inr (List.mem_map_of_mem hq))⟩))), r2⟩
  · obtain ⟨v, z⟩ := I.cell x c e
    exact ⟨v, cellK x c v e z⟩
  · obtain ⟨m, hn, hl⟩ := I.loc
    obtain ⟨u, r, l⟩ := hl i x v h1 h2 (by rcases h3 with z | z; exact .inr (.inl z); exact .inr (.inr z))
    rcases l with ⟨k, _⟩ | ⟨_, c, e, z⟩
    · rcases h3 with z | z <;> (rw [z] at k; cases k)
    · exact ⟨u, c, r, e, cellK x c _ e z⟩

theorem Inv.env0X (I : Inv X pins σ H s) (hfn : ∀ x, X.fn x = true) (hD : ∀ d ∈ D, CloOk H d) : Env0 X.prog X.w X.K X.mg (baseX X D s.heap) X.A X.stack s (drop H D) := by
  have B := I.baseX_ok hD
  have dn : ∀ b, H b = none → drop H D b = none := fun b e => by unfold drop; split; rfl; exact e
  have frN : ∀ b ∈ frs X.stack, (baseX X D s.heap).get? b = none := fun b hb => by
    cases q : (baseX X D s.heap).get? b with
    | none => rfl
    | some o =>
      obtain ⟨e, p⟩ := of_baseX q
      rcases p with p | p | ⟨x, p⟩
      · exact absurd (I.stack.mem hb).1 p
      · obtain ⟨φ, z⟩ := clo_ext hD p
        rw [I.stkFree b hb] at z; cases z
      · rcases List.mem_cons.mp (I.stkSub b hb) with z | z
        · exact absurd z (I.cne x b p)
        · obtain ⟨_, o', ho', _⟩ := I.ok.funs.mem z
          exact absurd (Heap.lt_size ho') (Nat.not_lt.mpr (I.ok.cab x b (hfn x) p))
  have fun' : ∀ l : List Env, (∀ b ∈ frs l, b ∈ frs X.stack) → s.heap.FunFrames X.base l → s.heap.FunFrames (baseX X D s.heap) l := by
    intro l
    induction l with
    | nil => intro _ _; trivial
    | cons env r ih =>
      intro hs hl
      obtain ⟨hk, ⟨L, o, hf, hn, ho, hd⟩, hr⟩ := hl
      have hL : L ∈ frs X.stack := hs L (by unfold frs; rw [List.filterMap_cons, hf]; exact List.mem_cons_self)
      exact ⟨hk, ⟨L, o, hf, frN L hL, ho, hd⟩, ih (fun b hb => hs b (by unfold frs; rw [List.filterMap_cons, hf]; exact List.mem_cons_of_mem _ hb)) hr⟩
  refine ⟨I.ok.frames, ⟨B.kin, B.glob, ?_, I.mod.nolimit.keeps B.old⟩, fun b o e => ?_, Nat.le_of_eq (PySem.W.hideAll_size _ _), fun' X.stack (fun _ h => h) I.stack, fun b hb => dn b (I.stkFree b hb), fun b o e => ?_, I.bare, I.tk⟩
  · obtain ⟨mb, h1, h2⟩ := I.mod.blt
    exact ⟨mb, h1.keeps B.old, h2⟩
  · obtain ⟨e1, p⟩ := of_baseX e
    refine ⟨e1, ?_⟩
    rcases p with p | p | ⟨x, p⟩
    · cases q : X.base.get? b with
      | none => exact absurd q p
      | some o' => exact dn b (I.bs b o' q).2
    · exact drop_in p
    · exact dn b (I.freeC x b p)
  · by_cases hb : b ∈ adrs D
    · rw [drop_in hb] at e; cases e
    · rw [drop_ne hb] at e
      refine (I.hok b o e).stay (fun _ _ _ q => q) (fun c q => ?_) fun c xs q => ?_
      · rw [drop_ne (clo_out hD q fun φ z => by cases z)]; exact q
      · rw [drop_ne (clo_out hD q fun φ z => by cases z)]; exact q

theorem Inv.afterX {Q : VK} {u : Value} {s' : Shared} (I : Inv X pins σ H s) (hD : ∀ d ∈ D, CloOk H d) (h : CE X.stack X.prog X.w (drop H D) s (fun v H2 => (∀ b ∈ adrs D, H2 b = none) → Q v (back H D H2)) u s') : EP X pins σ Q u s' := by
  obtain ⟨v, H2, os, bare, un, hok, tk', r, q⟩ := h
  have dn : ∀ b, H b = none → drop H D b = none := fun b e => by unfold drop; split; rfl; exact e
  have inD : ∀ b, b ∈ adrs D → H2 b = none := fun b hb => by
    obtain ⟨φ, z⟩ := clo_ext hD hb
    obtain ⟨_, ⟨o, e⟩, _⟩ := I.hok b _ z
    exact un.free b o e (drop_in hb) (by simp)
  refine I.after ⟨v, back H D H2, os, bare, ⟨fun b o e n => un.keep b o e (dn b n), fun b o e n => un.slot b o e (dn b n), fun b o e n hx => ?_, un.there, fun b xs e => ?_, fun b o u e => ?_, fun b ps e => ?_⟩, fun b o e => ?_, tk', r, q inD⟩
  · by_cases hb : b ∈ adrs D
    · rw [back_in hb]; exact n
    · rw [back_ne hb]; exact un.free b o e (dn b n) hx
  · have hb := clo_out hD e fun φ z => by cases z
    rw [back_ne hb]; exact un.tups b xs (by rw [drop_ne hb]; exact e)
  · have hb := clo_out hD e fun φ z => by cases z
    rw [back_ne hb]; exact un.frzs b o u (by rw [drop_ne hb]; exact e)
  · have hb := clo_out hD e fun φ z => by cases z
    obtain ⟨more, z⟩ := un.tbls b ps (by rw [drop_ne hb]; exact e)
    exact ⟨more, by rw [back_ne hb]; exact z⟩
  · by_cases hb : b ∈ adrs D
    · rw [back_in hb] at e
      obtain ⟨φ, z⟩ := clo_ext hD hb
      rw [e] at z; cases z
      obtain ⟨p, ⟨ob, eo⟩, st⟩ := I.hok b _ e
      have nf : b ∉ frs X.stack := fun z => by rw [I.stkFree b z] at e; cases e
      have k : ∀ o, s.heap.get? b = some o → s'.heap.get? b = some o := fun o e => un.keep b o e (drop_in hb) nf (by simp)
      exact ⟨st _ _ p k, ⟨ob, k ob eo⟩, st⟩
    · rw [back_ne hb] at e
      refine (hok b o e).stay (fun _ _ _ q => q) (fun c q => ?_) fun c xs q => ?_
      · rw [back_ne fun z => by rw [inD c z] at q; cases q]; exact q
      · rw [back_ne fun z => by rw [inD c z] at q; cases q]; exact q
end

/-- f(..), the closures D handed on: f's promise at the base that holds them -/
def tCallX (X : Cx) (k : Nat) (x : Str) (ps : List Str) (t : TA) : TE := fun σ H Q => t σ H fun vs H1 => ∃ D sp, (∀ d ∈ D, CloOk H1 d) ∧ (∀ base, BaseX X σ D base → Def X.prog X.w X.K X.mg base k x ps sp) ∧
  sp vs (drop H1 D) (fun v H2 => (∀ b ∈ adrs D, H2 b = none) → Q v (back H1 D H2)) E0
section
variable {X : Cx} {k i : Nat} {x : Str} {ps : List Str} {sp : Sp} {e : Expr} {es : List Expr} {te : TE} {t : TA} {p pos : Pos}
theorem pe_callX (hm : ∃ f, X.mg x = some (.ref f) ∧ PySem.W.keepIn X.K (.ref f) = true) (hfn : ∀ x, X.fn x = true) (hr : Room k X.A) (ha : PA X (e :: es) t) (hg : Gl X x := by exact rfl) (hdb : (x == ("__debug__" : Str)) = false := by decide)
    (he : starEach (e :: es) X.env = (false, eval e X.env) :: starEach es X.env := by rfl) (hpl : (backTo pos (starEach es X.env)).any (·.1) = false := by rfl) :
    PE X (.Call (.Name x p) (e :: es) [] pos) (tCallX X k x ps t) := by
  obtain ⟨f, hmf, hk⟩ := hm
  intro pins s σ H Q I h
  refine wpAny_Call_Name_kw (ld_glob I hg hmf ?_ hdb)
  refine PySem.W.callWith_K (h₀ := X.base) I.ok.mod.kin hk (thn (ha pos pins s σ H _ I h) fun us s1 ⟨vs, H1, I1, r, D, sp, hD, hF, q⟩ => ⟨I1.kIn, ?_⟩) he hpl
  obtain ⟨f', fd, F, hm', _, hb⟩ := (hF _ (I1.baseX_ok hD)).ex
  have e' := hmf.symm.trans hm'
  cases e'
  have hl : (us ++ []).length = ps.length := by rw [List.append_nil, ← r.length]; exact F.len _ _ _ _ q
  show wpAny _ _ (call (.ref f) us) _ _ s1
  refine wpAny_call (codeAny_mono (F.run X.A X.stack s1 (drop H1 D) ⟨us, []⟩ us vs (fun v H2 => (∀ b ∈ adrs D, H2 b = none) → Q v (back H1 D H2)) E0 hr (I1.env0X hfn hD) (by have := hb s1 us I1.kIn hl; rwa [List.append_nil] at this) r q) fun r s' hq => ?_)
  cases r with
  | error e => exact False.elim hq
  | ok fl =>
    cases fl with
    | ret u => exact I1.afterX hD hq
    | next => exact False.elim hq
    | brk => exact False.elim hq
    | cont => exact False.elim hq

/-- a function that stands in the base, as a value -/
structure FnV (P : Program) (w : World) (K : PySem.W.Frag) (mg : Str → Option Value) (base : Heap) (k : Nat) (g : Addr) (ps : List Str) (sp : Sp) : Prop where
  ex : ∃ fd, FnOk P w K mg base CX0 k g fd ps sp ∧ Binds K fd ps [] ∧ PySem.W.FnAt g base
theorem FnV.mono {P : Program} {w : World} {K : PySem.W.Frag} {mg : Str → Option Value} {base : Heap} {j k : Nat} {g : Addr} {ps : List Str} {sp : Sp} (V : FnV P w K mg base j g ps sp) (h : j ≤ k) : FnV P w K mg base k g ps sp := let ⟨fd, F, r⟩ := V.ex; ⟨fd, F.mono h, r⟩
/-- x(..), x a name of the def that holds a function -/
def tCallV (X : Cx) (k i : Nat) (t : TA) : TE := fun σ H Q => ∃ g ps sp, σ[i]? = some (some (.ref g)) ∧ FnV X.prog X.w X.K X.mg X.base k g ps sp ∧ t σ H fun vs H1 => sp vs H1 Q E0
theorem FnAt.keeps' {h h' : Heap} {q : Addr} (x : PySem.W.FnAt q h) (k : ∀ b o, h.get? b = some o → h'.get? b = some o) : PySem.W.FnAt q h' := let ⟨a, b, c, d, e⟩ := x; ⟨a, b, c, d, k _ _ e⟩
theorem pe_callV (hN : X.N[i]? = some x) (hv : Vis X.env.scope x) (hr : Room k X.A) (ha : PA X (e :: es) t) (hd : (x == ("__debug__" : Str)) = false := by decide) (hcd : (x == ("__classdict__" : Str)) = false := by decide)
    (he : starEach (e :: es) X.env = (false, eval e X.env) :: starEach es X.env := by rfl) (hpl : (backTo pos (starEach es X.env)).any (·.1) = false := by rfl) :
    PE X (.Call (.Name x p) (e :: es) [] pos) (tCallV X k i t) := by
  intro pins s σ H Q I h
  obtain ⟨g, ps, sp, hg, V, h⟩ := h
  obtain ⟨fd, F, hb, hat⟩ := V.ex
  refine wpAny_Call_Name_kw (thn (pe_var hN hv hd hcd pins s σ H (fun v H' => v = .ref g ∧ H' = H) I ⟨_, hg, rfl, rfl⟩) fun u s1 ⟨v, H', I1, r, hv', hH⟩ => ?_)
  subst hv'; subst hH
  obtain rfl : u = Value.ref g := r
  refine PySem.W.callWith_F (FnAt.keeps' hat I1.bk) (thn (ha pos pins s1 σ _ _ I1 h) fun us s2 ⟨vs, H2, I2, r2, q⟩ => ⟨FnAt.keeps' hat I2.bk, ?_⟩) he hpl
  exact run_fn (ds := []) (dvs := []) F hr hb .nil pass0 I2 r2 (by rw [List.append_nil]; exact q)
end
end L2

set_option Elab.async false
set_option linter.all false
set_option maxRecDepth 100000
/-! The head with tables of codes; a def that has defs within it. -/
namespace L2
open PySem PySem.Spec PyProof.Rows

section
variable {P : Program} {w : World} {K : PySem.W.Frag} {mg : Str → Option Value} {base : Heap}
/-- a def whose code stands at c -/
theorem Fun.okT {x qual : Str} {st : Stmt} {f c : Addr} {fd : FuncData} {N ps : List Str} {k : Nat} {sp : Sp} (F : Fun K x qual st f fd) (hc : fd.code = .ref c) (S : FnScope N ps (defScope st)) (len : ∀ vs H Q E, sp vs H Q E → vs.length = ps.length)
    (hbody : ∀ (A : Around) (outer : List Env) (s : Shared) (H : Hp) (vs : List V) (Q : VK) (E : XK), Room k (A.deeper (envOfC qual (defScope st) s.heap.objs.size f (.ref c))) → sp vs H Q E →
      ∃ t, PSs (cxOf CX0 P w K mg base N qual (defScope st) f (.ref c) A outer s H E).nox (defBody st) t ∧ t { nx := fun _ H' => Q .non H', rt := Q } (start N vs) H) : FnOk P w K mg base CX0 (k + 1) f fd ps sp := by
  obtain ⟨oc, od, kV, doc, pm, an, cdv, ct, osl, rfl, lk, hcd⟩ := F.ex
  obtain rfl : cdv = .ref c := hc
  refine fn_of lk hcd S len fun A outer s H vs Q E hr hsp => ?_
  obtain ⟨t, h, q⟩ := hbody A outer s H vs Q E hr hsp
  exact ⟨t, h.nox, q⟩
/-- a closure of the base, no exception leaving -/
theorem fn_ofC0 {k : Nat} {f : Addr} {name qual : Str} {params : Arguments} {body : List Stmt} {scope : Scope} {cl : List (Str × Addr)} {doc pm ct : Value} {c' : Addr}
    {N ps fr : List Str} {fvs : List V} {sp : Sp} (lk : base.get? f = some (PySem.W.fnMade name qual params body scope cl doc pm c' ct)) (hcd : base.CodeRec (.ref c') qual) (S : CloScope N ps fr scope) (C : CloCells base cl scope fr fvs)
    (len : ∀ vs H Q E, sp vs H Q E → vs.length = ps.length)
    (hb : ∀ us : List Value, us.length = ps.length → bindArgs (PySem.W.fnX name qual params body scope cl .none .none doc pm none (.ref c') ct) ⟨us, []⟩ = pure (ps.zip us))
    (hbody : ∀ (A : Around) (outer : List Env) (s : Shared) (H : Hp) (vs : List V) (Q : VK) (E : XK), Room k (A.deeper (PySem.W.envX qual scope s.heap.objs.size f (.ref c') cl)) → sp vs H Q E →
      ∃ t, PSs (cxC CX0 P w K mg base N qual scope f (.ref c') cl A outer s H E).nox body t ∧ t { nx := fun _ H' => Q .non H', rt := Q } (start N (vs ++ fvs)) H) :
    FnV P w K mg base (k + 1) f ps sp := by
  refine ⟨_, fn_ofC lk hcd S C len fun A outer s H vs Q E hr hsp => ?_, .all hb, ⟨_, _, _, _, lk⟩⟩
  obtain ⟨t, h, q⟩ := hbody A outer s H vs Q E hr hsp
  exact ⟨t, h.nox, q⟩
end

/-! ### the fragment without the tables -/
def dropK (K : PySem.W.Frag) (Ps : List Addr) : PySem.W.Frag := K.filter fun p => !Ps.contains p.1
theorem dropK_lookup {Ps : List Addr} {a : Addr} : ∀ {K : PySem.W.Frag}, (dropK K Ps).lookup a = if Ps.contains a = true then none else K.lookup a
  | [] => by
    show (none : Option Obj) = _
    split <;> rfl
  | (b, o) :: K => by
    have ih := dropK_lookup (Ps := Ps) (a := a) (K := K)
    unfold dropK at ih ⊢
    by_cases hb : Ps.contains b = true
    · rw [List.filter_cons_of_neg (by simp only [hb]; decide), ih, List.lookup_cons]
      cases hab : a == b with
      | true =>
        have := eq_of_beq hab
        subst this
        rw [if_pos hb, if_pos hb]
      | false => rfl
    · rw [List.filter_cons_of_pos (by simp only [hb]; decide), List.lookup_cons, List.lookup_cons]
      cases hab : a == b with
      | true =>
        have := eq_of_beq hab
        subst this
        rw [if_neg hb]
      | false => exact ih
theorem dropK_in {K : PySem.W.Frag} {Ps : List Addr} {h : Heap} (X : K.In h) : (dropK K Ps).In h := fun a o e => by
  rw [dropK_lookup] at e
  split at e
  · cases e
  · exact X a o e
theorem dropK_not {K : PySem.W.Frag} {tabs : List (Addr × Addr)} : ∀ b o, (dropK K (tabs.map (·.2))).lookup b = some o → ∀ q ∈ tabs, q.2 ≠ b := fun b o e q hq z => by
  rw [dropK_lookup, if_pos (by rw [List.contains_iff_mem, ← z]; exact List.mem_map_of_mem hq)] at e
  cases e
/-- what stands at the places left out is an empty table -/
def Tabs0 (K : PySem.W.Frag) (Ps : List Addr) : Prop := ∀ a o, a ∈ Ps → K.lookup a = some o → o = PySem.W.tabObj #[]
theorem tabs0_of {K : PySem.W.Frag} {tabs : List (Addr × Addr)} {h : Heap} (X : K.In h) (hT : PySem.W.TabsAt tabs h) : Tabs0 K (tabs.map (·.2)) := fun a o ha e => by
  obtain ⟨q, hq, rfl⟩ := List.mem_map.mp ha
  have := (hT q hq).2
  rw [X _ _ e] at this
  exact Option.some.inj this
theorem dropK_other {K : PySem.W.Frag} {Ps : List Addr} {a : Addr} {o : Obj} (h : Tabs0 K Ps) (e : K.lookup a = some o) (ho : o ≠ PySem.W.tabObj #[]) : (dropK K Ps).lookup a = some o := by
  rw [dropK_lookup, if_neg (fun z => ho (h a o (List.contains_iff_mem.mp z) e))]
  exact e
theorem nsIn_drop {K : PySem.W.Frag} {Ps : List Addr} (h : Tabs0 K Ps) (a : Addr) (x : Str) : PySem.W.nsIn (dropK K Ps) a x = PySem.W.nsIn K a x := by
  unfold PySem.W.nsIn
  rw [dropK_lookup]
  by_cases hb : Ps.contains a = true
  · rw [if_pos hb]
    cases e : K.lookup a with
    | none => rfl
    | some o => rw [h a o (List.contains_iff_mem.mp hb) e]
  · rw [if_neg hb]
theorem codeIn_drop {K : PySem.W.Frag} {Ps : List Addr} (h : Tabs0 K Ps) (cd : Value) (q : Str) : PySem.W.codeIn (dropK K Ps) cd q = PySem.W.codeIn K cd q := by
  unfold PySem.W.codeIn
  split
  · rename_i c
    rw [dropK_lookup]
    by_cases hb : Ps.contains c = true
    · rw [if_pos hb]
      cases e : K.lookup c with
      | none => rfl
      | some o => rw [h c o (List.contains_iff_mem.mp hb) e]
    · rw [if_neg hb]
  · rfl
/-- nothing is tracked but the script and the tables -/
def OnlyT (tabs : List (Addr × Addr)) (H : Hp) : Prop := ∀ b, H b = none ∨ (∃ o xs, H b = some (.frz o (.lst xs))) ∨ ((∃ q ∈ tabs, q.2 = b) ∧ H b = some (.tbl #[]))

theorem law_callT {P : Program} {w : World} {K : PySem.W.Frag} {mg mb : Str → Option Value} {CX : CXT} {k : Nat} {fa a : Addr} {fd : FuncData} {x : Str} {sp : Sp} {s₁ : Shared} {vs : List Value} {ns : List Int} {tabs : List (Addr × Addr)}
    (KX : K.In s₁.heap) (hns : s₁.heap.Ns mainGlobals mg) (hb : s₁.heap.Ns builtinsNs mb) (hbb : ∀ x : Str, x ≠ "__name__" → mb x = bootBuiltins x) (hlim : s₁.heap.NoLimit) (hg : s₁.gens = #[]) (htk : 0 < s₁.toks)
    (ha : s₁.heap.get? a = some { cls := .type "list", data := .seq vs.toArray }) (hi : IntsAre vs ns) (hl : ns.length ≤ sizeLine) (hr : Room k callerA)
    (hT : PySem.W.TabsAt tabs s₁.heap) (hnt : ∀ b o, K.lookup b = some o → ∀ q ∈ tabs, q.2 ≠ b) (hbi : ∃ bm o, mg "__builtins__" = some (.ref bm) ∧ bm ≠ builtinsNs ∧ bm ≠ mainGlobals ∧ s₁.heap.get? bm = some o ∧ o.cls = .type "module" ∧ o.dict = some builtinsNs ∧ o.data = .plain)
    (F : ∀ base : Heap, K.In base → base.Ns mainGlobals mg → (∀ q ∈ tabs, PySem.W.CodeHd base q.1 q.2 ∧ base.BuiltinsAt mg q.2) → FnOk P w K mg base CX k fa fd [x] sp) (hbind : ∀ (s : Shared) (u : Value), BindsTo s fd ⟨[u], []⟩ [(x, u)])
    (hsp : ∀ H : Hp, OnlyT tabs H → SqL K H a (ns.map V.int) → (∀ q ∈ tabs, H q.2 = some (.tbl #[])) → sp [.ref a] H (fun v _ => v = .bl true) fun _ _ _ => False)
    (hCX : ∀ H e s', CX [] H s₁ (fun _ _ _ => False) e s' → False) :
    codeAny (model P w) callerA (.call (.ref fa) ⟨[.ref a], []⟩) (fun r s' => r = .ok (.ret (.bool true)) ∧ OldK s₁.heap s'.heap ∧ s'.os = s₁.os ∧ AllBare s'.gens) s₁ := by
  have rv := vals_ints hi
  have lenV := hi.length
  have tabNe : ∀ q ∈ tabs, q.2 ≠ a := fun q hq z => by
    have e := (hT q hq).2
    rw [z, ha] at e; cases e
  -- from an abstract heap in which nothing but the script and the tables may be tracked
  have core : ∀ H : Hp, OnlyT tabs H → SqL K H a (ns.map V.int) → HOk P w H s₁.heap → (∀ b, H b ≠ none → b = a ∨ ∃ q ∈ tabs, q.2 = b) → (H a ≠ none → K.lookup a = none) → (∀ q ∈ tabs, H q.2 = some (.tbl #[])) →
      codeAny (model P w) callerA (.call (.ref fa) ⟨[.ref a], []⟩) (fun r s' => r = .ok (.ret (.bool true)) ∧ OldK s₁.heap s'.heap ∧ s'.os = s₁.os ∧ AllBare s'.gens) s₁ := by
    intro H hO hS hok hA hK hTb
    have base_of : ∀ {b : Addr} {o : Obj}, s₁.heap.get? b = some o → H b = none → (hidT s₁.heap H).get? b = some o := fun e n => hidT_get e n
    have notTab : ∀ {b : Addr} {o : Obj}, s₁.heap.get? b = some o → b ≠ a → o ≠ PySem.W.tabObj #[] → H b = none := fun {b o} e n1 n2 => by
      cases q : H b with
      | none => rfl
      | some u =>
        rcases hA b (by rw [q]; simp) with z | ⟨r, hr', z⟩
        · exact absurd z n1
        · have e2 := (hT r hr').2
          rw [z, e] at e2
          exact absurd (Option.some.inj e2) n2
    have noA : ∀ {b : Addr} {o : Obj} {es : Array DictEntry} {ep : Nat}, s₁.heap.get? b = some o → o.data = .dict es ep → H b = none := fun {b o es ep} e d => by
      refine notTab e (fun z => ?_) fun z => ?_
      · subst z; rw [ha] at e; cases e; cases d
      · subst z; cases d
    have nsK : ∀ {b : Addr} {m : Str → Option Value}, s₁.heap.Ns b m → (hidT s₁.heap H).Ns b m := fun {b m} ⟨o, es, ep, e, d, r⟩ => ⟨o, es, ep, base_of e (noA e d), d, r⟩
    have hKb : K.In (hidT s₁.heap H) := fun b o e => base_of (KX b o e) (by
      cases q : H b with
      | none => rfl
      | some u =>
        rcases hA b (by rw [q]; simp) with z | ⟨r, hr', z⟩
        · subst z
          rw [hK (by rw [q]; simp)] at e; cases e
        · exact absurd z (hnt b o e r hr'))
    have hcd : ∀ q ∈ tabs, PySem.W.CodeHd (hidT s₁.heap H) q.1 q.2 ∧ (hidT s₁.heap H).BuiltinsAt mg q.2 := fun q hq => by
      refine ⟨?_, ?_⟩
      · obtain ⟨o, vs', file, tf, flags, tg, inF, text, tt, e1, r1, r2, r⟩ := (hT q hq).1
        refine ⟨o, vs', file, tf, flags, tg, inF, text, tt, base_of e1 (notTab e1 (fun z => ?_) fun z => ?_), r1, r2, r⟩
        · rw [z, ha] at e1; cases e1; exact absurd r1 (by simp)
        · subst z; cases r1
      · obtain ⟨bm, o, b1, b2, b3, b4, b5, b6, b7⟩ := hbi
        refine ⟨bm, o, b1, b2, b3, fun z => ?_, base_of b4 (notTab b4 (fun z => ?_) fun z => ?_), b5, b6, b7⟩
        · have e2 := (hT q hq).2
          rw [← z, b4] at e2; cases e2; cases b5
        · rw [z, ha] at b4; cases b4; exact absurd b5 (by simp)
        · subst z; cases b5
    have hM : Mod K mg (hidT s₁.heap H) := ⟨hKb, nsK hns, ⟨mb, nsK hb, hbb⟩, let ⟨mc, h1, h2⟩ := hlim; ⟨mc, nsK h1, h2⟩⟩
    have e0 : Env0 P w K mg (hidT s₁.heap H) callerA [] s₁ H := ⟨rfl, hM, fun b o e => of_hidT e, Nat.le_of_eq (hidT_size _ _), trivial, fun b hb => absurd (show b ∈ ([] : List Addr) from hb) (by simp), hok, .of_eq hg, htk⟩
    refine codeAny_mono ((F _ hKb (nsK hns) hcd).run callerA [] s₁ H ⟨[.ref a], []⟩ [.ref a] [.ref a] _ _ hr e0 (hbind s₁ (.ref a)) (.cons rfl .nil) (hsp H hO hS hTb)) fun r s' h => ?_
    cases r with
    | error e => exact (hCX H e s' h).elim
    | ok fl =>
      cases fl with
      | next => exact False.elim h
      | brk => exact False.elim h
      | cont => exact False.elim h
      | ret u =>
        obtain ⟨v, H', os, bare, un, hok', _, r', q⟩ := h
        have q' : v = .bl true := q
        subst q'
        obtain rfl : u = Value.bool true := r'
        have cases3 : ∀ b o, s₁.heap.get? b = some o → s'.heap.get? b = some o ∨ ((∃ q ∈ tabs, q.2 = b) ∧ o = PySem.W.tabObj #[] ∧ ∃ more, s'.heap.get? b = some (PySem.W.tabObj more)) := fun b o e => by
          rcases hO b with z | ⟨ob, xs, z⟩ | ⟨hq, z⟩
          · exact .inl (un.keep b o e z (by intro z; exact absurd (show b ∈ ([] : List Addr) from z) (by simp)) (by simp))
          · have z2 := un.frzs b ob _ z
            obtain ⟨e1, _⟩ := hok b _ z
            obtain ⟨e2, _⟩ := hok' b _ z2
            rw [e] at e1; cases e1
            exact .inl e2
          · obtain ⟨more, z2⟩ := un.tbls b _ z
            have e1 : s₁.heap.get? b = some (PySem.W.tabObj #[]) := hok b _ z
            have e2 : s'.heap.get? b = some (PySem.W.tabObj (#[] ++ more)) := hok' b _ z2
            rw [e] at e1; cases e1
            exact .inr ⟨hq, rfl, _, e2⟩
        refine ⟨rfl, ⟨fun b o e => ?_, fun b o e => ?_⟩, os, bare⟩
        · rcases cases3 b o e with z | ⟨⟨q, hq, hb'⟩, rfl, more, z⟩
          · exact .inl z
          · obtain ⟨o', vs', _, _, _, _, _, _, _, e1, r1, r2, r3, _⟩ := (hT q hq).1
            exact .inr (.inl ⟨⟨q.1, o', vs', e1, r1, r2, by rw [← hb']; exact r3⟩, rfl, #[], more, rfl, by rw [Array.empty_append]; exact z⟩)
        · rcases cases3 b o e with z | ⟨_, _, more, z⟩
          · exact ⟨_, z⟩
          · exact ⟨_, z⟩
  have tabIn : ∀ q ∈ tabs, ∀ (H : Hp), ObjOk P w H s₁.heap q.2 (.tbl #[]) := fun q hq H => (hT q hq).2
  have dec : ∀ b : Addr, (∃ q ∈ tabs, q.2 = b) ∨ ¬ ∃ q ∈ tabs, q.2 = b := fun b => Classical.em _
  cases hk : K.lookup a with
  | some o =>
    -- the script is one of the module's own objects
    have e := KX a o hk
    rw [ha] at e
    cases e
    have hH : ∀ b, (if b ∈ tabs.map (·.2) then some (HO.tbl #[]) else none : Option HO) = some (.tbl #[]) ∧ (∃ q ∈ tabs, q.2 = b) ∨ (if b ∈ tabs.map (·.2) then some (HO.tbl #[]) else none : Option HO) = none := fun b => by
      by_cases hb' : b ∈ tabs.map (·.2)
      · obtain ⟨q, hq, rfl⟩ := List.mem_map.mp hb'
        exact .inl ⟨if_pos hb', q, hq, rfl⟩
      · exact .inr (if_neg hb')
    refine core (fun b => if b ∈ tabs.map (·.2) then some (HO.tbl #[]) else none) (fun b => ?_) (.inr ⟨_, vs.toArray, _, hk, rfl, rfl, rfl, by rw [List.size_toArray, lenV]; exact hl, by simpa using rv⟩) (fun b u z => ?_) (fun b z => ?_) (fun z => ?_) fun q hq => if_pos (List.mem_map_of_mem hq)
    · rcases hH b with ⟨z, y⟩ | z
      · exact .inr (.inr ⟨y, z⟩)
      · exact .inl z
    · rcases hH b with ⟨y, q, hq, rfl⟩ | y
      · have z' := y.symm.trans z; cases z'
        exact tabIn q hq _
      · have z' := y.symm.trans z; cases z'
    · rcases hH b with ⟨_, y⟩ | y
      · exact .inr y
      · exact absurd y z
    · rcases hH a with ⟨_, q, hq, y⟩ | y
      · exact absurd y (tabNe q hq)
      · exact absurd y z
  | none =>
    have hH : ∀ b, (b = a ∧ (if b = a then some (HO.frz { cls := .type "list", data := .seq vs.toArray } (.lst (ns.map V.int))) else if b ∈ tabs.map (·.2) then some (HO.tbl #[]) else none : Option HO) = some (HO.frz { cls := .type "list", data := .seq vs.toArray } (.lst (ns.map V.int)))) ∨
        ((∃ q ∈ tabs, q.2 = b) ∧ (if b = a then some (HO.frz { cls := .type "list", data := .seq vs.toArray } (.lst (ns.map V.int))) else if b ∈ tabs.map (·.2) then some (HO.tbl #[]) else none : Option HO) = some (.tbl #[])) ∨
        (if b = a then some (HO.frz { cls := .type "list", data := .seq vs.toArray } (.lst (ns.map V.int))) else if b ∈ tabs.map (·.2) then some (HO.tbl #[]) else none : Option HO) = none := fun b => by
      by_cases h1 : b = a
      · exact .inl ⟨h1, if_pos h1⟩
      · by_cases hb' : b ∈ tabs.map (·.2)
        · obtain ⟨q, hq, e⟩ := List.mem_map.mp hb'
          exact .inr (.inl ⟨⟨q, hq, e⟩, by rw [if_neg h1, if_pos hb']⟩)
        · exact .inr (.inr (by rw [if_neg h1, if_neg hb']))
    refine core (fun b => if b = a then some (HO.frz { cls := .type "list", data := .seq vs.toArray } (.lst (ns.map V.int))) else if b ∈ tabs.map (·.2) then some (HO.tbl #[]) else none) (fun b => ?_) (.inl (.inr ⟨{ cls := .type "list", data := .seq vs.toArray }, if_pos rfl⟩)) (fun b u z => ?_) (fun b z => ?_) (fun _ => hk)
      fun q hq => ?_
    · rcases hH b with ⟨_, y⟩ | ⟨y, z⟩ | y
      · exact .inr (.inl ⟨_, _, y⟩)
      · exact .inr (.inr ⟨y, z⟩)
      · exact .inl y
    · rcases hH b with ⟨rfl, y⟩ | ⟨⟨q, hq, rfl⟩, y⟩ | y
      · have z' := y.symm.trans z; cases z'
        exact ⟨ha, by rw [List.length_map]; exact hl, vs, _, rv, ha⟩
      · have z' := y.symm.trans z; cases z'
        exact tabIn q hq _
      · have z' := y.symm.trans z; cases z'
    · rcases hH b with ⟨y, _⟩ | ⟨y, _⟩ | y
      · exact .inl y
      · exact .inr y
      · exact absurd y z
    · show (if q.2 = a then _ else if q.2 ∈ tabs.map (·.2) then _ else _) = _
      rw [if_neg (tabNe q hq), if_pos (List.mem_map_of_mem hq)]
end L2

/-! Texts as lists of signs: splitting, words, tidy, cells. -/
namespace Lm
/-- glue -/
def glueC (g : List Nat) : List (List Nat) → List Nat
  | [] => []
  | [p] => p
  | p :: q :: r => p ++ g ++ glueC g (q :: r)
theorem glueC_cons (g p : List Nat) (r : List (List Nat)) (h : r ≠ []) : glueC g (p :: r) = p ++ g ++ glueC g r := by
  cases r with
  | nil => exact absurd rfl h
  | cons q r => rfl
end Lm

set_option linter.all false
namespace Lm
open PySem PySem.Builtin PySem.Builtin.Str PySem.StrLaws
abbrev S (l : List Nat) : Str := ⟨l.toArray⟩
theorem S_len (l : List Nat) : (S l).length = l.length := by simp [Str.length]
theorem S_list (l : List Nat) : (S l).cps.toList = l := by simp
theorem S_app (a b : List Nat) : S a ++ S b = S (a ++ b) := by
  show Str.append (S a) (S b) = _
  simp [Str.append]
theorem glued_S (g : List Nat) (ps : List (List Nat)) : glued (S g) (ps.map S) = S (glueC g ps) := by
  have key : ∀ (ps : List (List Nat)) (acc : List Nat), (ps.map S).foldl (fun acc p => acc ++ (S g).cps ++ p.cps) acc.toArray = (acc ++ (ps.map fun p => g ++ p).flatten).toArray := by
    intro ps
    induction ps with
    | nil => intro acc; simp
    | cons p r ih =>
      intro acc
      rw [List.map_cons, List.foldl_cons]
      have e : acc.toArray ++ (S g).cps ++ (S p).cps = (acc ++ g ++ p).toArray := by simp
      rw [e, ih]
      simp
  have gl : ∀ (p : List Nat) (r : List (List Nat)), glueC g (p :: r) = p ++ (r.map fun p => g ++ p).flatten := by
    intro p r
    induction r generalizing p with
    | nil => simp [glueC]
    | cons q r ih => rw [glueC_cons g p (q :: r) (by simp), ih q]; simp
  unfold glued
  cases ps with
  | nil => rfl
  | cons p r =>
    rw [gl]
    show (⟨(List.drop 1 (S p :: r.map S)).foldl _ (S p).cps⟩ : Str) = _
    rw [List.drop_one, List.tail_cons, key]
theorem joinT_S (g : List Nat) (ps : List (List Nat)) : Txt.join (S g) (ps.map S) = S (glueC g ps) := glued_S g ps
/-! ### stripping -/
/-! ### occurrences -/

/-! ### replace -/
/-! ### slices -/
def clipL (n : Nat) (d : Nat) : Option Int → Nat
  | none => d
  | some i => (max 0 (min (if i < 0 then i + n else i) n)).toNat
def cutL (l : List Nat) (lo hi : Option Int) : List Nat := (l.drop (clipL l.length 0 lo)).take (clipL l.length l.length hi - clipL l.length 0 lo)
theorem filterMap_range (l : List Nat) : ∀ (n a : Nat), a + n ≤ l.length → ((List.range n).map fun (k : Nat) => a + k).filterMap (l[·]?) = (l.drop a).take n := by
  intro n
  induction n with
  | zero => intro a _; simp
  | succ n ih =>
    intro a h
    rw [List.range_succ, List.map_append, List.filterMap_append, ih a (by omega), List.take_add_one]
    have : a + n < l.length := by omega
    simp [List.getElem?_drop, this]
theorem slice_S (l : List Nat) (lo hi : Option Int) : Txt.slice (S l) lo hi = S (cutL l lo hi) := by
  have key : ∃ (a b : Nat), a = clipL l.length 0 lo ∧ b = clipL l.length l.length hi ∧ a ≤ l.length ∧ b ≤ l.length ∧ strSliceIndices lo hi 1 l.length = (List.range (b - a)).map fun (k : Nat) => a + k := by
    refine ⟨_, _, rfl, rfl, ?_, ?_, ?_⟩
    · cases lo <;> simp only [clipL] <;> omega
    · cases hi <;> simp only [clipL] <;> omega
    · unfold strSliceIndices sliceRange
      have e1 : (1 : Int) > 0 := by decide
      simp only [e1, if_true]
      cases lo <;> cases hi <;> simp only [clipL] <;> (refine congr (congrArg List.map ?_) (congrArg List.range ?_)) <;> first | (funext k; omega) | (split <;> omega) | (split <;> (try split) <;> omega)
  obtain ⟨a, b, ea, eb, ha, hb, e⟩ := key
  unfold Txt.slice cutL
  rw [S_len, e, ← ea, ← eb]
  simp only [List.length_map, List.length_range]
  split
  · rename_i h
    simp only [beq_self_eq_true, Bool.true_and, beq_iff_eq] at h
    have h1 : a = 0 := by omega
    have h2 : b = l.length := by omega
    rw [h1, h2]
    simp
  · rename_i h
    congr 1
    have q := filterMap_range l (b - a) a (by omega)
    rw [← q]
    congr 2
    funext i
    simp
end Lm

set_option linter.all false
namespace Lm
/-! ### the texts between bars -/
/-! ### one more sign -/
/-! ### bars with a backslash -/
end Lm

set_option linter.all false
namespace Lm
/-! ### blanks at the ends -/
/-! ### names -/
/-! ### sorts -/
/-! ### the law's way -/
/-! headings -/
end Lm

set_option linter.all false
namespace Lm
/-! ### lengths -/
/-! ### signs below 128 -/
def Asc (l : List Nat) : Prop := ∀ c ∈ l, c < 128
theorem Asc.sub {a b : List Nat} (h : Asc b) (s : ∀ c ∈ a, c ∈ b) : Asc a := fun c hc => h c (s c hc)
theorem Asc.drop {l : List Nat} (h : Asc l) (n : Nat) : Asc (l.drop n) := h.sub fun c hc => List.mem_of_mem_drop hc
theorem Asc.take {l : List Nat} (h : Asc l) (n : Nat) : Asc (l.take n) := h.sub fun c hc => List.mem_of_mem_take hc
theorem strOk_S {l : List Nat} (h : Asc l) : PySem.PyData.strOk (S l) = true := by
  unfold PySem.PyData.strOk
  rw [Array.all_eq_true_iff_forall_mem]
  intro c hc
  have : c ∈ l := by simpa using hc
  have := h c this
  exact decide_eq_true (by omega)
/-! ### the pieces between places -/
end Lm

set_option Elab.async false
set_option linter.all false
set_option maxRecDepth 100000
set_option maxHeartbeats 4000000
namespace Lw
open PySem L2 Lm
theorem big {n : Nat} (h : n ≤ 1000000) : n ≤ sizeLine := by rw [sizeLine_eq]; omega
theorem bigS {l : List Nat} (h : l.length ≤ 1000000) : (S l).length ≤ sizeLine := by rw [S_len]; exact big h
theorem at_S {l : List Nat} {i : Nat} (h : i < l.length) : atI (S l).cps.toList (i : Int) = some (l.getD i 0) := by
  rw [S_list]
  refine atI_nat ?_
  rw [List.getD_eq_getElem?_getD, List.getElem?_eq_getElem h]
  simp
section
variable {a b : List Nat} {x y : V}
end
section
variable {P : Program} {w : World} {K : PySem.W.Frag} {mg : Str → Option Value} {base : Heap}
/-! is_parting_bar -/
/-! words_of -/
/-! tidy -/
theorem map_S_V (ws : List (List Nat)) : (ws.map fun w => V.str (S w)) = (ws.map S).map V.str := by rw [List.map_map]; rfl
end
abbrev vS (l : List Nat) : V := .str (S l)
section
variable {P : Program} {w : World} {K : PySem.W.Frag} {mg : Str → Option Value} {base : Heap}
/-! split_cells -/
end
theorem cut_from (l : List Nat) (b : Nat) : cutL l (some (b : Int)) none = l.drop b := by
  unfold cutL
  have e : clipL l.length 0 (some (b : Int)) = min b l.length := by unfold clipL; simp only []; omega
  rw [e]
  show (l.drop (min b l.length)).take (l.length - min b l.length) = l.drop b
  rcases Nat.le_total b l.length with h | h
  · rw [Nat.min_eq_left h, List.take_of_length_le (by rw [List.length_drop]; exact Nat.le_refl _)]
  · rw [Nat.min_eq_right h, Nat.sub_self, List.take_zero, List.drop_eq_nil_of_le h]
theorem cut_to (l : List Nat) (p : Nat) : cutL l none (some (p : Int)) = l.take p := by
  unfold cutL
  have e : clipL l.length l.length (some (p : Int)) = min p l.length := by unfold clipL; simp only []; omega
  rw [e]
  show (l.drop 0).take (min p l.length - 0) = l.take p
  rw [List.drop_zero, Nat.sub_zero]
  rcases Nat.le_total p l.length with h | h
  · rw [Nat.min_eq_left h]
  · rw [Nat.min_eq_right h, List.take_of_length_le (Nat.le_refl _), List.take_of_length_le h]
theorem cut_any (l : List Nat) (b p : Nat) : cutL l (some (b : Int)) (some (p : Int)) = (l.drop b).take (p - b) := by
  unfold cutL
  have e : clipL l.length 0 (some (b : Int)) = min b l.length := by unfold clipL; simp only []; omega
  have e2 : clipL l.length l.length (some (p : Int)) = min p l.length := by unfold clipL; simp only []; omega
  rw [e, e2]
  rcases Nat.le_total b l.length with h | h
  · rw [Nat.min_eq_left h]
    rcases Nat.le_total p l.length with h2 | h2
    · rw [Nat.min_eq_left h2]
    · rw [Nat.min_eq_right h2, List.take_of_length_le (by rw [List.length_drop]; exact Nat.le_refl _), List.take_of_length_le (by rw [List.length_drop]; omega)]
  · rw [Nat.min_eq_right h, List.drop_eq_nil_of_le h, List.drop_eq_nil_of_le (Nat.le_refl _)]; simp
section
variable {P : Program} {w : World} {K : PySem.W.Frag} {mg : Str → Option Value} {base : Heap}
/-! is_name -/
/-! name_of -/
/-! rest_of_quote -/
/-! heading_level -/
/-! is_cells -/
end
/-- what a test tells, the heap grown -/
def Tells (t : TT) (σ : St) (H : Hp) (a : Bool) : Prop := ∀ R : Bool → Hp → Prop, (∀ H', Same H H' → R a H') → t σ H R
theorem t_and {t u : TT} {σ : St} {H : Hp} (a b : Bool) (ht : Tells t σ H a) (hu : a = true → ∀ H1, Same H H1 → Tells u σ H1 b) : Tells (tAnd t u) σ H (a && b) := by
  intro R k
  refine ht _ fun H1 s1 => ?_
  cases a with
  | true => exact hu rfl H1 s1 R fun H' s' => k H' (s1.trans s')
  | false => exact k H1 s1
theorem t_or {t u : TT} {σ : St} {H : Hp} (a b : Bool) (ht : Tells t σ H a) (hu : a = false → ∀ H1, Same H H1 → Tells u σ H1 b) : Tells (tOr t u) σ H (a || b) := by
  intro R k
  refine ht _ fun H1 s1 => ?_
  cases a with
  | false => exact hu rfl H1 s1 R fun H' s' => k H' (s1.trans s')
  | true => exact k H1 s1
theorem t_not {t : TT} {σ : St} {H : Hp} (a : Bool) (ht : Tells t σ H a) : Tells (tNot t) σ H (!a) := fun R k => ht _ fun H1 s1 => k H1 s1
theorem s_if {t : TT} {f g : TS} {D : Ends} {σ : St} {H : Hp} (a : Bool) (ht : Tells t σ H a) (k1 : ∀ H', Same H H' → a = true → f D σ H') (k2 : ∀ H', Same H H' → a = false → g D σ H') : tIfS t f g D σ H :=
  ht _ fun H' s' => ite2 (k1 H' s') fun c => k2 H' s' (Bool.eq_false_iff.mpr c)
section
variable {P : Program} {w : World} {K : PySem.W.Frag} {mg : Str → Option Value} {base : Heap}
/-! definition_of -/
end
section
variable {P : Program} {w : World} {K : PySem.W.Frag} {mg : Str → Option Value} {base : Heap}
/-! item_or_plain -/
/-! sort_of -/
end
section
variable {P : Program} {w : World} {K : PySem.W.Frag} {mg : Str → Option Value} {base : Heap}
/-! _law_mixed -/
/-! _law_signs -/
end
theorem asc_app {a b : List Nat} (h : Asc a) (k : Asc b) : Asc (a ++ b) := fun c hc => by
  rcases List.mem_append.mp hc with hc | hc
  · exact h c hc
  · exact k c hc
theorem w_ixs {H : Hp} {l : List Nat} {i : Int} {Q : VK} (hl : l.length ≤ 1000000) (h0 : 0 ≤ i) (h1 : i < (l.length : Nat)) (k : Q (vS [l.getD i.toNat 0]) H) : rIxS (vS l) (.int i) H Q := by
  have e := at_S (l := l) (i := i.toNat) (by omega)
  rw [show ((i.toNat : Nat) : Int) = i by omega] at e
  exact ⟨_, i, _, rfl, rfl, bigS hl, e, k⟩
section
variable {P : Program} {w : World} {K : PySem.W.Frag} {mg : Str → Option Value} {base : Heap}
/-! _law_row -/
end
/-! what an expression tells, the heap as it was -/
def Ev (te : TE) (σ : St) (H : Hp) (v : V) : Prop := ∀ R : VK, R v H → te σ H R
def EvO (t : TO) (σ : St) (H : Hp) (o : Option Int) : Prop := ∀ R : Option Int → Hp → Prop, R o H → t σ H R
section
variable {σ : St} {H : Hp} {ta tb : TE} {i j : Int} {a b l : List Nat} {v : V}
theorem ev_v {k : Nat} (h : σ[k]? = some (some v)) : Ev (tVar k) σ H v := fun R r => ⟨v, h, r⟩
theorem ev_c : Ev (tC v) σ H v := fun R r => r
theorem ev_len (hl : l.length ≤ 1000000) (h : Ev ta σ H (vS l)) : Ev (tCB (fun xs H Q => ∃ z, xs = [.str z] ∧ z.length ≤ sizeLine ∧ Q (.int z.length) H) (tCons ta tNil)) σ H (.int l.length) := fun R r =>
  h _ ⟨_, rfl, bigS hl, by rw [S_len]; exact r⟩
theorem ev_op {g : Int → Int → V} (h1 : Ev ta σ H (.int i)) (h2 : Ev tb σ H (.int j)) (e : g i j = v) : Ev (tOp (rI0 g) ta tb) σ H v := fun R r => h1 _ (h2 _ ⟨i, j, rfl, rfl, by rw [e]; exact r⟩)
theorem evo_s (h : Ev ta σ H (.int i)) : EvO (tPart ta) σ H (some i) := fun R r => h _ ⟨i, rfl, r⟩
theorem ev_sl {tl th : TO} {lo hi : Option Int} (hl : l.length ≤ 1000000) (h1 : Ev ta σ H (vS l)) (h2 : EvO tl σ H lo) (h3 : EvO th σ H hi) (e : cutL l lo hi = a) : Ev (tSl rSlS ta tl th) σ H (vS a) := fun R r =>
  h1 _ (h2 _ (h3 _ ⟨_, rfl, bigS hl, by rw [slice_S, e]; exact r⟩))
theorem t_eqi (h1 : Ev ta σ H (.int i)) (h2 : Ev tb σ H (.int j)) : Tells (tTest (tOp rEq ta tb)) σ H (decide (i = j)) := fun R k => h1 _ (h2 _ ⟨rfl, _, rfl, by
  rw [show decide (V.int i = V.int j) = decide (i = j) from decide_eq_decide.mpr ⟨fun h => V.int.inj h, fun h => by rw [h]⟩]
  exact k H (Same.refl H)⟩)
end
theorem while_t {c : TT} {tb : TS} {D : Ends} {σ : St} {H : Hp} (Pv : Nat → St → Hp → Prop) (m0 : Nat) (h0 : Pv m0 σ H)
    (hs : ∀ m σ H, Pv m σ H → ∃ a, Tells c σ H a ∧ (a = true → ∀ H', Same H H' → tb { D with nx := fun σ' H' => ∃ m', m' < m ∧ Pv m' σ' H', ct := fun σ' H' => ∃ m', m' < m ∧ Pv m' σ' H', bk := D.nx } σ H') ∧ (a = false → ∀ H', Same H H' → D.nx σ H')) : tWhile c tb D σ H := by
  refine ⟨Pv, ⟨m0, h0⟩, fun m σ H p => ?_⟩
  obtain ⟨a, ht, h1, h2⟩ := hs m σ H p
  exact ht _ fun H' s' => ite2 (fun c => ⟨fun σ' H' => ∃ m', m' < m ∧ Pv m' σ' H', fun σ' H' h => h, h1 c H' s'⟩) fun c => h2 (Bool.eq_false_iff.mpr c) H' s'
/-! ### the bounds -/
section
variable {P : Program} {w : World} {K : PySem.W.Frag} {mg : Str → Option Value} {base : Heap}
/-! _law_bounds -/
end
section
variable {P : Program} {w : World} {K : PySem.W.Frag} {mg : Str → Option Value} {base : Heap}
/-! _law_cells -/
/-! _law_name -/
end
section
variable {P : Program} {w : World} {K : PySem.W.Frag} {mg : Str → Option Value} {base : Heap}
/-! _law_flush -/
/-! _law_due -/
end
/-! ### sorts as data -/
def dT (ts : List (List Nat)) : List PyData := ts.map fun t => .str (S t)
theorem dep_dT : ∀ ts : List (List Nat), PyData.depthAll (dT ts) ≤ 1
  | [] => by simp [dT, PyData.depthAll]
  | t :: ts => by
    have := dep_dT ts
    unfold dT at this ⊢
    rw [List.map_cons]
    simp only [PyData.depthAll, PyData.depth]
    omega
section
variable {K : PySem.W.Frag} {H : Hp}
theorem den_S {l : List Nat} (h : Asc l) : Den K H (vS l) (.str (S l)) := .str _ (strOk_S h)
theorem den_dT : ∀ {ts : List (List Nat)}, (∀ t ∈ ts, Asc t) → DenAll K H (ts.map vS) (dT ts)
  | [], _ => .nil
  | t :: ts, h => .cons (den_S (h t (List.mem_cons_self ..))) (den_dT fun u hu => h u (List.mem_cons_of_mem _ hu))
end
/-! ### what sort_of tells is of the row's signs -/
section
variable {P : Program} {w : World} {K : PySem.W.Frag} {mg : Str → Option Value} {base : Heap}
end
end Lw

set_option Elab.async false
set_option linter.all false
set_option maxRecDepth 100000
namespace Lw
open PySem L2 Lm
theorem mul_S (c : Nat) (n : Nat) : Txt.mul (S [c]) (n : Int) = S (List.replicate n c) := by
  unfold Txt.mul
  by_cases h : (n : Int) < 1
  · rw [if_pos h]
    have : n = 0 := by omega
    subst this
    rfl
  · rw [if_neg h]
    by_cases h1 : n = 1
    · subst h1; rfl
    · rw [if_neg (by
        rw [Bool.or_eq_true]
        rintro (z | z)
        · have : (n : Int) = 1 := by simpa using z
          omega
        · rw [S_len] at z; simp at z)]
      have key : ∀ (m : Nat) (acc : List Nat), List.foldl (fun x1 x2 => x1 ++ x2) acc.toArray (List.replicate m (S [c]).cps) = (acc ++ List.replicate m c).toArray := by
        intro m
        induction m with
        | zero => intro acc; simp
        | succ m ih =>
          intro acc
          rw [List.replicate_succ, List.foldl_cons]
          have e : acc.toArray ++ (S [c]).cps = (acc ++ [c]).toArray := by simp
          rw [e, ih (acc ++ [c]), List.replicate_succ]
          simp
      have := key n []
      rw [show (n : Int).toNat = n by omega]
      simp only [List.nil_append] at this
      rw [show (#[] : Array Nat) = ([] : List Nat).toArray from rfl, this]
section
variable {neat loose : List Nat}
/-! ### cells -/
end
/-- numbers walked: all that is told has the property -/
theorem lc_rangeA {n : Nat} {k : Nat} {fr : List Nat} {g : TG} {tt : TT} {te : TE} {σ : St} {H0 : Hp} {Q : Addr → Hp → Prop} (lo : Int) (Pr : V → Prop) (hl : n ≤ sizeLine)
    (ht : ∀ i, i < n → ∀ H', Same H0 H' → ∀ (C : V → Hp → Prop) (N : Hp → Prop), (∀ v H4, Same H' H4 → Pr v → C v H4) →
      g (.int (lo + (i : Nat))) (nfS k fr σ) H' fun σ2 H2 => nfLe k fr σ σ2 ∧ tt σ2 H2 fun b H3 => if b = true then te σ2 H3 C else N H3)
    (hq : ∀ D H' ys, H0 D = none → Same H0 H' → H' D = some (.lst ys) → ys.length = n → (∀ y ∈ ys, Pr y) → Q D H') : rLC k fr g tt te σ (Itr lo n) H0 Q := by
  intro D hD
  refine ⟨fun i m acc H => m = n - i ∧ i ≤ n ∧ acc.length = i ∧ (∀ y ∈ acc, Pr y) ∧ H D = some (.lst acc) ∧ Same H0 H, ⟨n, by simp, Nat.zero_le _, rfl, (fun _ z => nomatch z), upd_same, same_new hD _⟩, ?_⟩
  rintro i m acc H ⟨rfl, hi, ha, hP, hDa, sm⟩
  refine ⟨hDa, ?_⟩
  by_cases hlt : i < n
  · refine .inr ⟨hlt, ?_⟩
    rintro x H' ⟨rfl, rfl⟩
    refine ht i hlt _ sm _ _ fun v H4 s4 pv => ?_
    refine ⟨s4 _ _ hDa, by omega, n - (i + 1), by omega, rfl, hlt, by rw [List.length_append, ha]; rfl, ?_, upd_same, same_grow hD (sm.trans s4)⟩
    intro z hz
    rcases List.mem_append.mp hz with hz | hz
    · exact hP z hz
    · rw [show z = v by simpa using hz]; exact pv
  · exact .inl ⟨by show n ≤ i; omega, hq D H acc hD sm hDa (by omega) hP⟩
/-- texts of one sign each -/
theorem signs_of {p : Nat → Prop} : ∀ {ys : List V}, (∀ y ∈ ys, ∃ c, y = vS [c] ∧ p c) → ∃ cs : List Nat, ys = (cs.map fun c => S [c]).map V.str ∧ cs.length = ys.length ∧ ∀ c ∈ cs, p c
  | [], _ => ⟨[], rfl, rfl, fun _ z => nomatch z⟩
  | y :: ys, h => by
    obtain ⟨c, e, pc⟩ := h y (List.mem_cons_self ..)
    obtain ⟨cs, e2, hl, hp⟩ := signs_of (ys := ys) fun z hz => h z (List.mem_cons_of_mem _ hz)
    refine ⟨c :: cs, by rw [e, e2]; rfl, by rw [List.length_cons, List.length_cons, hl], ?_⟩
    intro x hx
    rcases List.mem_cons.mp hx with rfl | hx
    · exact pc
    · exact hp x hx
theorem glue_signs : ∀ cs : List Nat, glueC [] (cs.map fun c => [c]) = cs
  | [] => rfl
  | [c] => rfl
  | c :: d :: cs => by
    have ih := glue_signs (d :: cs)
    rw [List.map_cons, glueC_cons _ _ _ (by simp), ih]; rfl
theorem join_signs (cs : List Nat) : Txt.join (Str.ofString "") (cs.map fun c => S [c]) = S cs := by
  have h := joinT_S [] (cs.map fun c => [c])
  rw [List.map_map, glue_signs] at h
  exact h
end Lw

set_option linter.all false
namespace Lw
open PySem L2 Lm
/-! ### shares -/
end Lw

set_option Elab.async false
set_option linter.all false
set_option maxRecDepth 100000
namespace L2
open PySem PySem.Spec PyProof.Rows
section
variable {X : Cx} {c P : Addr} {k i : Nat} {x name : Str} {ps : List Str} {e : Expr} {es : List Expr} {t : TA} {p pos : Pos} {params : Arguments} {body : List Stmt} {scope : Scope} {qs : List (Pos × Str)}
theorem star_parts (hst : noStars (e :: es) = true) : isStar e = false ∧ noStars es = true := by
  unfold noStars at hst
  rw [Bool.and_eq_true, Bool.not_eq_true'] at hst
  exact hst
theorem xcX (hm : ∃ f, X.mg x = some (.ref f) ∧ PySem.W.keepIn X.K (.ref f) = true) (hfn : ∀ x, X.fn x = true) (hr : Room k X.A) (ha : XA X (e :: es) t) (hg : Gl X x := by exact rfl) (hdb : (x == ("__debug__" : Str)) = false := by decide) (hst : noStars (e :: es) = true := by rfl) :
    XE X (.Call (.Name x p) (e :: es) [] pos) (tCallX X k x ps t) := ⟨pe_callX hm hfn hr ha.h hg hdb (star_cons (star_parts hst).1) (stars_any (star_parts hst).2)⟩
theorem xcV (hN : X.N[i]? = some x) (hv : Vis X.env.scope x) (hr : Room k X.A) (ha : XA X (e :: es) t) (hd : (x == ("__debug__" : Str)) = false := by decide) (hcd : (x == ("__classdict__" : Str)) = false := by decide) (hst : noStars (e :: es) = true := by rfl) :
    XE X (.Call (.Name x p) (e :: es) [] pos) (tCallV X k i t) := ⟨pe_callV hN hv hr ha.h hd hcd (star_cons (star_parts hst).1) (stars_any (star_parts hst).2)⟩
theorem xdef (T : DefAt X c P) (hcl : ∀ n, (n, NameKind.free) ∈ scope.names → ∃ c, X.env.cells.lookup n = some c) (hq : (pos, qualnameIn X.env name name) ∈ qs) (hqs : ∀ q ∈ qs, q.1.line = pos.line → q.1.col = pos.col → q.2 = qualnameIn X.env name name)
    (hN : X.N.Nodup) (hi : X.N[i]? = some name) (hx : Loc X.env.scope name) (hf : X.fn name = true ∨ X.env.scope.names.lookup name = some .local := by first | exact .inl rfl | exact .inr rfl)
    (hd0 : params.defaults = [] := by rfl) (hk0 : params.kw_defaults = [] := by rfl) (ha : annTrees params none X.env = [] := by rfl) :
    XS X (.FunctionDef name params body [] none [] scope none name pos) (tDef P qs i (FnMade X name params body scope)) := ⟨ps_def T hcl hq hqs hN hi hx hf hd0 hk0 ha⟩
end
/-- all but W is kept -/
def SameW (W : Addr → Prop) (H H' : Hp) : Prop := ∀ b o, ¬ W b → H b = some o → H' b = some o
theorem SameW.trans {W : Addr → Prop} {H H1 H2 : Hp} (a : SameW W H H1) (b : SameW W H1 H2) : SameW W H H2 := fun c o n h => b c o n (a c o n h)
theorem SameW.free {W : Addr → Prop} {H H' : Hp} (e : SameW W H H') {l : Addr} (hx : ¬ W l) (h : H' l = none) : H l = none := by
  cases q : H l with
  | none => rfl
  | some o => rw [e l o hx q] at h; cases h
/-- a function that is handed a number and tells a text: L by the number; what it may change is W; Pre k: it may be called k times more -/
structure LeadW (W : Addr → Prop) (Pre : Nat → Hp → Prop) : Prop where
  stay : ∀ k H H', Pre k H → (∀ b, W b → H' b = H b) → Pre k H'
  there : ∀ k H b, Pre k H → W b → H b ≠ none
  less : ∀ k H, Pre (k + 1) H → Pre k H
def spLeadF (W : Addr → Prop) (Pre : Nat → Hp → Prop) (L : Nat → List Nat) : Sp := fun vs H Q _ => ∃ n k : Nat, vs = [.int n] ∧ n ≤ 4000000 ∧ Pre (k + 1) H ∧ ∀ H', Pre k H' → SameW W H H' → Q (.str (Lm.S (L n))) H'
end L2
namespace Lm
/-! ### words filled -/
def fitC (room : Nat) (due : List Nat) : List (List Nat) → List Nat × List (List Nat)
  | [] => (due, [])
  | w :: r => if due.length + 1 + w.length ≤ room then fitC room (due ++ [32] ++ w) r else (due, w :: r)
inductive Filled (width : Nat) (L : Nat → List Nat) : Nat → List (List Nat) → List (List Nat) → Prop where
  | nil (n) : Filled width L n [] []
  | cut (n w r rows) : width - (L n).length < w.length → Filled width L (n + 1) (w.drop (width - (L n).length) :: r) rows → Filled width L n (w :: r) ((L n ++ w.take (width - (L n).length)) :: rows)
  | row (n w r rows) : w.length ≤ width - (L n).length → Filled width L (n + 1) (fitC (width - (L n).length) w r).2 rows → Filled width L n (w :: r) ((L n ++ (fitC (width - (L n).length) w r).1) :: rows)
theorem Filled.det {width : Nat} {L : Nat → List Nat} {n : Nat} {ws r1 : List (List Nat)} (h : Filled width L n ws r1) : ∀ {r2}, Filled width L n ws r2 → r1 = r2 := by
  induction h with
  | nil n => intro r2 h2; cases h2; rfl
  | cut n w r rows hc _ ih =>
    intro r2 h2
    cases h2 with
    | cut _ _ _ rows2 _ h3 => rw [ih h3]
    | row _ _ _ rows2 h3 _ => omega
  | row n w r rows hc _ ih =>
    intro r2 h2
    cases h2 with
    | cut _ _ _ rows2 h3 _ => omega
    | row _ _ _ rows2 _ h3 => rw [ih h3]
def tot : List (List Nat) → Nat
  | [] => 0
  | w :: r => w.length + 1 + tot r
theorem fit_left (room : Nat) : ∀ (r : List (List Nat)) (due : List Nat), tot (fitC room due r).2 ≤ tot r ∧ (∀ w ∈ (fitC room due r).2, w ∈ r)
  | [], _ => ⟨Nat.le_refl _, fun _ h => h⟩
  | w :: r, due => by
    unfold fitC
    split
    · have := fit_left room r (due ++ [32] ++ w)
      exact ⟨Nat.le_trans this.1 (by simp [tot]), fun x hx => List.mem_cons_of_mem _ (this.2 x hx)⟩
    · exact ⟨Nat.le_refl _, fun _ h => h⟩
theorem Filled.count {width : Nat} {L : Nat → List Nat} {n : Nat} {ws rows : List (List Nat)} (h : Filled width L n ws rows) (hL : ∀ n, (L n).length < width) : rows.length ≤ tot ws := by
  induction h with
  | nil n => exact Nat.le_refl _
  | cut n w r rows hc _ ih =>
    have := hL n
    simp only [tot, List.length_cons, List.length_drop] at ih ⊢
    omega
  | row n w r rows hc _ ih =>
    have := (fit_left (width - (L n).length) r w).1
    simp only [tot, List.length_cons]
    omega
theorem fit_len (room : Nat) : ∀ (r : List (List Nat)) (due : List Nat), due.length ≤ room → (fitC room due r).1.length ≤ room
  | [], _, h => h
  | w :: r, due, h => by
    unfold fitC
    split
    · rename_i hc
      exact fit_len room r _ (by simp only [List.length_append, List.length_cons, List.length_nil]; omega)
    · exact h
theorem Filled.wide {width : Nat} {L : Nat → List Nat} {n : Nat} {ws rows : List (List Nat)} (h : Filled width L n ws rows) (hL : ∀ n, (L n).length < width) : ∀ r ∈ rows, r.length ≤ width := by
  induction h with
  | nil n => intro r h; cases h
  | cut n w r rows hc _ ih =>
    intro x hx
    rcases List.mem_cons.mp hx with rfl | hx
    · have := hL n
      rw [List.length_append, List.length_take]; omega
    · exact ih x hx
  | row n w r rows hc _ ih =>
    intro x hx
    rcases List.mem_cons.mp hx with rfl | hx
    · have := hL n
      have := fit_len (width - (L n).length) r w hc
      rw [List.length_append]; omega
    · exact ih x hx
theorem tot_le {ws : List (List Nat)} {m : Nat} (h : ∀ w ∈ ws, w.length ≤ m) : tot ws ≤ ws.length * (m + 1) := by
  induction ws with
  | nil => simp [tot]
  | cons w ws ih =>
    have h1 := h w List.mem_cons_self
    have h2 := ih fun x hx => h x (List.mem_cons_of_mem _ hx)
    simp only [tot, List.length_cons, Nat.add_mul, Nat.one_mul]
    omega
/-- what the law's lead tells -/
def leadC (kind wide : Nat) (n : Nat) : List Nat :=
  if kind = 0 then [] else if kind = 1 then List.replicate wide 43 else if kind = 2 then (if n = 0 then List.replicate wide 45 else List.replicate wide 32) else List.replicate ((wide + 5 * n) % (wide + 1)) 62
theorem lead_len (kind wide n : Nat) : (leadC kind wide n).length ≤ wide := by
  unfold leadC
  have := Nat.mod_lt (wide + 5 * n) (show 0 < wide + 1 by omega)
  split
  · exact Nat.zero_le _
  · split
    · rw [List.length_replicate]; exact Nat.le_refl _
    · split
      · split <;> (rw [List.length_replicate]; exact Nat.le_refl _)
      · rw [List.length_replicate]; omega
end Lm

set_option Elab.async false
set_option linter.all false
set_option maxRecDepth 100000
set_option maxHeartbeats 1000000
namespace K8
open PySem L2 Lm Lw
structure Tx8 (mg : Str → Option Value) : Prop where
  n_len : mg "len" = none
  n_range : mg "range" = none
  n_isinstance : mg "isinstance" = none
  n_bool : mg "bool" = none
  n_int : mg "int" = none
  n_list : mg "list" = none
  n_max : mg "max" = none
  n_min : mg "min" = none
  n_enumerate : mg "enumerate" = none
  n_str : mg "str" = none
def top (i : Nat) : Stmt := PySem.Challenge.pw_lightmark_k08_whole_filled.main.body.getD i (.Pass ⟨0, 0, 0, 0⟩)
def SameX (x : Addr) (H H' : Hp) : Prop := ∀ b o, b ≠ x → H b = some o → H' b = some o
theorem SameX.of {x : Addr} {H H' : Hp} (s : Same H H') : SameX x H H' := fun b o _ h => s b o h
theorem SameX.trans {x : Addr} {H H1 H2 : Hp} (a : SameX x H H1) (b : SameX x H1 H2) : SameX x H H2 := fun c o n h => b c o n (a c o n h)
theorem SameX.upd {x : Addr} {H : Hp} (o : HO) : SameX x H (L2.upd H x o) := fun b u n h => by rw [upd_ne n]; exact h
theorem SameX.free {x : Addr} {H H' : Hp} (e : SameX x H H') {l : Addr} (hx : l ≠ x) (h : H' l = none) : H l = none := by
  cases q : H l with
  | none => rfl
  | some o => rw [e l o hx q] at h; cases h
abbrev vI (ns : List Int) : List V := ns.map V.int
/-- the script, whatever becomes of the tape -/
def Scr (K : PySem.W.Frag) (t : Addr) (H : Hp) (a : Addr) (ns : List Int) : Prop := ∀ H', SameX t H H' → SqL K H' a (vI ns)
theorem Scr.move {K : PySem.W.Frag} {t a : Addr} {H H' : Hp} {ns : List Int} (s : SameX t H H') (h : Scr K t H a ns) : Scr K t H' a ns := fun H2 s2 => h H2 (s.trans s2)
theorem for_any {J : It} {g : TG} {tb : TS} {D : Ends} {σ : St} {H : Hp} (n : Nat) (Pv : Nat → St → Hp → Prop) (h0 : Pv 0 σ H) (hgo : ∀ i σ H, i < n → Pv i σ H → J.go i H) (hst : ∀ σ H, Pv n σ H → J.stop n H)
    (hs : ∀ i σ H x H', i < n → Pv i σ H → J.yld i H x H' → g x σ H' fun σ2 H2 => tb { D with nx := Pv (i + 1), ct := Pv (i + 1), bk := D.nx } σ2 H2) (hd : ∀ σ H, Pv n σ H → D.nx σ H) :
    ∃ W : Nat → Nat → St → Hp → Prop, (∃ m, W 0 m σ H) ∧ ∀ i m σ H, W i m σ H →
      (J.stop i H ∧ D.nx σ H) ∨ (J.go i H ∧ ∃ N : St → Hp → Prop, (∀ σ' H', N σ' H' → ∃ m', m' < m ∧ W (i + 1) m' σ' H') ∧ ∀ x H', J.yld i H x H' → g x σ H' fun σ2 H2 => tb { D with nx := N, ct := N, bk := D.nx } σ2 H2) := by
  refine ⟨fun i m σ H => m = n - i ∧ i ≤ n ∧ Pv i σ H, ⟨n, by simp, Nat.zero_le _, h0⟩, ?_⟩
  rintro i m σ H ⟨rfl, hi, p⟩
  by_cases hlt : i < n
  · exact .inr ⟨hgo i σ H hlt p, Pv (i + 1), fun σ' H' q => ⟨n - (i + 1), by omega, rfl, hlt, q⟩, fun x H' y => hs i σ H x H' hlt p y⟩
  · have e : i = n := by omega
    subst e
    exact .inl ⟨hst σ H p, hd σ H p⟩
/-- a statement's end, cut -/
theorem s_join {f u : TS} {D : Ends} {σ : St} {H : Hp} (J : St → Hp → Prop) (h : ∀ N : St → Hp → Prop, (∀ σ' H', J σ' H' → N σ' H') → f { D with nx := N } σ H) (k : ∀ σ' H', J σ' H' → u D σ' H') : tSeq f u D σ H := h (u D) k
theorem Scr.of {K : PySem.W.Frag} {t a : Addr} {H : Hp} {o : HO} {ns : List Int} (n : H t = none) (q : SqL K H a (vI ns)) : Scr K t (upd H t o) a ns := by
  have ne : ∀ b o, H b = some o → b ≠ t := fun b o e z => by rw [z, n] at e; cases e
  have up : ∀ H', SameX t (upd H t o) H' → ∀ b u, H b = some u → H' b = some u := fun H' s b u e => s _ _ (ne _ _ e) (by rw [upd_ne (ne _ _ e)]; exact e)
  intro H' s
  rcases q with (q | ⟨o, q⟩) | q
  · exact .inl (.inl (up H' s _ _ q))
  · exact .inl (.inr ⟨o, up H' s _ _ q⟩)
  · exact .inr q
section
variable {P : Program} {w : World} {K : PySem.W.Frag} {mg : Str → Option Value} {base : Heap}
/-! _law_draw -/
abbrev sDraw : Stmt := top 5
theorem scDraw : FnScope ["_law_script", "_law_tape", "_law_many", "_law_seed", "_law_cell"] ["_law_script", "_law_tape", "_law_many"] (defScope sDraw) := ⟨rfl, rfl, rfl, by decide +kernel, rfl, by decide +kernel, by decide +kernel⟩
def spDraw (K : PySem.W.Frag) : Sp := fun vs H Q _ => ∃ (a t : Addr) (ns : List Int) (m many : Int), vs = [.ref a, .ref t, .int many] ∧ Scr K t H a ns ∧ ns.length ≤ 1000 ∧ H t = some (.lst [.int m]) ∧ 0 ≤ m ∧ m ≤ 1000 ∧ 0 < many ∧
  ∀ i H', 0 ≤ i → i < many → SameX t H H' → H' t = some (.lst [.int (m + 1)]) → Q (.int i) H'
theorem ok_draw {f : Addr} {fd : FuncData} (F : Fun K "_law_draw" "_law_draw" sDraw f fd) (T : Tx8 mg) : FnOk P w K mg base CX0 1 f fd ["_law_script", "_law_tape", "_law_many"] (spDraw K) := by
  have sc := scDraw
  refine F.ok sc (fun vs H Q E h => ?_) (fun cdv A outer s H vs Q E hr h => ?_)
  · obtain ⟨a, t, ns, m, many, rfl, _⟩ := h
    rfl
  obtain ⟨a, t, ns, m, many, rfl, hscr, hns, et, m0, m1, hmany, q⟩ := h
  refine of_XB (xbc (xasg (xop op_add (xix ix_list (xv 1) xint (fun _ _ => rfl)) xint) (xgsub (xv 1) xint set_list))
    (xbc (xif (xcmpT op_le (xix ix_list (xv 1) xint (fun _ _ => rfl)) (xcB call_len_seq T.n_len PySem.boot_len (xac (xv 0) xa0)) (nomark _)) (xb1 (xret (xop op_mod (xix ix_list (xv 0) (xop op_sub (xix ix_list (xv 1) xint (fun _ _ => rfl)) xint) (fun _ _ => rfl)) (xv 2)))) xb0)
    (xbc (xset (i := 3) sc.nd rfl (Or.inl rfl) (xcB call_len_seq T.n_len PySem.boot_len (xac (xv 0) xa0)))
    (xbc (xfor PassesOwn.never rfl (xil (xsl sl_list (xv 0) xo0 (xo1 xint))) (xgn (i := 4) sc.nd rfl (Or.inl rfl))
    (xb1 (xset (i := 3) sc.nd rfl (Or.inl rfl) (xop op_mod (xop op_add (xop op_mul (xv 3) xint) (xv 4)) xint))))
    (xb1 (xret (xop op_mod (xop op_mod (xop op_mul (xop op_add (xv 3) xint) (xop op_add (xop op_mul (xix ix_list (xv 1) xint (fun _ _ => rfl)) (xix ix_list (xv 1) xint (fun _ _ => rfl))) xint)) xint) (xv 2)))))))) ?_
  refine ⟨_, rfl, t, _, 0, .int m, rfl, rfl, SqL.of et, atI_nat (j := 0) rfl, _, _, rfl, rfl, _, rfl, t, _, 0, 0, rfl, rfl, et, rfl, ?_⟩
  have et1 : upd H t (.lst [.int (m + 1)]) t = some (.lst [.int (m + 1)]) := upd_same
  have s1 : SameX t H (upd H t (.lst [.int (m + 1)])) := SameX.upd _
  show tSeq _ _ _ _ (upd H t (.lst [.int (m + 1)]))
  generalize upd H t (.lst [.int (m + 1)]) = H1 at et1 s1
  have hq1 : SqL K H1 a (vI ns) := hscr H1 s1
  refine ⟨_, rfl, t, _, 0, .int (m + 1), rfl, rfl, SqL.of et1, atI_nat (j := 0) rfl, _, rfl, a, _, rfl, .inl hq1, _, _, rfl, rfl, _, rfl, ?_⟩
  rw [List.length_map]
  refine ite2 (fun c => ?_) (fun c => ?_)
  · have c := of_decide_eq_true c
    obtain ⟨j, hj⟩ : ∃ j : Nat, m + 1 - 1 = (j : Int) := ⟨m.toNat, by omega⟩
    have hjl : j < ns.length := by omega
    refine ⟨_, rfl, _, rfl, t, _, 0, .int (m + 1), rfl, rfl, SqL.of et1, atI_nat (j := 0) rfl, _, _, rfl, rfl, a, _, _, .int ns[j], rfl, rfl, hq1, ?_, _, rfl, _, _, rfl, rfl, hmany, ?_⟩
    · rw [hj]
      exact atI_nat (by rw [List.getElem?_map, List.getElem?_eq_getElem hjl]; rfl)
    · exact q _ _ (Int.emod_nonneg _ (by omega)) (Int.emod_lt_of_pos _ hmany) s1 et1
  · refine ⟨_, rfl, a, _, rfl, .inl hq1, ?_⟩
    refine ⟨_, rfl, _, rfl, a, _, rfl, hq1, fun p hp => ⟨p, rfl, ⟨_, SqL.of upd_same⟩, ?_⟩⟩
    have hpt : t ≠ p := fun e => by rw [← e, et1] at hp; cases hp
    refine for_list (xs := cutV (vI ns) none (some 4)) (fun i σ H' => ∃ (sd : Int) (x : Option V), σ = [some (.ref a), some (.ref t), some (.int many), some (.int sd), x] ∧ 0 ≤ sd ∧ sd ≤ 1000003 ∧ SameX t H H' ∧ H' t = some (.lst [.int (m + 1)]) ∧ H' p = some (.lst (cutV (vI ns) none (some 4))))
      ⟨ns.length, none, by rw [List.length_map]; rfl, by omega, by omega, s1.trans (SameX.of (same_new hp _)), (upd_ne hpt).trans et1, upd_same⟩ ?_ ?_ ?_
    · rintro i σ H' _ ⟨sd, x, _, _, _, _, _, h⟩
      exact SqL.of h
    · rintro i v σ H' hv ⟨sd, x, rfl, h0, h1, s2, et2, ep⟩
      have hmem := List.mem_of_getElem? hv
      unfold cutV at hmem
      obtain ⟨n, _, rfl⟩ := List.mem_map.mp (List.mem_of_mem_drop (List.mem_of_mem_take hmem))
      refine ⟨_, rfl, _, _, rfl, rfl, .inl ⟨by omega, by omega⟩, _, rfl, _, _, rfl, rfl, _, _, rfl, rfl, show (0 : Int) < 1000003 by omega, _, _, rfl, Int.emod_nonneg _ (by omega), ?_, s2, et2, ep⟩
      have := Int.emod_lt_of_pos (sd * 131 + n) (show (0 : Int) < 1000003 by omega)
      exact Int.le_of_lt this
    · rintro σ H' ⟨sd, x, rfl, h0, h1, s2, et2, ep⟩
      have hmm : 0 ≤ (m + 1) * (m + 1) ∧ (m + 1) * (m + 1) ≤ 1002001 := by
        constructor
        · exact Int.mul_nonneg (by omega) (by omega)
        · calc (m + 1) * (m + 1) ≤ 1001 * 1001 := Int.mul_le_mul (by omega) (by omega) (by omega) (by omega)
            _ = 1002001 := rfl
      refine ⟨_, rfl, _, _, rfl, rfl, _, rfl, t, _, 0, .int (m + 1), rfl, rfl, SqL.of et2, atI_nat (j := 0) rfl, _, rfl, t, _, 0, .int (m + 1), rfl, rfl, SqL.of et2, atI_nat (j := 0) rfl, _, _, rfl, rfl, .inl ⟨by omega, by omega⟩, _, _, rfl, rfl, _, _, rfl, rfl, .inl ⟨by omega, by omega⟩, _, _, rfl, rfl, show (0 : Int) < 1000003 by omega, _, rfl, _, _, rfl, rfl, hmany, ?_⟩
      exact q _ _ (Int.emod_nonneg _ (by omega)) (Int.emod_lt_of_pos _ hmany) s2 et2
/-! _law_whole -/
abbrev sWhole : Stmt := top 6
theorem scWhole : FnScope ["_law_found"] ["_law_found"] (defScope sWhole) := ⟨rfl, rfl, rfl, by decide +kernel, rfl, by decide +kernel, by decide +kernel⟩
def spWhole : Sp := fun vs H Q _ => ∃ i : Int, vs = [.int i] ∧ Q (.bl true) H
theorem ok_whole {f : Addr} {fd : FuncData} (F : Fun K "_law_whole" "_law_whole" sWhole f fd) (T : Tx8 mg) : FnOk P w K mg base CX0 1 f fd ["_law_found"] spWhole := by
  have sc := scWhole
  refine F.ok sc (fun vs H Q E h => ?_) (fun cdv A outer s H vs Q E hr h => ?_)
  · obtain ⟨i, rfl, _⟩ := h
    rfl
  obtain ⟨i, rfl, q⟩ := h
  refine of_XB (xb1 (xret (xandV (xcB call_isT T.n_isinstance rfl (xac (xv 0) (xac (xty (T := "int") T.n_int rfl) xa0))) (xone (xnot (xcB call_isT T.n_isinstance rfl (xac (xv 0) (xac (xty (T := "bool") T.n_bool rfl) xa0)))))))) ?_
  refine ⟨_, rfl, _, _, _, true, rfl, .int _, kit_same _ _, _, rfl, ?_⟩
  refine ite2 (fun _ => ?_) (fun c => absurd rfl c)
  exact ⟨_, rfl, _, _, "bool", false, rfl, .int _, by with_unfolding_all rfl, _, rfl, q⟩
end
end K8

set_option Elab.async false
set_option linter.all false
set_option maxRecDepth 100000
set_option maxHeartbeats 4000000
namespace K8
open PySem L2 Lm Lw
def signs8 : List Nat := ((List.range 94).map (· + 33)).filter (· != 37)
theorem signs8_len : signs8.length = 93 := by decide +kernel
theorem signs8_ne : ∀ c ∈ signs8, c ≠ 32 ∧ c < 128 := by decide +kernel
theorem sum_signs : ∀ cs : List Nat, ((cs.map fun c => S [c]).map (·.length)).sum = cs.length
  | [] => rfl
  | c :: cs => by
    have ih := sum_signs cs
    rw [List.map_cons, List.map_cons, List.sum_cons, ih, S_len, List.length_cons]
    simp
    omega
/-- a good word -/
def Wd (m : Nat) (l : List Nat) : Prop := l ≠ [] ∧ 32 ∉ l ∧ l.length ≤ m ∧ Asc l
section
variable {P : Program} {w : World} {K : PySem.W.Frag} {mg : Str → Option Value} {base : Heap}
/-! _law_word -/
abbrev sWord : Stmt := top 7
theorem scWord : FnScope ["_law_script", "_law_tape", "_law_size", "_law_signs", "_law_begin", "_law_step"] ["_law_script", "_law_tape", "_law_size"] (defScope sWord) := ⟨rfl, rfl, rfl, by decide +kernel, rfl, by decide +kernel, by decide +kernel⟩
def spWord (K : PySem.W.Frag) : Sp := fun vs H Q _ => ∃ (a t : Addr) (ns : List Int) (m size : Int), vs = [.ref a, .ref t, .int size] ∧ Scr K t H a ns ∧ ns.length ≤ 1000 ∧ H t = some (.lst [.int m]) ∧ 0 ≤ m ∧ m ≤ 998 ∧ 1 ≤ size ∧ size ≤ 1000 ∧
  ∀ l H', Wd 1000 l → l.length ≤ size → SameX t H H' → H' t = some (.lst [.int (m + 2)]) → Q (vS l) H'
theorem ok_word {f : Addr} {fd : FuncData} (F : Fun K "_law_word" "_law_word" sWord f fd) (T : Tx8 mg) (D_l_draw : Def P w K mg base 1 "_law_draw" ["_law_script", "_law_tape", "_law_many"] (spDraw K)) :
    FnOk P w K mg base CX0 2 f fd ["_law_script", "_law_tape", "_law_size"] (spWord K) := by
  have sc := scWord
  refine F.ok sc (fun vs H Q E h => ?_) (fun cdv A outer s H vs Q E hr h => ?_)
  · obtain ⟨a, t, ns, m, size, rfl, _⟩ := h
    rfl
  obtain ⟨a, t, ns, m, size, rfl, hscr, hns, et, m0, m1, z0, z1, q⟩ := h
  refine of_XB (xbc (xset (i := 3) sc.nd rfl (Or.inr rfl) xstr)
    (xbc (xset (i := 4) sc.nd rfl (Or.inr rfl) (xcD D_l_draw (hr.mono (by decide)) (xac (xv 0) (xac (xv 1) (xac xint xa0)))))
    (xbc (xset (i := 5) sc.nd rfl (Or.inr rfl) (xcD D_l_draw (hr.mono (by decide)) (xac (xv 0) (xac (xv 1) (xac xint xa0)))))
    (xb1 (xret (xm PySem.F.plainAttrs_str PySem.F.slot_str_join PySem.F.type_str_join mt_join xstr (xac (xlc (cl := [("_law_step", s.heap.objs.size + 3), ("_law_signs", s.heap.objs.size + 1), ("_law_begin", s.heap.objs.size + 2)]) (own := ["_law_k"]) (fr := [3, 4, 5]) (N' := ["_law_k", "_law_signs", "_law_begin", "_law_step"]) rfl (compN (xs := ["_law_signs", "_law_begin", "_law_step"]) ⟨rfl, ⟨rfl, ⟨rfl, trivial⟩⟩⟩ ⟨rfl, rfl, .inl rfl, .inl rfl, ⟨rfl, rfl, .inl rfl, .inl rfl, ⟨rfl, rfl, .inl rfl, .inl rfl, trivial⟩⟩⟩ (by decide +kernel)) (by decide +kernel) (by decide +kernel) (by with_unfolding_all rfl)
    (xir1 rfl T.n_range (xac (xv 2) xa0))
    (fun _ _ _ _ => xgn (i := 0) (show (["_law_k", "_law_signs", "_law_begin", "_law_step"] : List Str).Nodup by decide +kernel) rfl (Or.inl rfl)) (fun _ _ _ _ => xq0) (fun _ _ _ _ => (xix ix_str (xv 1) (xop op_mod (xop op_add (xop op_add (xv 2) (xop op_mul (xv 3) (xv 0))) (xop op_mul (xv 0) (xv 0))) xint) (fun _ _ => rfl)))) xa0))))))) ?_
  have hs : sizeLine = 16777216 := sizeLine_eq
  refine ⟨_, rfl, _, rfl, a, t, ns, m, 93, rfl, hscr, hns, et, by omega, by omega, by omega, fun b H1 b0 b1 sx1 et1 => ?_⟩
  refine ⟨_, rfl, _, rfl, a, t, ns, m + 1, 93, rfl, hscr.move sx1, hns, et1, by omega, by omega, by omega, fun c H2 c0 c1 sx2 et2 => ?_⟩
  refine ⟨rfl, _, rfl, _, rfl, by omega, by omega, ?_⟩
  refine lc_rangeA 0 (fun v => ∃ c, v = vS [c] ∧ c ≠ 32 ∧ c < 128) (by omega) ?_ ?_
  · intro i hi H' sm C N hC
    refine ⟨(nfLe.refl _ _ _).set (by decide) _, ?_⟩
    refine ⟨vS signs8, by with_unfolding_all rfl, _, rfl, _, rfl, _, rfl, _, _, rfl, rfl, .inl ⟨by omega, by omega⟩, _, _, rfl, rfl, _, rfl, _, rfl, _, _, rfl, rfl, .inl ⟨by omega, by omega⟩, _, _, rfl, rfl, _, _, rfl, rfl, show (0 : Int) < 93 by omega, ?_⟩
    generalize (b + c * (0 + (i : Nat)) + (0 + (i : Nat)) * (0 + (i : Nat)) : Int) = x
    have h1 := Int.emod_nonneg x (show (93 : Int) ≠ 0 by omega)
    have h2 := Int.emod_lt_of_pos x (show (0 : Int) < 93 by omega)
    refine w_ixs (l := signs8) (by rw [signs8_len]; decide) h1 (by rw [signs8_len]; exact h2) (hC _ _ (Same.refl _) ⟨_, rfl, ?_⟩)
    have hlt : (x % 93).toNat < signs8.length := by rw [signs8_len]; omega
    rw [List.getD_eq_getElem?_getD, List.getElem?_eq_getElem hlt]
    exact signs8_ne _ (List.getElem_mem hlt)
  · intro D H' ys hD sm eD hyl hys
    obtain ⟨cs, e, hl, hg⟩ := signs_of hys
    refine ⟨_, D, cs.map fun c => S [c], rfl, rfl, SqL.of (by rw [eD, e]), ?_, ?_⟩
    · rw [sum_signs]
      refine big ?_
      rw [List.length_map]
      show cs.length + cs.length * 0 ≤ _
      omega
    · rw [join_signs]
      refine q cs H' ⟨fun z => ?_, fun z => (hg 32 z).1 rfl, by omega, fun c hc => (hg c hc).2⟩ (by omega) (sx1.trans (sx2.trans (SameX.of sm))) (sm _ _ (by rw [et2]; congr 4; omega))
      rw [z] at hl
      simp at hl
      omega
/-! _law_words -/
abbrev sWords : Stmt := top 8
theorem scWords : FnScope ["_law_script", "_law_tape", "_law_width", "_law_many", "_law_words_here", "_law_k", "_law_way", "_law_size"] ["_law_script", "_law_tape", "_law_width", "_law_many"] (defScope sWords) := ⟨rfl, rfl, rfl, by decide +kernel, rfl, by decide +kernel, by decide +kernel⟩
def spWords8 (K : PySem.W.Frag) : Sp := fun vs H Q _ => ∃ (a t : Addr) (ns : List Int) (m : Int) (width many : Nat), vs = [.ref a, .ref t, .int width, .int many] ∧ Scr K t H a ns ∧ ns.length ≤ 1000 ∧ H t = some (.lst [.int m]) ∧ 0 ≤ m ∧ m + 5 * many ≤ 990 ∧ 2 ≤ width ∧ width ≤ 40 ∧ many ≤ 20 ∧
  ∀ p (ws : List (List Nat)) (m' : Int) H', H p = none → SameX t H H' → H' p = some (.lst (ws.map vS)) → H' t = some (.lst [.int m']) → m ≤ m' → m' ≤ m + 5 * many → ws.length = many → (∀ w ∈ ws, Wd 1000 w) → Q (.ref p) H'
structure WdsAt (t p : Addr) (H0 : Hp) (ws : List (List Nat)) (m : Int) (H : Hp) : Prop where
  sx : SameX t H0 H
  et : H t = some (.lst [.int m])
  ep : H p = some (.lst (ws.map vS))
theorem WdsAt.move {t p : Addr} {H0 H H' : Hp} {ws : List (List Nat)} {m m' : Int} (h : WdsAt t p H0 ws m H) (hp : p ≠ t) (sx : SameX t H H') (et : H' t = some (.lst [.int m'])) : WdsAt t p H0 ws m' H' := ⟨h.sx.trans sx, et, sx _ _ hp h.ep⟩
theorem WdsAt.same {t p : Addr} {H0 H H' : Hp} {ws : List (List Nat)} {m : Int} (h : WdsAt t p H0 ws m H) (sx : Same H H') : WdsAt t p H0 ws m H' := ⟨h.sx.trans (SameX.of sx), sx _ _ h.et, sx _ _ h.ep⟩
theorem ok_words {f : Addr} {fd : FuncData} (F : Fun K "_law_words" "_law_words" sWords f fd) (T : Tx8 mg) (D_l_draw : Def P w K mg base 1 "_law_draw" ["_law_script", "_law_tape", "_law_many"] (spDraw K)) (D_l_word : Def P w K mg base 2 "_law_word" ["_law_script", "_law_tape", "_law_size"] (spWord K)) :
    FnOk P w K mg base CX0 3 f fd ["_law_script", "_law_tape", "_law_width", "_law_many"] (spWords8 K) := by
  have sc := scWords
  refine F.ok sc (fun vs H Q E h => ?_) (fun cdv A outer s H vs Q E hr h => ?_)
  · obtain ⟨a, t, ns, m, width, many, rfl, _⟩ := h
    rfl
  obtain ⟨a, t, ns, m, width, many, rfl, hscr, hns, et, m0, m1, w0, w1, k1, q⟩ := h
  refine of_XB (xbc (xset (i := 4) sc.nd rfl (Or.inl rfl) (xlst xa0))
    (xbc (xfor PassesOwn.never rfl (xir1 rfl T.n_range (xac (xv 3) xa0)) (xgn (i := 5) sc.nd rfl (Or.inl rfl))
    (xbc (xset (i := 6) sc.nd rfl (Or.inl rfl) (xcD D_l_draw (hr.mono (by decide)) (xac (xv 0) (xac (xv 1) (xac xint xa0)))))
    (xbc (xset (i := 7) sc.nd rfl (Or.inl rfl) (xop op_add xint (xcD D_l_draw (hr.mono (by decide)) (xac (xv 0) (xac (xv 1) (xac xint xa0))))))
    (xbc (xif (xor (xcmpT op_eq (xv 6) xint (nomark _)) (xor1 (xcmpT op_eq (xv 6) xint (nomark _)))).xt (xb1 (xset (i := 7) sc.nd rfl (Or.inl rfl) (xcB (call_max2 rfl) T.n_max rfl (xac xint (xac (xop op_add (xop op_sub (xv 2) xint) (xcD D_l_draw (hr.mono (by decide)) (xac (xv 0) (xac (xv 1) (xac xint xa0))))) xa0))))) xb0)
    (xbc (xif (xcmpT op_eq (xv 6) xint (nomark _)) (xb1 (xset (i := 7) sc.nd rfl (Or.inl rfl) (xop op_add xint (xcD D_l_draw (hr.mono (by decide)) (xac (xv 0) (xac (xv 1) (xac (xop op_add (xop op_mul xint (xv 2)) xint) xa0))))))) xb0)
    (xb1 (xexpr (xm PySem.F.plainAttrs_list PySem.F.slot_list_append PySem.F.type_list_append mt_append (xv 4) (xac (xcD D_l_word (hr.mono (by decide)) (xac (xv 0) (xac (xv 1) (xac (xv 7) xa0)))) xa0)))))))))
    (xb1 (xret (xv 4))))) ?_
  have hs : sizeLine = 16777216 := sizeLine_eq
  refine ⟨big (show (0 : Nat) ≤ 1000000 by decide), fun p hp => ?_⟩
  have hpt : p ≠ t := fun z => by rw [z, et] at hp; cases hp
  have A1 : WdsAt t p H [] m (upd H p (.lst [])) := ⟨SameX.of (same_new hp _), (upd_ne (Ne.symm hpt)).trans et, upd_same⟩
  dsimp only [gName]
  generalize upd H p (.lst []) = H1 at A1 ⊢
  refine ⟨_, rfl, _, rfl, by omega, by omega, ?_⟩
  rw [Int.toNat_natCast]
  refine for_range (fun i σ H' => ∃ ws m' x5 x6 x7, σ = [some (.ref a), some (.ref t), some (.int width), some (.int many), some (.ref p), x5, x6, x7] ∧ WdsAt t p H ws m' H' ∧ m ≤ m' ∧ m' ≤ m + 5 * (i : Nat) ∧ ws.length = i ∧ ∀ w ∈ ws, Wd 1000 w)
    ⟨[], m, none, none, none, rfl, A1, by omega, by omega, rfl, fun _ z => nomatch z⟩ ?_ ?_
  · rintro i σ H2 hi ⟨ws, m', x5, x6, x7, rfl, A2, l1, l2, hwl, hw⟩
    dsimp only [gName]
    have hsc := fun {H' : Hp} (h : SameX t H H') => hscr.move h
    refine ⟨_, rfl, _, rfl, a, t, ns, m', 8, rfl, hsc A2.sx, hns, A2.et, by omega, by omega, by omega, fun way H3 _ _ sx3 et3 => ?_⟩
    have A3 := A2.move hpt sx3 et3
    refine ⟨_, rfl, _, rfl, a, t, ns, m' + 1, 6, rfl, hsc A3.sx, hns, A3.et, by omega, by omega, by omega, fun z0 H4 z00 z01 sx4 et4 => ⟨_, _, rfl, rfl, ?_⟩⟩
    have A4 := A3.move hpt sx4 et4
    dsimp only [gName]
    refine s_join (fun σ' H' => ∃ (size m2 : Int), σ' = [some (.ref a), some (.ref t), some (.int width), some (.int many), some (.ref p), some (.int (0 + (i : Nat))), some (.int way), some (.int size)] ∧ WdsAt t p H ws m2 H' ∧ m' ≤ m2 ∧ m2 ≤ m' + 3 ∧ 1 ≤ size ∧ size ≤ 1000 ∧ (way = 7 → m2 ≤ m' + 2)) (fun N hN => ?_) ?_
    · refine s_if _ (t_or _ _ (t_eqi (ev_v rfl) ev_c) (fun _ H5 s5 => t_eqi (ev_v rfl) ev_c)) (fun H5 s5 c => ?_) (fun H5 s5 c => ?_)
      · have A5 := A4.same s5
        have hway : way ≠ 7 := by
          rcases Bool.or_eq_true_iff.mp c with c | c <;> (have := of_decide_eq_true c; omega)
        refine ⟨_, rfl, _, _, rfl, rfl, _, rfl, _, rfl, a, t, ns, _, 6, rfl, hsc A5.sx, hns, A5.et, by omega, by omega, by omega, fun z1 H6 z10 z11 sx6 et6 => ⟨_, _, rfl, rfl, _, _, rfl, ?_⟩⟩
        have A6 := A5.move hpt sx6 et6
        refine hN _ _ ⟨_, _, rfl, A6, by omega, by omega, ?_, ?_, fun z => absurd z hway⟩
        · split <;> omega
        · split <;> omega
      · exact hN _ _ ⟨_, _, rfl, A4.same s5, by omega, by omega, by omega, by omega, fun _ => by omega⟩
    rintro σ5 H5 ⟨size, m2, rfl, A5, l3, l4, l5, l6, l7⟩
    refine s_join (fun σ' H' => ∃ (size m2 : Int), σ' = [some (.ref a), some (.ref t), some (.int width), some (.int many), some (.ref p), some (.int (0 + (i : Nat))), some (.int way), some (.int size)] ∧ WdsAt t p H ws m2 H' ∧ m' ≤ m2 ∧ m2 ≤ m' + 3 ∧ 1 ≤ size ∧ size ≤ 1000) (fun N hN => ?_) ?_
    · refine s_if _ (t_eqi (ev_v rfl) ev_c) (fun H6 s6 c => ?_) (fun H6 s6 c => ?_)
      · have A6 := A5.same s6
        have hway := l7 (of_decide_eq_true c)
        refine ⟨_, rfl, _, rfl, _, rfl, _, _, rfl, rfl, .inl ⟨by omega, by omega⟩, _, _, rfl, rfl, a, t, ns, _, 3 * (width : Nat) + 2, rfl, hsc A6.sx, hns, A6.et, by omega, by omega, by omega, fun z1 H7 z10 z11 sx7 et7 => ⟨_, _, rfl, rfl, ?_⟩⟩
        exact hN _ _ ⟨_, _, rfl, A6.move hpt sx7 et7, by omega, by omega, by omega, by omega⟩
      · exact hN _ _ ⟨_, _, rfl, A5.same s6, by omega, by omega, by omega, by omega⟩
    rintro σ6 H6 ⟨size, m3, rfl, A6, l8, l9, l10, l11⟩
    refine ⟨_, rfl, .inl ⟨rfl, _, SqL.of A6.ep⟩, _, rfl, _, rfl, _, rfl, a, t, ns, m3, size, rfl, hsc A6.sx, hns, A6.et, by omega, by omega, by omega, by omega, fun l H7 hl _ sx7 et7 => ?_⟩
    have A7 := A6.move hpt sx7 et7
    refine ⟨p, _, _, rfl, rfl, A7.ep, ?_, ?_⟩
    · rw [List.length_map]; omega
    refine ⟨ws ++ [l], m3 + 2, _, _, _, rfl, ⟨?_, (upd_ne (Ne.symm hpt)).trans A7.et, upd_same.trans (by rw [List.map_append]; rfl)⟩, by omega, by omega, by rw [List.length_append, hwl]; rfl, ?_⟩
    · intro b o nb hb
      rw [upd_ne (fun z => by rw [z, hp] at hb; cases hb)]
      exact A7.sx b o nb hb
    · intro x hx
      rcases List.mem_append.mp hx with hx | hx
      · exact hw x hx
      · rw [show x = l by simpa using hx]; exact hl
  · rintro σ H2 ⟨ws, m', x5, x6, x7, rfl, A2, l1, l2, hwl, hw⟩
    exact ⟨_, rfl, q p ws m' H2 hp A2.sx A2.ep A2.et l1 l2 hwl hw⟩
/-! _law_lead -/
abbrev sLead : Stmt := top 9
theorem scLead : FnScope ["_law_kind", "_law_wide", "_law_number"] ["_law_kind", "_law_wide", "_law_number"] (defScope sLead) := ⟨rfl, rfl, rfl, by decide +kernel, rfl, by decide +kernel, by decide +kernel⟩
def spLead : Sp := fun vs H Q _ => ∃ kind wide n : Nat, vs = [.int kind, .int wide, .int n] ∧ kind ≤ 3 ∧ wide ≤ 1000 ∧ n ≤ 4000000 ∧ ∀ H', Same H H' → Q (vS (leadC kind wide n)) H'
theorem ok_lead {f : Addr} {fd : FuncData} (F : Fun K "_law_lead" "_law_lead" sLead f fd) (T : Tx8 mg) : FnOk P w K mg base CX0 1 f fd ["_law_kind", "_law_wide", "_law_number"] spLead := by
  have sc := scLead
  refine F.ok sc (fun vs H Q E h => ?_) (fun cdv A outer s H vs Q E hr h => ?_)
  · obtain ⟨kind, wide, n, rfl, _⟩ := h
    rfl
  obtain ⟨kind, wide, n, rfl, k3, w0, n0, q⟩ := h
  refine of_XB (xbc (xif (xcmpT op_eq (xv 0) xint (nomark _)) (xb1 (xret xstr)) xb0)
    (xbc (xif (xcmpT op_eq (xv 0) xint (nomark _)) (xb1 (xret (xop op_mul_str xstr (xv 1)))) xb0)
    (xbc (xif (xcmpT op_eq (xv 0) xint (nomark _)) (xb1 (xret (xix ix_list (xlst (xac (xop op_mul_str xstr (xv 1)) (xac (xop op_mul_str xstr (xv 1)) xa0))) (xcTy call_int1 T.n_int rfl (xac (xcmp op_gt (xv 2) xint (nomark _)) xa0)) (fun _ _ => rfl)))) xb0)
    (xb1 (xret (xop op_mul_str xstr (xop op_mod (xop op_add (xv 1) (xop op_mul xint (xv 2))) (xop op_add (xv 1) xint)))))))) ?_
  have hs : sizeLine = 16777216 := sizeLine_eq
  unfold leadC at q
  dsimp only [tSeq, tNext]
  refine s_if _ (t_eqi (ev_v rfl) ev_c) (fun H1 s1 c => ?_) (fun H1 s1 c => ?_)
  · have c := of_decide_eq_true c
    rw [if_pos (by omega)] at q
    exact q H1 s1
  have c := of_decide_eq_false c
  rw [if_neg (by omega)] at q
  dsimp only [tSeq, tNext]
  refine s_if _ (t_eqi (ev_v rfl) ev_c) (fun H2 s2 c2 => ?_) (fun H2 s2 c2 => ?_)
  · have c2 := of_decide_eq_true c2
    rw [if_pos (by omega)] at q
    refine ⟨_, rfl, _, _, rfl, rfl, rfl, by omega, by omega, ?_⟩
    rw [show Txt.mul (Str.ofString "+") (wide : Int) = S (List.replicate wide 43) from mul_S 43 wide]
    exact q H2 (s1.trans s2)
  have c2 := of_decide_eq_false c2
  rw [if_neg (by omega)] at q
  dsimp only [tSeq, tNext]
  refine s_if _ (t_eqi (ev_v rfl) ev_c) (fun H3 s3 c3 => ?_) (fun H3 s3 c3 => ?_)
  · have c3 := of_decide_eq_true c3
    rw [if_pos (by omega)] at q
    refine ⟨_, rfl, _, _, rfl, rfl, rfl, by omega, by omega, _, rfl, _, _, rfl, rfl, rfl, by omega, by omega, by rw [hs]; show 2 ≤ 16777216; decide, fun p hp => ?_⟩
    refine ⟨_, rfl, _, _, rfl, rfl, .inr ⟨_, rfl, ?_⟩⟩
    rw [show Txt.mul (Str.ofString "-") (wide : Int) = S (List.replicate wide 45) from mul_S 45 wide, show Txt.mul (Str.ofString " ") (wide : Int) = S (List.replicate wide 32) from mul_S 32 wide]
    have s4 := (s1.trans s2).trans (s3.trans (same_new hp (.lst [vS (List.replicate wide 45), vS (List.replicate wide 32)])))
    by_cases hn : n = 0
    · rw [if_pos hn] at q
      refine ⟨p, _, _, vS (List.replicate wide 45), rfl, rfl, SqL.of upd_same, ?_, q _ s4⟩
      rw [if_neg (by rw [decide_eq_true_iff]; omega)]
      exact atI_nat (j := 0) rfl
    · rw [if_neg hn] at q
      refine ⟨p, _, _, vS (List.replicate wide 32), rfl, rfl, SqL.of upd_same, ?_, q _ s4⟩
      rw [if_pos (by rw [decide_eq_true_iff]; omega)]
      exact atI_nat (j := 1) rfl
  have c3 := of_decide_eq_false c3
  rw [if_neg (by omega)] at q
  refine ⟨_, rfl, _, rfl, _, _, rfl, rfl, .inl ⟨by omega, by omega⟩, _, _, rfl, rfl, _, rfl, _, _, rfl, rfl, _, _, rfl, rfl, show (0 : Int) < wide + 1 by omega, ?_⟩
  have e : ((wide : Int) + 5 * (n : Int)) % ((wide : Int) + 1) = (((wide + 5 * n) % (wide + 1) : Nat) : Int) := by
    rw [Int.natCast_emod]; rfl
  dsimp only
  rw [e]
  have hm := Nat.mod_lt (wide + 5 * n) (show 0 < wide + 1 by omega)
  refine ⟨_, _, rfl, rfl, rfl, by omega, by omega, ?_⟩
  rw [show Txt.mul (Str.ofString ">") (((wide + 5 * n) % (wide + 1) : Nat) : Int) = S (List.replicate ((wide + 5 * n) % (wide + 1)) 62) from mul_S 62 _]
  exact q H3 (s1.trans (s2.trans s3))
end
end K8

set_option Elab.async false
set_option linter.all false
set_option maxRecDepth 100000
set_option maxHeartbeats 4000000
namespace K8
open PySem L2 Lm Lw
theorem eqv_nil (ts : List (List Nat)) : PyData.eqv (.list (dT ts)) (.list []) = ts.isEmpty := by
  cases ts with
  | nil => rfl
  | cons t ts => rfl
theorem ixN_0 (n : Nat) : ixN (n + 1) 0 = some 0 := by unfold ixN; rw [if_pos (Int.le_refl 0), if_pos (by omega)]; rfl
theorem dep_dT6 (ts : List (List Nat)) : PyData.depth (.list (dT ts)) ≤ 6 := by
  have := dep_dT ts
  simp only [PyData.depth]
  omega
/-- a test that does not hold, with nothing for that -/
theorem s_no {t : TT} {f u : TS} {D : Ends} {σ : St} {H : Hp} (ht : Tells t σ H false) (k : ∀ H', Same H H' → u D σ H') : tSeq (tIfS t f tNext) u D σ H := s_if false ht (fun _ _ z => Bool.noConfusion z) (fun H' s' _ => k H' s')
/-- the words that are left, at a list of their own -/
structure LeftAt (lf : Addr) (H0 : Hp) (lw : List (List Nat)) (H : Hp) : Prop where
  sm : Same H0 H
  el : H lf = some (.lst (lw.map vS))
theorem LeftAt.same {lf : Addr} {H0 H H' : Hp} {lw : List (List Nat)} (h : LeftAt lf H0 lw H) (s : Same H H') : LeftAt lf H0 lw H' := ⟨h.sm.trans s, s _ _ h.el⟩
theorem LeftAt.put {lf : Addr} {H0 H : Hp} {lw lw' : List (List Nat)} {xs : List V} (h : LeftAt lf H0 lw H) (hl : H0 lf = none) (e : xs = lw'.map vS) : LeftAt lf H0 lw' (upd H lf (.lst xs)) := ⟨fun b o hb => by rw [upd_ne (fun z => by rw [z, hl] at hb; cases hb)]; exact h.sm b o hb, by rw [upd_same, e]⟩
section
variable {K : PySem.W.Frag} {σ : St} {H : Hp} {lf : Addr} {i : Nat}
theorem ev_hd {w : List Nat} {r : List (List Nat)} (hi : σ[i]? = some (some (.ref lf))) (h : H lf = some (.lst ((w :: r).map vS))) : Ev (tOp (rIxL K) (tVar i) (tC (.int 0))) σ H (vS w) := fun R rr => ⟨_, hi, lf, _, 0, _, rfl, rfl, SqL.of h, atI_nat (j := 0) rfl, rr⟩
theorem t_nil {lw : List (List Nat)} (hi : σ[i]? = some (some (.ref lf))) (h : H lf = some (.lst (lw.map vS))) (ha : ∀ w ∈ lw, Asc w) : Tells (tTest (tOp (rEqG K false) (tVar i) (tLst tNil))) σ H lw.isEmpty := fun R k => by
  refine ⟨_, hi, big (show (0 : Nat) ≤ 1000000 by decide), fun p hp => ?_⟩
  have s1 := same_new hp (.lst [])
  refine ⟨.list (dT lw), .list [], .lst (SqL.of (s1 _ _ h)) (den_dT ha), .lst (SqL.of upd_same) .nil, dep_dT6 _, by decide, _, rfl, ?_⟩
  rw [eqv_nil]
  exact k _ s1
theorem t_notnil {lw : List (List Nat)} (hi : σ[i]? = some (some (.ref lf))) (h : H lf = some (.lst (lw.map vS))) (ha : ∀ w ∈ lw, Asc w) : Tells (tTest (tOp (rEqG K true) (tVar i) (tLst tNil))) σ H (!lw.isEmpty) := fun R k => by
  refine ⟨_, hi, big (show (0 : Nat) ≤ 1000000 by decide), fun p hp => ?_⟩
  have s1 := same_new hp (.lst [])
  refine ⟨.list (dT lw), .list [], .lst (SqL.of (s1 _ _ h)) (den_dT ha), .lst (SqL.of upd_same) .nil, dep_dT6 _, by decide, _, rfl, ?_⟩
  rw [eqv_nil]
  exact k _ s1
theorem t_rel {p : Int → Int → Bool} {ta tb : TE} {x y : Int} (h1 : Ev ta σ H (.int x)) (h2 : Ev tb σ H (.int y)) : Tells (tTest (tOp (rI0 fun i j => .bl (p i j)) ta tb)) σ H (p x y) := fun R k => h1 _ (h2 _ ⟨x, y, rfl, rfl, _, rfl, k _ (Same.refl _)⟩)
theorem pop_hd {w : List Nat} {r : List (List Nat)} {R : VK} (h : H lf = some (.lst ((w :: r).map vS))) (q : R (vS w) (upd H lf (.lst (r.map vS)))) : rPopAt (.ref lf) [.int 0] H R :=
  ⟨lf, _, 0, 0, vS w, rfl, rfl, h, by decide, by decide, by
    unfold seqIndex?
    simp only [List.map_cons, List.length_cons]
    first
      | (rw [if_pos (by omega)]; rfl)
      | simp, rfl, q⟩
end
section
variable {P : Program} {w : World} {K : PySem.W.Frag} {mg : Str → Option Value} {base : Heap}
abbrev sRight : Stmt := top 10
theorem scRight : FnScope ["_law_words_here", "_law_width", "_law_kind", "_law_wide", "_law_rows", "_law_left", "_law_number", "_law_row", "_law_ahead", "_law_room", "_law_due"] ["_law_words_here", "_law_width", "_law_kind", "_law_wide", "_law_rows"] (defScope sRight) := ⟨rfl, rfl, rfl, by decide +kernel, rfl, by decide +kernel, by decide +kernel⟩
def spRight : Sp := fun vs H Q _ => ∃ (aw ar : Addr) (ws rows : List (List Nat)) (width kind wide : Nat), vs = [.ref aw, .int width, .int kind, .int wide, .ref ar] ∧ H aw = some (.lst (ws.map vS)) ∧ H ar = some (.lst (rows.map vS)) ∧
  Filled width (leadC kind wide) 0 ws rows ∧ (∀ w ∈ ws, Wd 1000 w) ∧ ws.length ≤ 20 ∧ wide < width ∧ width ≤ 40 ∧ kind ≤ 3 ∧ ∀ H', Same H H' → Q (.bl true) H'
theorem ok_right {f : Addr} {fd : FuncData} (F : Fun K "_law_rows_right" "_law_rows_right" sRight f fd) (T : Tx8 mg) (D_l_lead : Def P w K mg base 1 "_law_lead" ["_law_kind", "_law_wide", "_law_number"] spLead) :
    FnOk P w K mg base CX0 2 f fd ["_law_words_here", "_law_width", "_law_kind", "_law_wide", "_law_rows"] spRight := by
  have sc := scRight
  refine F.ok sc (fun vs H Q E h => ?_) (fun cdv A outer s H vs Q E hr h => ?_)
  · obtain ⟨aw, ar, ws, rows, width, kind, wide, rfl, _⟩ := h
    rfl
  obtain ⟨aw, ar, ws, rows, width, kind, wide, rfl, ew, er, hF, hw, hwl, w0, w1, k3, q⟩ := h
  have hu : (A.deeper (PyProof.Rows.envOfC "_law_rows_right" (defScope sRight) s.heap.objs.size f cdv)).units + 64 < cLine := by
    have := hr.un
    omega
  refine of_XB (xbc (xset (i := 5) sc.nd rfl (Or.inl rfl) (xcTy call_list_of T.n_list rfl (xac (xv 0) xa0)))
    (xbc (xfor PassesOwn.never rfl (xie T.n_enumerate (xac (xv 4) xa0)) (xgt rfl (xgsc (xgn (i := 6) sc.nd rfl (Or.inl rfl)) (xgsc (xgn (i := 7) sc.nd rfl (Or.inl rfl)) xgs0)))
    (xbc (xset (i := 8) sc.nd rfl (Or.inl rfl) (xcD D_l_lead (hr.mono (by decide)) (xac (xv 2) (xac (xv 3) (xac (xv 6) xa0)))))
    (xbc (xset (i := 9) sc.nd rfl (Or.inl rfl) (xop op_sub (xv 1) (xcB call_len_str T.n_len PySem.boot_len (xac (xv 8) xa0))))
    (xbc (xif (xor (xnotT (xvalT (xcB call_isT T.n_isinstance rfl (xac (xv 7) (xac (xty (T := "str") T.n_str rfl) xa0))))) (xor (xcmpT op_ne (xsl sl_str (xv 7) xo0 (xo1 (xcB call_len_str T.n_len PySem.boot_len (xac (xv 8) xa0)))) (xv 8) (nomark _)) (xor1 (xcmpT (op_eqG hu) (xv 5) (xlst xa0) (nomark _))))).xt (xb1 (xret xbl)) xb0)
    (xbc (xif (xcmpT op_gt (xcB call_len_str T.n_len PySem.boot_len (xac (xix ix_list (xv 5) xint (fun _ _ => rfl)) xa0)) (xv 9) (nomark _)) (xbc (xset (i := 10) sc.nd rfl (Or.inl rfl) (xsl sl_str (xix ix_list (xv 5) xint (fun _ _ => rfl)) xo0 (xo1 (xv 9))))
    (xb1 (xasg (xsl sl_str (xix ix_list (xv 5) xint (fun _ _ => rfl)) (xo1 (xv 9)) xo0) (xgsub (xv 5) xint set_list)))) (xbc (xset (i := 10) sc.nd rfl (Or.inl rfl) (xm PySem.F.plainAttrs_list PySem.F.slot_list_pop PySem.F.type_list_pop mt_popAt (xv 5) (xac xint xa0)))
    (xb1 (xwhile PassesOwn.never (xand (xcmpT (op_neG hu) (xv 5) (xlst xa0) (nomark _)) (xand1 (xcmpT op_le (xop op_add (xop op_add (xcB call_len_str T.n_len PySem.boot_len (xac (xv 10) xa0)) xint) (xcB call_len_str T.n_len PySem.boot_len (xac (xix ix_list (xv 5) xint (fun _ _ => rfl)) xa0))) (xv 9) (nomark _)))).xt
    (xb1 (xset (i := 10) sc.nd rfl (Or.inl rfl) (xop op_add_str (xop op_add_str (xv 10) xstr) (xm PySem.F.plainAttrs_list PySem.F.slot_list_pop PySem.F.type_list_pop mt_popAt (xv 5) (xac xint xa0)))))))))
    (xb1 (xif (xcmpT op_ne (xv 7) (xop op_add_str (xv 8) (xv 10)) (nomark _)) (xb1 (xret xbl)) xb0)))))))
    (xb1 (xret (xcmp (op_eqG hu) (xv 5) (xlst xa0) (nomark _)))))) ?_
  have hs : sizeLine = 16777216 := sizeLine_eq
  have hL : ∀ n, (leadC kind wide n).length < width := fun n => Nat.lt_of_le_of_lt (lead_len kind wide n) w0
  have hcnt := hF.count hL
  have htot := tot_le (m := 1000) fun x hx => (hw x hx).2.2.1
  have hwide := hF.wide hL
  have hrl : rows.length ≤ 20020 := Nat.le_trans hcnt (Nat.le_trans htot (by omega))
  refine ⟨_, rfl, aw, _, rfl, .inl (SqL.of ew), fun lf hlf => ?_⟩
  have A1 : LeftAt lf H ws (upd H lf (.lst (ws.map vS))) := ⟨same_new hlf _, upd_same⟩
  dsimp only [gName]
  generalize upd H lf (.lst (ws.map vS)) = H1 at A1 ⊢
  refine ⟨_, rfl, ar, _, rfl, A1.sm _ _ er, ?_⟩
  refine for_any rows.length (fun i σ H' => ∃ lw x6 x7 x8 x9 x10, σ = [some (.ref aw), some (.int width), some (.int kind), some (.int wide), some (.ref ar), some (.ref lf), x6, x7, x8, x9, x10] ∧ LeftAt lf H lw H' ∧ Filled width (leadC kind wide) i lw (rows.drop i) ∧ ∀ w ∈ lw, w.length ≤ 1000 ∧ Asc w)
    ⟨ws, none, none, none, none, none, rfl, A1, hF, fun x hx => ⟨(hw x hx).2.2.1, (hw x hx).2.2.2⟩⟩ ?_ ?_ ?_ ?_
  · rintro i σ H2 hi ⟨lw, _, _, _, _, _, _, A2, _⟩
    exact ⟨_, _, SqL.of (A2.sm _ _ er), by rw [List.getElem?_map, List.getElem?_eq_getElem hi]; rfl⟩
  · rintro σ H2 ⟨lw, _, _, _, _, _, _, A2, _⟩
    exact ⟨_, SqL.of (A2.sm _ _ er), by rw [List.length_map]; exact Nat.le_refl _⟩
  · rintro i σ H2 x H3 hi ⟨lw, x6, x7, x8, x9, x10, rfl, A2, hF2, hlw⟩ ⟨T, y, hy, hT, rfl, rfl⟩
    have hy2 := hy _ (SqL.of (A2.sm _ _ er))
    rw [List.getElem?_map, List.getElem?_eq_getElem hi] at hy2
    have hy3 : y = vS rows[i] := (Option.some.inj hy2).symm
    subst hy3
    have hrow := hwide rows[i] (List.getElem_mem hi)
    rw [List.drop_eq_getElem_cons hi] at hF2
    generalize rows[i] = r at *
    refine ⟨T, _, rfl, SqT.of upd_same, rfl, _, _, rfl, _, _, rfl, rfl, ?_⟩
    have A3 := A2.same (same_new hT (.tup [.int i, vS r]))
    dsimp only [gName]
    generalize upd H2 T (.tup [.int i, vS r]) = H3 at A3 ⊢
    refine ⟨_, rfl, _, rfl, _, rfl, kind, wide, i, rfl, k3, by omega, by omega, fun H4 s4 => ?_⟩
    have A4 := A3.same s4
    have hLi := hL i
    have hAL : Asc (leadC kind wide i) := by
      unfold leadC
      intro c hc
      split at hc
      · cases hc
      · split at hc
        · rw [(List.mem_replicate.mp hc).2]; decide
        · split at hc
          · split at hc <;> (rw [(List.mem_replicate.mp hc).2]; decide)
          · rw [(List.mem_replicate.mp hc).2]; decide
    generalize hLe : leadC kind wide i = L at *
    dsimp only [gName]
    refine ⟨_, rfl, _, rfl, _, rfl, bigS (by omega), _, _, rfl, rfl, ?_⟩
    obtain ⟨room, hroom⟩ : ∃ room : Nat, room = width - L.length := ⟨_, rfl⟩
    dsimp only [gName]
    rw [S_len, show (width : Int) - (L.length : Nat) = (room : Nat) by omega]
    have hr1 : 1 ≤ room := by omega
    -- the row
    obtain ⟨wd, lr, rfl⟩ : ∃ wd lr, lw = wd :: lr := by
      cases hF2 with
      | cut _ w r rows _ _ => exact ⟨_, _, rfl⟩
      | row _ w r rows _ _ => exact ⟨_, _, rfl⟩
    obtain ⟨due, left, hdue, hF3, hcase⟩ : ∃ due left, r = L ++ due ∧ Filled width (leadC kind wide) (i + 1) left (rows.drop (i + 1)) ∧
        ((room < wd.length ∧ due = wd.take room ∧ left = wd.drop room :: lr) ∨ (wd.length ≤ room ∧ fitC room wd lr = (due, left))) := by
      cases hF2 with
      | cut _ w r rows hc hf =>
        rw [hLe, ← hroom] at hf
        rw [hLe, ← hroom] at hc
        exact ⟨wd.take room, wd.drop room :: lr, by rw [hLe, hroom], hf, .inl ⟨hc, rfl, rfl⟩⟩
      | row _ w r rows hc hf =>
        rw [hLe, ← hroom] at hf
        rw [hLe, ← hroom] at hc
        exact ⟨(fitC room wd lr).1, (fitC room wd lr).2, by rw [hLe, hroom], hf, .inr ⟨hc, rfl⟩⟩
    have hwd := hlw wd List.mem_cons_self
    have hduel : due.length ≤ 40 := by rw [hdue, List.length_append] at hrow; omega
    refine s_no (t_or false false (t_not true fun R k => ⟨_, rfl, _, _, _, true, rfl, .str _, kit_same _ _, _, rfl, k _ (Same.refl _)⟩) (fun _ H5 s5 => t_or false false (fun R k => ?_) (fun _ H6 s6 => t_nil (lw := wd :: lr) rfl (s6 _ _ (s5 _ _ A4.el)) fun x hx => (hlw x hx).2))) (fun H5 s5 => ?_)
    · refine ⟨_, rfl, _, rfl, _, rfl, bigS (by omega), _, rfl, _, rfl, bigS (by omega), _, rfl, rfl, _, rfl, ?_⟩
      rw [slice_S, S_len, cut_to, hdue, List.take_left, show (!decide (vS L = vS L)) = false by simp]
      exact k _ (Same.refl _)
    have A5 := A4.same s5
    clear A4 A3 s5 s4
    refine s_join (fun σ' H' => σ' = [some (.ref aw), some (.int width), some (.int kind), some (.int wide), some (.ref ar), some (.ref lf), some (.int i), some (vS r), some (vS L), some (.int room), some (vS due)] ∧ LeftAt lf H left H' ∧ ∀ w ∈ left, w.length ≤ 1000 ∧ Asc w) (fun N hN => ?_) ?_
    · refine s_if (decide ((room : Int) < (wd.length : Nat))) (t_rel (p := fun i j => decide (j < i)) (x := (wd.length : Nat)) (y := (room : Nat)) (ev_len (by omega) (ev_hd (w := wd) (r := lr) rfl A5.el)) (ev_v rfl)) (fun H6 s6 c => ?_) (fun H6 s6 c => ?_)
      · have c := of_decide_eq_true c
        have A6 := A5.same s6
        rcases hcase with ⟨_, hd1, hd2⟩ | ⟨h1, _⟩
        · refine ev_hd rfl A6.el _ ⟨_, rfl, _, rfl, _, rfl, bigS (by omega), ?_⟩
          rw [slice_S, cut_to, ← hd1]
          dsimp only [gName]
          refine ev_hd rfl A6.el _ ⟨_, rfl, _, rfl, _, rfl, bigS (by omega), ?_⟩
          rw [slice_S, cut_from]
          refine ⟨_, rfl, lf, _, 0, 0, rfl, rfl, A6.el, by rw [List.length_map, List.length_cons]; exact ixN_0 _, ?_⟩
          refine hN _ _ ⟨rfl, A6.put hlf (by rw [hd2]; rfl), fun x hx => ?_⟩
          rw [hd2] at hx
          rcases List.mem_cons.mp hx with rfl | hx
          · exact ⟨by rw [List.length_drop]; omega, hwd.2.drop _⟩
          · exact hlw x (List.mem_cons_of_mem _ hx)
        · omega
      · have c := of_decide_eq_false c
        have A6 := A5.same s6
        rcases hcase with ⟨h1, _, _⟩ | ⟨h1, hfit⟩
        · omega
        refine ⟨_, rfl, .inl ⟨rfl, _, SqL.of A6.el⟩, pop_hd A6.el ?_⟩
        have A7 : LeftAt lf H lr (upd H6 lf (.lst (lr.map vS))) := A6.put hlf rfl
        dsimp only [gName]
        generalize upd H6 lf (.lst (lr.map vS)) = H7 at A7 ⊢
        refine while_t (fun m σ H' => ∃ d l, m = l.length ∧ σ = [some (.ref aw), some (.int width), some (.int kind), some (.int wide), some (.ref ar), some (.ref lf), some (.int i), some (vS r), some (vS L), some (.int room), some (vS d)] ∧ LeftAt lf H l H' ∧ fitC room d l = (due, left) ∧ d.length ≤ 40 ∧ ∀ w ∈ l, w.length ≤ 1000 ∧ Asc w) lr.length
          ⟨wd, lr, rfl, rfl, A7, hfit, by omega, fun x hx => hlw x (List.mem_cons_of_mem _ hx)⟩ ?_
        rintro m σ H8 ⟨d, l, rfl, rfl, A8, hf, hdl, hl⟩
        cases l with
        | nil =>
          refine ⟨false, ?_, fun z => Bool.noConfusion z, fun _ H9 s9 => ?_⟩
          · exact t_and false false (t_notnil (lw := []) rfl A8.el fun _ z => nomatch z) fun z => Bool.noConfusion z
          · cases hf
            exact hN _ _ ⟨rfl, A8.same s9, fun _ z => nomatch z⟩
        | cons v l =>
          have hv := hl v List.mem_cons_self
          refine ⟨true && decide ((d.length : Int) + 1 + (v.length : Nat) ≤ (room : Nat)), ?_, fun c H9 s9 => ?_, fun c H9 s9 => ?_⟩
          · exact t_and true _ (t_notnil (lw := v :: l) rfl A8.el fun x hx => (hl x hx).2) fun _ H9 s9 => t_rel (p := fun i j => decide (i ≤ j)) (x := (d.length : Int) + 1 + (v.length : Nat)) (y := (room : Nat)) (ev_op (ev_op (ev_len (l := d) (by omega) (ev_v rfl)) ev_c rfl) (ev_len (by omega) (ev_hd (w := v) (r := l) rfl (s9 _ _ A8.el))) rfl) (ev_v rfl)
          · rw [Bool.true_and] at c
            have c : d.length + 1 + v.length ≤ room := by have := of_decide_eq_true c; omega
            have A9 := A8.same s9
            refine ⟨_, rfl, _, _, rfl, rfl, ?_, _, rfl, .inl ⟨rfl, _, SqL.of A9.el⟩, ?_⟩
            · show (S d).length + 1 ≤ _
              rw [S_len, hs]; omega
            dsimp only [tCons, tC, tNil]
            refine pop_hd A9.el ?_
            refine ⟨_, _, rfl, rfl, ?_, ?_⟩
            · show (S d ++ S [32]).length + (S v).length ≤ _
              rw [S_app, S_len, S_len, hs, List.length_append]
              show d.length + 1 + _ ≤ _
              omega
            refine ⟨l.length, by rw [List.length_cons]; omega, d ++ [32] ++ v, l, rfl, ?_, A9.put hlf rfl, ?_, ?_, fun x hx => hl x (List.mem_cons_of_mem _ hx)⟩
            · rw [show (V.str (S d ++ Str.ofString " " ++ S v)) = vS (d ++ [32] ++ v) by show V.str (S d ++ S [32] ++ S v) = _; rw [S_app, S_app]]
              rfl
            · rw [← hf]
              show _ = (if d.length + 1 + v.length ≤ room then _ else _)
              rw [if_pos c]
            · simp only [List.length_append, List.length_cons, List.length_nil]; omega
          · rw [Bool.true_and] at c
            have c : ¬ d.length + 1 + v.length ≤ room := by have := of_decide_eq_false c; omega
            have hf2 : fitC room d (v :: l) = (d, v :: l) := by
              show (if d.length + 1 + v.length ≤ room then _ else _) = _
              rw [if_neg c]
            rw [hf2] at hf
            cases hf
            exact hN _ _ ⟨rfl, A8.same s9, hl⟩
    rintro σ6 H6 ⟨rfl, A6, hl6⟩
    refine s_if false (fun R k => ?_) (fun _ _ z => Bool.noConfusion z) (fun H7 s7 _ => ⟨left, _, _, _, _, _, rfl, A6.same s7, hF3, hl6⟩)
    refine ⟨_, rfl, _, rfl, _, rfl, _, _, rfl, rfl, ?_, rfl, _, rfl, ?_⟩
    · show (S L).length + (S due).length ≤ _
      rw [S_len, S_len, hs]; omega
    · rw [show (!decide (vS r = .str (S L ++ S due))) = false by rw [S_app, ← hdue]; simp]
      exact k _ (Same.refl _)
  · rintro σ H2 ⟨lw, x6, x7, x8, x9, x10, rfl, A2, hF2, hlw⟩
    rw [List.drop_length] at hF2
    cases hF2
    have hnil := t_nil (K := K) (σ := [some (.ref aw), some (.int width), some (.int kind), some (.int wide), some (.ref ar), some (.ref lf), x6, x7, x8, x9, x10]) (lw := []) (i := 5) rfl A2.el fun _ z => nomatch z
    refine ⟨_, rfl, big (show (0 : Nat) ≤ 1000000 by decide), fun p hp => ?_⟩
    have s1 := same_new hp (.lst [])
    exact ⟨.list [], .list [], .lst (SqL.of (s1 _ _ A2.el)) .nil, .lst (SqL.of upd_same) .nil, by decide, by decide, q _ (A2.sm.trans s1)⟩
end
end K8

set_option Elab.async false
set_option linter.all false
set_option maxRecDepth 100000
namespace L2
open PySem PySem.Spec PyProof.Rows
section
variable {X : Cx}
end
end L2

set_option Elab.async false
set_option linter.all false
set_option maxRecDepth 100000
/-! Objects of own classes: made, their values read and stored, their methods called, by the class that they are of. -/
namespace L2
open PySem PySem.Spec PyProof.Rows
section
variable {X : Cx} {k : Nat} {C : Addr} {x m f : Str} {ps : List Str} {sp : Sp} {e o value : Expr} {es : List Expr} {ta tv : TE} {t : TA} {p pos pos' apos : Pos}
end
end L2

set_option Elab.async false
set_option linter.all false
set_option maxRecDepth 100000
/-! A def that makes a closure and gives it back: its cells are the closure's alone. -/
namespace L2
open PySem PySem.Spec PyProof.Rows
section
variable {P : Program} {w : World} {K : PySem.W.Frag} {mg : Str → Option Value} {base : Heap}
end
end L2

set_option Elab.async false
set_option linter.all false
set_option maxRecDepth 100000
/-! x op= e, continue, a list beside the empty one -/
namespace L2
open PySem PySem.Spec PyProof.Rows
section
variable {X : Cx} {e : Expr} {te : TE} {x : Str} {pos : Pos}
theorem xaug {i : Nat} {op : Operator} {ti : TIp} {pos' : Pos} (hN : X.N.Nodup) (hi : X.N[i]? = some x) (hx : Loc X.env.scope x) (he : XE X e te) (ho : PIp X op ti) (hf : X.fn x = true ∨ X.env.scope.names.lookup x = some .local := by first | exact .inl rfl | exact .inr rfl) :
    XS X (.AugAssign (.Name x pos') op e pos) (tAug i te ti) := ⟨ps_aug hN hi hx he.h ho hf⟩
theorem xcont : XS X (.Continue pos) tCont := ⟨ps_continue⟩
/-- xs == [], xs != [] -/
def rEq0 (K : PySem.W.Frag) (neg : Bool) : R2 := fun x y H Q => ∃ p q xs, x = .ref p ∧ y = .ref q ∧ SqL K H p xs ∧ SqL K H q [] ∧ Q (.bl (if neg then !xs.isEmpty else xs.isEmpty)) H
theorem op_ne0 (hu : X.A.units + 64 < cLine) : OpR X (compareOp .NotEq) (rEq0 X.K true) := by
  intro pins s σ H x y v u Q I rx ry h
  obtain ⟨p, q, xs, rfl, rfl, hp, hq, k⟩ := h
  cases rx
  cases ry
  obtain ⟨its, r, pl, _⟩ := I.list hp
  obtain ⟨its2, r2, pl2, _⟩ := I.list hq
  have e2 := r2.length
  have e1 := r.length
  cases its2 with
  | cons _ _ => simp at e2
  | nil =>
  cases its with
  | nil =>
    cases xs with
    | cons _ _ => simp at e1
    | nil => exact SeqAt.RcNeAt.lists (e := fun _ => true) pl.isList pl2.isList rfl (by omega) (fun j h1 _ => absurd h1 (Nat.not_lt_zero _)) _ _ _ _ ⟨.bl _, H, I, rfl, k⟩
  | cons _ _ =>
    cases xs with
    | nil => simp at e1
    | cons _ _ => exact SeqAt.RcNeAt.lists_lengths pl.isList pl2.isList (by simp) (by omega) _ _ _ _ ⟨.bl _, H, I, rfl, k⟩
end
end L2

set_option Elab.async false
set_option linter.all false
set_option maxRecDepth 100000
/-! words filled: the begun row, pieces cut off, contracts -/
namespace Lw
open PySem L2 Lm
theorem t_ne0 {K : PySem.W.Frag} {σ : St} {H : Hp} {ta : TE} {p : Addr} {xs : List V} (h1 : Ev ta σ H (.ref p)) (hx : SqL K H p xs) : Tells (tTest (tOp (rEq0 K true) ta (tLst tNil))) σ H (!xs.isEmpty) :=
  fun R k => h1 _ ⟨big (show (0 : Nat) ≤ 1000000 by decide), fun l hl => ⟨p, l, xs, rfl, rfl, (same_new hl _).seq hx, SqL.of upd_same, _, rfl, k _ (same_new hl _)⟩⟩
theorem t_relG {σ : St} {H : Hp} {p : Int → Int → Bool} {ta tb : TE} {x y : Int} (h1 : Ev ta σ H (.int x)) (h2 : Ev tb σ H (.int y)) : Tells (tTest (tOp (rI0 fun i j => .bl (p i j)) ta tb)) σ H (p x y) := fun R k => h1 _ (h2 _ ⟨x, y, rfl, rfl, _, rfl, k _ (Same.refl _)⟩)
theorem catS (a b : List Nat) : V.str (S a ++ S b) = vS (a ++ b) := by rw [S_app]
/-- every list of words is filled -/
theorem filled_ex {width : Nat} {L : Nat → List Nat} (hL : ∀ n, (L n).length < width) : ∀ (m n : Nat) (ws : List (List Nat)), tot ws ≤ m → ∃ rows, Filled width L n ws rows
  | _, n, [], _ => ⟨[], .nil n⟩
  | 0, n, w :: r, h => by simp [tot] at h
  | m + 1, n, w :: r, h => by
    have hr := hL n
    simp only [tot] at h
    by_cases hc : width - (L n).length < w.length
    · obtain ⟨rows, hF⟩ := filled_ex hL m (n + 1) (w.drop (width - (L n).length) :: r) (by simp only [tot, List.length_drop]; omega)
      exact ⟨_, .cut n w r rows hc hF⟩
    · have := (fit_left (width - (L n).length) r w).1
      obtain ⟨rows, hF⟩ := filled_ex hL m (n + 1) (fitC (width - (L n).length) w r).2 (by omega)
      exact ⟨_, .row n w r rows (by omega) hF⟩
theorem lead_less {W : Addr → Prop} {Pre : Nat → Hp → Prop} (hP : LeadW W Pre) {k : Nat} {H : Hp} : ∀ {j : Nat}, Pre (k + j) H → Pre k H
  | 0, h => h
  | j + 1, h => lead_less hP (j := j) (hP.less _ _ h)
/-- the begun row n with its words, the words behind, what comes of them -/
def Cont (width : Nat) (L : Nat → List Nat) (n : Nat) (row : List Nat) (rest : List (List Nat)) (T : List (List Nat)) : Prop :=
  ∃ T', T = (L n ++ (fitC (width - (L n).length) row rest).1) :: T' ∧ Filled width L (n + 1) (fitC (width - (L n).length) row rest).2 T'
/-- pieces cut off a word, and what is left -/
inductive Cuts (width : Nat) (L : Nat → List Nat) : Nat → List Nat → List (List Nat) → List Nat → Prop where
  | done (n w) : w.length ≤ width - (L n).length → Cuts width L n w [] w
  | more (n w as w') : width - (L n).length < w.length → Cuts width L (n + 1) (w.drop (width - (L n).length)) as w' → Cuts width L n w ((L n ++ w.take (width - (L n).length)) :: as) w'
theorem Cuts.filled {width : Nat} {L : Nat → List Nat} {n : Nat} {w w' : List Nat} {as : List (List Nat)} (h : Cuts width L n w as w') : ∀ {rest T : List (List Nat)}, w ≠ [] → Filled width L n (w :: rest) T →
    ∃ T', T = as ++ T' ∧ w' ≠ [] ∧ w'.length ≤ width - (L (n + as.length)).length ∧ Filled width L (n + as.length) (w' :: rest) T' := by
  induction h with
  | done n w hc => intro rest T hw hF; exact ⟨T, rfl, hw, hc, hF⟩
  | more n w as w' hc _ ih =>
    intro rest T hw hF
    cases hF with
    | row _ _ _ T' h1 _ => omega
    | cut _ _ _ T' _ h2 =>
      obtain ⟨T2, e, h3, h4, h5⟩ := ih (rest := rest) (T := T') (fun z => by have := congrArg List.length z; rw [List.length_drop] at this; simp at this; omega) h2
      refine ⟨T2, by rw [e]; rfl, h3, ?_, ?_⟩
      · rw [List.length_cons, show n + (as.length + 1) = n + 1 + as.length by omega]; exact h4
      · rw [List.length_cons, show n + (as.length + 1) = n + 1 + as.length by omega]; exact h5
/-- filled: lead at g changes W alone, and may be asked as often as Pre says -/
def spFilled (g : Addr) (W : Addr → Prop) (Pre : Nat → Hp → Prop) (L : Nat → List Nat) : Sp := fun vs H Q _ => ∃ (aw : Addr) (ws : List (List Nat)) (width k : Nat), vs = [.ref aw, .int width, .ref g] ∧ H aw = some (.lst (ws.map vS)) ∧ ¬ W aw ∧ (∀ w ∈ ws, w ≠ [] ∧ w.length ≤ 1000) ∧ ws.length ≤ 1000 ∧ width ≤ 1000 ∧
  (∀ n, (L n).length < width) ∧ Pre (k + 2000000) H ∧ ∀ p rows H', H p = none → SameW W H H' → Pre k H' → H' p = some (.lst (rows.map vS)) → Filled width L 0 ws rows → Q (.ref p) H'
structure FilAt (W : Addr → Prop) (Pre : Nat → Hp → Prop) (k p : Addr) (H0 : Hp) (rs : List (List Nat)) (i : Nat) (H : Hp) : Prop where
  sw : SameW W H0 H
  ep : H p = some (.lst (rs.map vS))
  pre : ∃ j, Pre (k + j) H ∧ 2000000 ≤ j + rs.length + i
theorem FilAt.same {W : Addr → Prop} {Pre : Nat → Hp → Prop} {k p : Addr} {H0 H H' : Hp} {rs : List (List Nat)} {i : Nat} (hP : LeadW W Pre) (h : FilAt W Pre k p H0 rs i H) (s : Same H H') : FilAt W Pre k p H0 rs i H' := by
  obtain ⟨j, a, b⟩ := h.pre
  refine ⟨fun b o n e => s _ _ (h.sw b o n e), s _ _ h.ep, j, hP.stay _ _ _ a fun b hb => ?_, b⟩
  cases e : H b with
  | none => exact absurd e (hP.there _ _ b a hb)
  | some o => exact s _ _ e
theorem FilAt.put {W : Addr → Prop} {Pre : Nat → Hp → Prop} {k p : Addr} {H0 H : Hp} {rs rs' : List (List Nat)} {i : Nat} {xs : List V} (hP : LeadW W Pre) (h : FilAt W Pre k p H0 rs i H) (hp : H0 p = none) (nW : ¬ W p) (e : xs = rs'.map vS) (hl : rs.length ≤ rs'.length) : FilAt W Pre k p H0 rs' i (upd H p (.lst xs)) := by
  obtain ⟨j, a, b⟩ := h.pre
  refine ⟨fun b o n e => ?_, by rw [upd_same, e], j, hP.stay _ _ _ a fun b hb => upd_ne (fun z => nW (z ▸ hb)), by omega⟩
  rw [upd_ne (fun z => by rw [z, hp] at e; cases e)]
  exact h.sw b o n e
theorem FilAt.next {W : Addr → Prop} {Pre : Nat → Hp → Prop} {k p : Addr} {H0 H : Hp} {rs : List (List Nat)} {i : Nat} (h : FilAt W Pre k p H0 rs i H) : FilAt W Pre k p H0 rs (i + 1) H := by
  obtain ⟨j, a, b⟩ := h.pre
  exact ⟨h.sw, h.ep, j, a, by omega⟩
/-- another object of the def's own is changed -/
theorem FilAt.other {W : Addr → Prop} {Pre : Nat → Hp → Prop} {k p q : Addr} {H0 H : Hp} {rs : List (List Nat)} {i : Nat} {o : HO} (hP : LeadW W Pre) (h : FilAt W Pre k p H0 rs i H) (hq : H0 q = none) (nW : ¬ W q) (nq : q ≠ p) : FilAt W Pre k p H0 rs i (upd H q o) := by
  obtain ⟨j, a, b⟩ := h.pre
  refine ⟨fun b o n e => ?_, by rw [upd_ne (Ne.symm nq)]; exact h.ep, j, hP.stay _ _ _ a fun b hb => upd_ne (fun z => nW (z ▸ hb)), b⟩
  rw [upd_ne (fun z => by rw [z, hq] at e; cases e)]
  exact h.sw b o n e
def spRoom : Sp := fun vs H Q _ => ∃ (a : List Nat) (width : Nat), vs = [vS a, .int width] ∧ a.length < width ∧ width ≤ 1000 ∧ Q (.int ((width - a.length : Nat) : Int)) H
def spLast (g : Addr) (W : Addr → Prop) (Pre : Nat → Hp → Prop) (L : Nat → List Nat) : Sp := fun vs H Q _ => ∃ (wd : List Nat) (width k i : Nat) (p : Addr) (H0 : Hp) (rs : List (List Nat)), vs = [vS wd, .int width, .ref g, .ref p] ∧ FilAt W Pre k p H0 rs i H ∧ H0 p = none ∧ ¬ W p ∧ wd ≠ [] ∧ wd.length ≤ 1000 ∧ width ≤ 1000 ∧
  (∀ n, (L n).length < width) ∧ rs.length ≤ 1001000 ∧ i < 1000 ∧ ∀ as w' H', Cuts width L rs.length wd as w' → FilAt W Pre k p H0 (rs ++ as) (i + 1) H' → Q (vS (L (rs.length + as.length) ++ w')) H'
/-- where filled stands: rs are the rows, hs what is held for the begun one -/
def Stand (width : Nat) (L : Nat → List Nat) (R rs hs rest : List (List Nat)) : Prop :=
  (hs = [] ∧ rs = [] ∧ Filled width L 0 rest R) ∨ (hs ≠ [] ∧ ∃ row, glueC [32] hs = L rs.length ++ row ∧ row ≠ [] ∧ row.length ≤ width - (L rs.length).length ∧ ∃ T, R = rs ++ T ∧ Cont width L rs.length row rest T)
theorem glue_snoc (g : List Nat) : ∀ {hs : List (List Nat)} (w : List Nat), hs ≠ [] → glueC g (hs ++ [w]) = glueC g hs ++ g ++ w
  | [p], w, _ => rfl
  | p :: q :: r, w, _ => by
    have ih := glue_snoc g (hs := q :: r) w (by simp)
    show p ++ g ++ glueC g ((q :: r) ++ [w]) = p ++ g ++ glueC g (q :: r) ++ g ++ w
    rw [ih]
    simp
theorem glue_sum : ∀ hs : List (List Nat), (hs.map (·.length)).sum + hs.length ≤ (glueC [32] hs).length + 1
  | [] => by simp
  | [p] => by simp [glueC]
  | p :: q :: r => by
    have ih := glue_sum (q :: r)
    rw [glueC_cons _ _ _ (by simp)]
    simp only [List.map_cons, List.sum_cons, List.length_cons, List.length_append, List.length_nil] at ih ⊢
    omega
theorem glue_fit {hs : List (List Nat)} (h : (glueC [32] hs).length ≤ 100000) : (((hs.map S).map (·.length)).sum + (hs.map S).length * (S [32]).length) ≤ sizeLine := by
  have := glue_sum hs
  rw [List.map_map, show ((fun (x : Str) => x.length) ∘ S) = (fun (l : List Nat) => l.length) from funext fun l => S_len l, List.length_map, sizeLine_eq, S_len]
  simp only [List.length_cons, List.length_nil]
  omega
end Lw

set_option Elab.async false
set_option linter.all false
set_option maxRecDepth 100000
set_option maxHeartbeats 4000000
namespace K8
open PySem L2 Lm Lw
def defPos (s : Stmt) : Pos := match s with
  | .FunctionDef _ _ _ _ _ _ _ _ _ p => p
  | _ => ⟨0, 0, 0, 0⟩
/-- the numbers that lead was handed -/
def NumsAt (an : Addr) (k : Nat) (H : Hp) : Prop := ∃ xs, H an = some (.lst xs) ∧ (∀ v ∈ xs, ∃ i : Int, v = .int i ∧ 0 ≤ i) ∧ xs.length + k ≤ 16000000
theorem nums_lead (an : Addr) : LeadW (fun b => b = an) (NumsAt an) where
  stay := fun k H H' ⟨xs, a, b⟩ e => ⟨xs, by rw [e an rfl]; exact a, b⟩
  there := fun k H b ⟨xs, a, _⟩ e => by rw [e, a]; simp
  less := fun k H ⟨xs, a, b, c⟩ => ⟨xs, a, b, by omega⟩
theorem asc_lead (kind wide n : Nat) : Asc (leadC kind wide n) := by
  unfold leadC
  intro c hc
  split at hc
  · cases hc
  · split at hc
    · rw [(List.mem_replicate.mp hc).2]; decide
    · split at hc
      · split at hc <;> (rw [(List.mem_replicate.mp hc).2]; decide)
      · rw [(List.mem_replicate.mp hc).2]; decide
section
variable {P : Program} {w : World} {K : PySem.W.Frag} {mg : Str → Option Value} {base : Heap}
abbrev sTold : Stmt := top 11
abbrev sHere : Stmt := (defBody sTold).getD 0 (.Pass ⟨0, 0, 0, 0⟩)
theorem scTold : FnScope ["_law_words_here", "_law_width", "_law_kind", "_law_wide", "_law_numbers", "_law_lead_here"] ["_law_words_here", "_law_width", "_law_kind", "_law_wide", "_law_numbers"] (defScope sTold) := ⟨rfl, rfl, rfl, by decide +kernel, rfl, by decide +kernel, by decide +kernel⟩
theorem scHere : CloScope ["_law_number", "_law_kind", "_law_numbers", "_law_wide"] ["_law_number"] ["_law_kind", "_law_numbers", "_law_wide"] (defScope sHere) := ⟨rfl, rfl, rfl, by decide +kernel, rfl, by decide +kernel, by decide +kernel⟩
theorem frHere : ∀ y ∈ (defScope sHere).names, y.2 = .free → (defScope sTold).names.lookup y.1 = some .cell := by decide +kernel
def qHere : Str := qualnameIn (PyProof.Rows.envOfC "_law_told" (defScope sTold) 0 0 .none) "_law_lead_here" "_law_lead_here"
def qsTold : List (Pos × Str) := [(defPos sHere, qHere)]
/-- the closure -/
theorem ok_here {g c' an : Addr} {cl : List (Str × Addr)} {doc pm ct : Value} {kind wide : Nat} (lk : base.get? g = some (PySem.W.fnMade "_law_lead_here" qHere (defArgs sHere) (defBody sHere) (defScope sHere) cl doc pm c' ct)) (hcd : base.CodeRec (.ref c') qHere)
    (C : CloCells base cl (defScope sHere) ["_law_kind", "_law_numbers", "_law_wide"] [.int kind, .ref an, .int wide]) (k3 : kind ≤ 3) (w0 : wide ≤ 1000) (D_l_lead : Def P w K mg base 1 "_law_lead" ["_law_kind", "_law_wide", "_law_number"] spLead) :
    FnV P w K mg base 2 g ["_law_number"] (spLeadF (fun b => b = an) (NumsAt an) (leadC kind wide)) := by
  have sc := scHere
  refine fn_ofC0 lk hcd sc C (fun vs H Q E h => ?_) (fun us hl => ?_) (fun A outer s H vs Q E hr h => ?_)
  · obtain ⟨n, k, rfl, _⟩ := h
    rfl
  · match us, hl with
    | [_], _ => rfl
  obtain ⟨n, k, rfl, hn, ⟨xs, ex, hx, hxl⟩, q⟩ := h
  refine of_XB (xbc (xexpr (xm PySem.F.plainAttrs_list PySem.F.slot_list_append PySem.F.type_list_append mt_append (xv 2 rfl (Or.inr (Or.inr rfl))) (xac (xv 0) xa0)))
    (xb1 (xret (xcD D_l_lead (hr.mono (by decide)) (xac (xv 1 rfl (Or.inr (Or.inr rfl))) (xac (xv 3 rfl (Or.inr (Or.inr rfl))) (xac (xv 0) xa0))))))) ?_
  have hs : sizeLine = 16777216 := sizeLine_eq
  refine ⟨_, rfl, .inl ⟨rfl, _, SqL.of ex⟩, _, rfl, an, xs, _, rfl, rfl, ex, by omega, ?_⟩
  refine ⟨_, rfl, _, rfl, _, rfl, kind, wide, n, rfl, k3, w0, hn, fun H' s' => ?_⟩
  refine q H' ⟨xs ++ [.int n], s' _ _ upd_same, fun v hv => ?_, by rw [List.length_append]; show xs.length + 1 + k ≤ _; omega⟩ fun b o nb hb => s' _ _ (by rw [upd_ne nb]; exact hb)
  rcases List.mem_append.mp hv with hv | hv
  · exact hx v hv
  · exact ⟨n, by simpa using hv, by omega⟩
def spTold (Pt : Addr) : Sp := fun vs H Q _ => ∃ (aw an : Addr) (ws : List (List Nat)) (width kind wide k : Nat), vs = [.ref aw, .int width, .int kind, .int wide, .ref an] ∧ H aw = some (.lst (ws.map vS)) ∧ aw ≠ an ∧ (∀ w ∈ ws, Wd 1000 w) ∧ ws.length ≤ 1000 ∧ width ≤ 1000 ∧ wide < width ∧ kind ≤ 3 ∧
  NumsAt an (k + 2000000) H ∧ Tab Pt qsTold H ∧ ∀ p rows H', H p = none → SameW (fun b => b = an ∨ b = Pt) H H' → NumsAt an k H' → Tab Pt qsTold H' → H' p = some (.lst (rows.map vS)) → Filled width (leadC kind wide) 0 ws rows → Q (.ref p) H'
theorem ok_told {f c Pt : Addr} {fd : FuncData} (F : Fun K "_law_told" "_law_told" sTold f fd) (hc : fd.code = .ref c) (hT : PySem.W.CodeHd base c Pt ∧ base.BuiltinsAt mg Pt)
    (D_l_lead : ∀ base' : Heap, K.In base' → base'.Ns mainGlobals mg → Def P w K mg base' 1 "_law_lead" ["_law_kind", "_law_wide", "_law_number"] spLead)
    (hm_filled : ∃ f, mg "filled" = some (.ref f) ∧ PySem.W.keepIn K (.ref f) = true)
    (D_filled : ∀ (base' : Heap) (g : Addr) (W : Addr → Prop) (Pre : Nat → Hp → Prop) (L : Nat → List Nat) (x : Str), K.In base' → base'.Ns mainGlobals mg → LeadW W Pre → FnV P w K mg base' 2 g [x] (spLeadF W Pre L) → Def P w K mg base' 4 "filled" ["words", "width", "lead"] (spFilled g W Pre L)) :
    FnOk P w K mg base CX0 5 f fd ["_law_words_here", "_law_width", "_law_kind", "_law_wide", "_law_numbers"] (spTold Pt) := by
  have sc := scTold
  refine F.okT hc sc (fun vs H Q E h => ?_) (fun A outer s H vs Q E hr h => ?_)
  · obtain ⟨aw, an, ws, width, kind, wide, k, rfl, _⟩ := h
    rfl
  obtain ⟨aw, an, ws, width, kind, wide, k, rfl, ew, nwn, hw, hwl, w1, w0, k3, ⟨xs, ex, hx, hxl⟩, tab, q⟩ := h
  have DA : DefAt (cxOf CX0 P w K mg base ["_law_words_here", "_law_width", "_law_kind", "_law_wide", "_law_numbers", "_law_lead_here"] "_law_told" (defScope sTold) f (.ref c) A outer s H E).nox c Pt := ⟨rfl, hT.1, hT.2⟩
  have hcl__law_lead_here : ∀ n, (n, NameKind.free) ∈ (defScope sHere).names → ∃ c', (PyProof.Rows.envOfC "_law_told" (defScope sTold) s.heap.objs.size f (.ref c)).cells.lookup n = some c' := fun n hn => cell_has (frHere _ hn rfl)
  have hq__law_lead_here : (defPos sHere, qualnameIn (PyProof.Rows.envOfC "_law_told" (defScope sTold) s.heap.objs.size f (.ref c)) "_law_lead_here" "_law_lead_here") ∈ qsTold := List.mem_singleton.mpr rfl
  have hqs__law_lead_here : ∀ q ∈ qsTold, q.1.line = (defPos sHere).line → q.1.col = (defPos sHere).col → q.2 = qualnameIn (PyProof.Rows.envOfC "_law_told" (defScope sTold) s.heap.objs.size f (.ref c)) "_law_lead_here" "_law_lead_here" := fun q hq _ _ => by rw [List.mem_singleton.mp hq]; rfl
  refine of_XB (xbc (xdef (i := 5) DA hcl__law_lead_here hq__law_lead_here hqs__law_lead_here sc.nd rfl (Or.inl rfl))
    (xb1 (xret (xcX (k := 4) (ps := ["words", "width", "lead"]) hm_filled (fun _ => rfl) (hr.mono (by decide)) (xac (xv 0) (xac (xv 1) (xac (xv 5) xa0))))))) ?_
  refine ⟨tab, fun d H1 M mk => ?_⟩
  obtain ⟨doc, ct, eobj, equal, ecs⟩ := mk
  have ew1 : H1 aw = some (.lst (ws.map vS)) := M.keep _ _ (fun z => by obtain ⟨ps, e, _⟩ := tab; rw [← z, ew] at e; cases e) ew
  have ex1 : H1 an = some (.lst xs) := M.keep _ _ (fun z => by obtain ⟨ps, e, _⟩ := tab; rw [← z, ex] at e; cases e) ex
  have hD : ∀ d' ∈ [d], CloOk H1 d' := fun d' hd' => by rw [List.mem_singleton.mp hd']; exact ⟨M.fn, M.cd, fun q hq => by rw [ecs] at hq; cases hq⟩
  have naw : aw ∉ adrs [d] := clo_out hD ew1 fun φ z => nomatch z
  have nan : an ∉ adrs [d] := clo_out hD ex1 fun φ z => nomatch z
  refine ⟨_, rfl, _, rfl, _, rfl, [d], spFilled d.g (fun b => b = an) (NumsAt an) (leadC kind wide), hD, fun base' B => ?_, ?_⟩
  · refine D_filled base' d.g _ _ _ "_law_number" B.kin B.glob (nums_lead an) ((ok_here (c' := d.c) (an := an) (doc := doc) (pm := (mg "__name__").getD .none) (ct := ct) ?_ ?_ (B.cells hcl__law_lead_here rfl ?_) k3 (by omega) (D_l_lead base' B.kin B.glob)).mono (by decide))
    · have := B.fn d (List.mem_singleton.mpr rfl)
      rw [eobj] at this
      exact this
    · have := B.cd d (List.mem_singleton.mpr rfl)
      rw [equal] at this
      exact this
    · intro i x v h1 h2
      match i, h1, h2 with
      | 0, h1, h2 => cases h1; cases h2; exact ⟨by decide +kernel, .inl rfl, 2, rfl, rfl⟩
      | 1, h1, h2 => cases h1; cases h2; exact ⟨by decide +kernel, .inl rfl, 4, rfl, rfl⟩
      | 2, h1, h2 => cases h1; cases h2; exact ⟨by decide +kernel, .inl rfl, 3, rfl, rfl⟩
  · refine ⟨aw, ws, width, k, rfl, by rw [drop_ne naw]; exact ew1, nwn, fun w h => ⟨(hw w h).1, (hw w h).2.2.1⟩, hwl, w1, fun n => Nat.lt_of_le_of_lt (lead_len kind wide n) w0, ⟨xs, by rw [drop_ne nan]; exact ex1, hx, hxl⟩, fun p rows H2 hp sw pre ep hF hno => ?_⟩
    have np : p ∉ adrs [d] := fun z => by rw [hno p z] at ep; cases ep
    have out : ∀ b o, b ≠ an → H1 b = some o → back H1 [d] H2 b = some o := fun b o nb e => by
      by_cases hb : b ∈ adrs [d]
      · rw [back_in hb]; exact e
      · rw [back_ne hb]; exact sw b o nb (by rw [drop_ne hb]; exact e)
    rw [drop_ne np] at hp
    refine q p rows _ ?_ (fun b o nb e => out b o (fun z => nb (.inl z)) (M.keep b o (fun z => nb (.inr z)) e)) ?_ ?_ (by rw [back_ne np]; exact ep) hF
    · cases e : H p with
      | none => rfl
      | some o =>
        by_cases z : p = Pt
        · obtain ⟨ps, e2, _⟩ := M.tab
          rw [z, e2] at hp; cases hp
        · rw [M.keep p o z e] at hp; cases hp
    · obtain ⟨ys, a1, a2, a3⟩ := pre
      exact ⟨ys, by rw [back_ne nan]; exact a1, a2, a3⟩
    · refine M.tab.keepW fun b o no e => out b o (fun z => ?_) e
      rw [z, ex1] at e
      cases e
      exact no _ rfl
end
end K8

set_option Elab.async false
set_option linter.all false
set_option maxRecDepth 100000
set_option maxHeartbeats 4000000
namespace K8
open PySem L2 Lm Lw
theorem fit_asc (room : Nat) : ∀ (r : List (List Nat)) (due : List Nat), (∀ w ∈ r, Asc w) → Asc due → Asc (fitC room due r).1
  | [], due, _, h => h
  | w :: r, due, hr, h => by
    unfold fitC
    split
    · exact fit_asc room r _ (fun x hx => hr x (List.mem_cons_of_mem _ hx)) (asc_app (asc_app h (by intro c hc; rw [show c = 32 by simpa using hc]; decide)) (hr w List.mem_cons_self))
    · exact h
theorem filled_asc {width : Nat} {L : Nat → List Nat} {n : Nat} {ws rows : List (List Nat)} (h : Filled width L n ws rows) (hL : ∀ n, Asc (L n)) : (∀ w ∈ ws, Asc w) → ∀ r ∈ rows, Asc r := by
  induction h with
  | nil n => intro _ r h; cases h
  | cut n w r rows hc _ ih =>
    intro hw x hx
    have h1 := hw w List.mem_cons_self
    rcases List.mem_cons.mp hx with rfl | hx
    · exact asc_app (hL n) (h1.take _)
    · refine ih (fun y hy => ?_) x hx
      rcases List.mem_cons.mp hy with rfl | hy
      · exact h1.drop _
      · exact hw y (List.mem_cons_of_mem _ hy)
  | row n w r rows hc _ ih =>
    intro hw x hx
    have hr := fun y hy => hw y (List.mem_cons_of_mem w hy)
    rcases List.mem_cons.mp hx with rfl | hx
    · exact asc_app (hL n) (fit_asc _ r w hr (hw w List.mem_cons_self))
    · exact ih (fun y hy => hr y ((fit_left _ r w).2 y hy)) x hx
section
variable {P : Program} {w : World} {K : PySem.W.Frag} {mg : Str → Option Value} {base : Heap}
/-! _law_drawn -/
abbrev sDrawn : Stmt := top 12
theorem scDrawn : FnScope ["_law_script", "_law_tape", "_law_most", "_law_width", "_law_kind", "_law_wide"] ["_law_script", "_law_tape", "_law_most"] (defScope sDrawn) := ⟨rfl, rfl, rfl, by decide +kernel, rfl, by decide +kernel, by decide +kernel⟩
def spDrawn (K : PySem.W.Frag) : Sp := fun vs H Q _ => ∃ (a t : Addr) (ns : List Int) (m : Int) (most : Nat), vs = [.ref a, .ref t, .int most] ∧ Scr K t H a ns ∧ ns.length ≤ 1000 ∧ H t = some (.lst [.int m]) ∧ 0 ≤ m ∧ m ≤ 500 ∧ 1 ≤ most ∧ most ≤ 20 ∧
  ∀ tp p (ws : List (List Nat)) (width kind wide : Nat) (m' : Int) H', H p = none → SameX t H H' → H' p = some (.lst (ws.map vS)) → H' tp = some (.tup [.ref p, .int width, .int kind, .int wide]) → H' t = some (.lst [.int m']) → m ≤ m' → m' ≤ m + 104 →
    ws.length ≤ 20 → 2 ≤ width → width ≤ 40 → kind ≤ 3 → wide < width → (∀ w ∈ ws, Wd 1000 w) → Q (.ref tp) H'
theorem ok_drawn {f : Addr} {fd : FuncData} (F : Fun K "_law_drawn" "_law_drawn" sDrawn f fd) (T : Tx8 mg) (D_l_draw : Def P w K mg base 1 "_law_draw" ["_law_script", "_law_tape", "_law_many"] (spDraw K))
    (D_l_words : Def P w K mg base 3 "_law_words" ["_law_script", "_law_tape", "_law_width", "_law_many"] (spWords8 K)) : FnOk P w K mg base CX0 4 f fd ["_law_script", "_law_tape", "_law_most"] (spDrawn K) := by
  have sc := scDrawn
  refine F.ok sc (fun vs H Q E h => ?_) (fun cdv A outer s H vs Q E hr h => ?_)
  · obtain ⟨a, t, ns, m, most, rfl, _⟩ := h
    rfl
  obtain ⟨a, t, ns, m, most, rfl, hscr, hns, et, m0, m1, o0, o1, q⟩ := h
  refine of_XB (xbc (xset (i := 3) sc.nd rfl (Or.inl rfl) (xop op_add xint (xcD D_l_draw (hr.mono (by decide)) (xac (xv 0) (xac (xv 1) (xac xint xa0))))))
    (xbc (xset (i := 4) sc.nd rfl (Or.inl rfl) (xcD D_l_draw (hr.mono (by decide)) (xac (xv 0) (xac (xv 1) (xac xint xa0)))))
    (xbc (xset (i := 5) sc.nd rfl (Or.inl rfl) (xcD D_l_draw (hr.mono (by decide)) (xac (xv 0) (xac (xv 1) (xac (xcB (call_min2 rfl) T.n_min rfl (xac xint (xac (xv 3) xa0))) xa0)))))
    (xb1 (xret (xtup (xac (xcD D_l_words (hr.mono (by decide)) (xac (xv 0) (xac (xv 1) (xac (xv 3) (xac (xcD D_l_draw (hr.mono (by decide)) (xac (xv 0) (xac (xv 1) (xac (xv 2) xa0)))) xa0))))) (xac (xv 3) (xac (xv 4) (xac (xv 5) xa0)))))))))) ?_
  have hs : sizeLine = 16777216 := sizeLine_eq
  refine ⟨_, rfl, _, rfl, a, t, ns, m, 39, rfl, hscr, hns, et, by omega, by omega, by omega, fun x1 H1 a1 b1 sx1 et1 => ⟨_, _, rfl, rfl, ?_⟩⟩
  refine ⟨_, rfl, _, rfl, a, t, ns, m + 1, 4, rfl, hscr.move sx1, hns, et1, by omega, by omega, by omega, fun x2 H2 a2 b2 sx2 et2 => ?_⟩
  obtain ⟨width, ew⟩ : ∃ n : Nat, 2 + x1 = (n : Int) := ⟨(2 + x1).toNat, by omega⟩
  obtain ⟨kind, ek⟩ : ∃ n : Nat, x2 = (n : Int) := ⟨x2.toNat, by omega⟩
  dsimp only [gName]
  rw [ew, ek]
  have scr2 := (hscr.move sx1).move sx2
  refine ⟨_, rfl, _, rfl, _, rfl, _, _, rfl, ?_⟩
  have hmin : 0 < (if (width : Int) < 9 then (width : Int) else 9) := by split <;> omega
  refine ⟨a, t, ns, m + 1 + 1, _, rfl, scr2, hns, et2, by omega, by omega, hmin, fun x3 H3 a3 b3 sx3 et3 => ?_⟩
  obtain ⟨wide, ed⟩ : ∃ n : Nat, x3 = (n : Int) := ⟨x3.toNat, by omega⟩
  dsimp only [gName]
  rw [ed]
  have hwd : wide < width := by
    have := b3
    split at this <;> omega
  have scr3 := scr2.move sx3
  refine ⟨_, rfl, _, rfl, _, rfl, _, rfl, _, rfl, _, rfl, a, t, ns, m + 1 + 1 + 1, most, rfl, scr3, hns, et3, by omega, by omega, by omega, fun x4 H4 a4 b4 sx4 et4 => ?_⟩
  obtain ⟨many, em⟩ : ∃ n : Nat, x4 = (n : Int) := ⟨x4.toNat, by omega⟩
  refine ⟨a, t, ns, m + 1 + 1 + 1 + 1, width, many, by rw [em]; rfl, scr3.move sx4, hns, et4, by omega, by omega, by omega, by omega, by omega, fun p ws m' H5 hp sx5 ep et5 l1 l2 hwl hw => ?_⟩
  refine ⟨_, rfl, _, rfl, _, rfl, by rw [hs]; show 4 ≤ 16777216; decide, fun tp htp => ?_⟩
  have sx := sx1.trans (sx2.trans (sx3.trans (sx4.trans sx5)))
  have s6 := same_new htp (.tup [.ref p, .int width, .int kind, .int wide])
  have hpt : p ≠ t := fun z => by rw [z, et4] at hp; cases hp
  have hp0 : H p = none := (sx1.trans (sx2.trans (sx3.trans sx4))).free hpt hp
  exact q tp p ws width kind wide m' _ hp0 (sx.trans (SameX.of s6)) (s6 _ _ ep) upd_same (s6 _ _ et5) (by omega) (by omega) (by omega) (by omega) (by omega) (by omega) hwd hw
end
end K8

set_option Elab.async false
set_option linter.all false
set_option maxRecDepth 100000
set_option maxHeartbeats 1000000
namespace K8
open PySem L2 Lm Lw
def wMore8 : List Nat := [109, 111, 114, 101]
theorem iteF {A B : Prop} (h : B) : if false = true then A else B := by rw [if_neg Bool.false_ne_true]; exact h
theorem NumsAt.same {an : Addr} {k : Nat} {H H' : Hp} (h : NumsAt an k H) (s : Same H H') : NumsAt an k H' := let ⟨xs, a, b⟩ := h; ⟨xs, s _ _ a, b⟩
theorem NumsAt.has {an : Addr} {k : Nat} {H : Hp} (h : NumsAt an k H) {p : Addr} (hp : H p = none) : p ≠ an := fun z => by
  obtain ⟨xs, a, _⟩ := h
  rw [z, a] at hp; cases hp
theorem Tab.lst {Pt : Addr} {qs : List (Pos × Str)} {H : Hp} (t : Tab Pt qs H) {b : Addr} {xs : List V} (e : H b = some (.lst xs)) : b ≠ Pt := fun z => by
  obtain ⟨ps, a, _⟩ := t
  rw [← z, e] at a; cases a
theorem told_keep {Pt an : Addr} {qs : List (Pos × Str)} {H H' : Hp} (t : Tab Pt qs H) (sw : SameW (fun b => b = an ∨ b = Pt) H H') {b : Addr} {xs : List V} (nb : b ≠ an) (e : H b = some (.lst xs)) : H' b = some (.lst xs) :=
  sw _ _ (fun z => z.elim nb (Tab.lst t e)) e
section
variable {P : Program} {w : World} {K : PySem.W.Frag} {mg : Str → Option Value} {base : Heap}
abbrev sLaw : Stmt := top 13
theorem scLaw : FnScope ["_law_script", "_law_tape", "_law_words_here", "_law_width", "_law_kind", "_law_wide", "_law_others", "_law_far", "_law_sort", "_law_long", "_law_handed", "_law_numbers", "_law_found", "_law_kept", "_law_between"] ["_law_script"] (defScope sLaw) := ⟨rfl, rfl, rfl, by decide +kernel, rfl, by decide +kernel, by decide +kernel⟩
def spLaw8 (K : PySem.W.Frag) (Pt : Addr) : Sp := fun vs H Q _ => ∃ (a : Addr) (ns : List Int), vs = [.ref a] ∧ SqL K H a (vI ns) ∧ ns.length ≤ 1000 ∧ H Pt = some (.tbl #[]) ∧ ∀ H', Q (.bl true) H'
theorem ok_law {f Pt : Addr} {fd : FuncData} (F : Fun K "law" "law" sLaw f fd) (T : Tx8 mg) (D_l_drawn : Def P w K mg base 4 "_law_drawn" ["_law_script", "_law_tape", "_law_most"] (spDrawn K))
    (D_l_told : Def P w K mg base 5 "_law_told" ["_law_words_here", "_law_width", "_law_kind", "_law_wide", "_law_numbers"] (spTold Pt)) (D_l_rows_right : Def P w K mg base 2 "_law_rows_right" ["_law_words_here", "_law_width", "_law_kind", "_law_wide", "_law_rows"] spRight)
    (D_l_whole : Def P w K mg base 1 "_law_whole" ["_law_found"] spWhole) : FnOk P w K mg base CX0 6 f fd ["_law_script"] (spLaw8 K Pt) := by
  have sc := scLaw
  refine F.ok sc (fun vs H Q E h => ?_) (fun cdv A outer s H vs Q E hr h => ?_)
  · obtain ⟨a, ns, rfl, _⟩ := h
    rfl
  obtain ⟨a, ns, rfl, hq, hns, eP, q⟩ := h
  have hu : (A.deeper (PyProof.Rows.envOfC "law" (defScope sLaw) s.heap.objs.size f cdv)).units + 64 < cLine := by
    have := hr.un
    omega
  refine of_XB (xbc (xset (i := 1) sc.nd rfl (Or.inl rfl) (xlst (xac xint xa0)))
    (xbc (xasg (xcD D_l_drawn (hr.mono (by decide)) (xac (xv 0) (xac (xv 1) (xac xint xa0)))) (xgt rfl (xgsc (xgn (i := 2) sc.nd rfl (Or.inl rfl)) (xgsc (xgn (i := 3) sc.nd rfl (Or.inl rfl)) (xgsc (xgn (i := 4) sc.nd rfl (Or.inl rfl)) (xgsc (xgn (i := 5) sc.nd rfl (Or.inl rfl)) xgs0))))))
    (xbc (xasg (xcD D_l_drawn (hr.mono (by decide)) (xac (xv 0) (xac (xv 1) (xac xint xa0)))) (xgt rfl (xgsc (xgn (i := 6) sc.nd rfl (Or.inl rfl)) (xgsc (xgn (i := 7) sc.nd rfl (Or.inl rfl)) (xgsc (xgn (i := 8) sc.nd rfl (Or.inl rfl)) (xgsc (xgn (i := 9) sc.nd rfl (Or.inl rfl)) xgs0))))))
    (xbc (xset (i := 10) sc.nd rfl (Or.inl rfl) (xcTy call_list_of T.n_list rfl (xac (xv 2) xa0)))
    (xbc (xset (i := 11) sc.nd rfl (Or.inl rfl) (xlst xa0))
    (xbc (xset (i := 12) sc.nd rfl (Or.inl rfl) (xcD D_l_told (hr.mono (by decide)) (xac (xv 10) (xac (xv 3) (xac (xv 4) (xac (xv 5) (xac (xv 11) xa0)))))))
    (xbc (xif (xor (xnotT (xvalT (xcB call_isT T.n_isinstance rfl (xac (xv 12) (xac (xty (T := "list") T.n_list rfl) xa0))))) (xor (xnotT (xvalT (xcD D_l_rows_right (hr.mono (by decide)) (xac (xv 2) (xac (xv 3) (xac (xv 4) (xac (xv 5) (xac (xv 12) xa0)))))))) (xor1 (xcmpT (op_neD hu) (xv 10) (xv 2) (nomark _))))).xt (xb1 (xret xbl)) xb0)
    (xbc (xset (i := 13) sc.nd rfl (Or.inl rfl) (xcTy call_list_of T.n_list rfl (xac (xv 12) xa0)))
    (xbc (xset (i := 14) sc.nd rfl (Or.inl rfl) (xcD D_l_told (hr.mono (by decide)) (xac (xcTy call_list_of T.n_list rfl (xac (xv 6) xa0)) (xac (xv 7) (xac (xv 8) (xac (xv 9) (xac (xv 11) xa0)))))))
    (xbc (xif (xor (xnotT (xvalT (xcB call_isT T.n_isinstance rfl (xac (xv 14) (xac (xty (T := "list") T.n_list rfl) xa0))))) (xor (xnotT (xvalT (xcD D_l_rows_right (hr.mono (by decide)) (xac (xv 6) (xac (xv 7) (xac (xv 8) (xac (xv 9) (xac (xv 14) xa0)))))))) (xor1 (xcmpT (op_neD hu) (xv 12) (xv 13) (nomark _))))).xt (xb1 (xret xbl)) xb0)
    (xbc (xexpr (xm PySem.F.plainAttrs_list PySem.F.slot_list_append PySem.F.type_list_append mt_append (xv 12) (xac xstr xa0)))
    (xbc (xif (xor (xcmpT (op_neD hu) (xcD D_l_told (hr.mono (by decide)) (xac (xv 10) (xac (xv 3) (xac (xv 4) (xac (xv 5) (xac (xv 11) xa0)))))) (xv 13) (nomark _)) (xor1 (xcmpT (op_neD hu) (xv 12) (xop op_cat (xv 13) (xlst (xac xstr xa0))) (nomark _)))).xt (xb1 (xret xbl)) xb0)
    (xbc (xif (xcmpT (op_neD hu) (xcD D_l_told (hr.mono (by decide)) (xac (xlst xa0) (xac xint (xac xint (xac xint (xac (xv 11) xa0)))))) (xlst xa0) (nomark _)) (xb1 (xret xbl)) xb0)
    (xb1 (xret (xcmp (op_eqD hu) (xlc (cl := []) (own := ["_law_number"]) (fr := []) (N' := ["_law_number"]) rfl (compN (xs := []) trivial trivial (by decide +kernel)) (by decide +kernel) (by decide +kernel) (by with_unfolding_all rfl)
    (xil (xv 11))
    (fun _ _ _ _ => xgn (i := 0) (show (["_law_number"] : List Str).Nodup by decide +kernel) rfl (Or.inl rfl)) (fun _ _ _ _ => xq1 (xor (xnotT (xvalT (xcD D_l_whole (hr.mono (by decide)) (xac (xv 0) xa0)))) (xor1 (xcmpT op_lt (xv 0) xint (nomark _)))).xt) (fun _ _ _ _ => (xv 0))) (xlst xa0) (nomark _))))))))))))))))) ?_
  rw [show start ["_law_script", "_law_tape", "_law_words_here", "_law_width", "_law_kind", "_law_wide", "_law_others", "_law_far", "_law_sort", "_law_long", "_law_handed", "_law_numbers", "_law_found", "_law_kept", "_law_between"] [V.ref a] = [some (V.ref a), none, none, none, none, none, none, none, none, none, none, none, none, none, none] from rfl]
  have hs : sizeLine = 16777216 := sizeLine_eq
  refine ⟨big (show (1 : Nat) ≤ 1000000 by decide), fun t ht => ?_⟩
  have scr1 : Scr K t (upd H t (.lst [.int 0])) a ns := Scr.of ht hq
  have et1 : upd H t (.lst [.int 0]) t = some (.lst [.int 0]) := upd_same
  have nPt : Pt ≠ t := fun z => by rw [← z, eP] at ht; cases ht
  have eP1 : upd H t (.lst [.int 0]) Pt = some (.tbl #[]) := (upd_ne nPt).trans eP
  dsimp only [gName, List.set_cons_succ, List.set_cons_zero]
  generalize upd H t (.lst [.int 0]) = H1 at scr1 et1 eP1 ⊢
  refine ⟨_, rfl, _, rfl, a, t, ns, 0, 19, rfl, scr1, hns, et1, by omega, by omega, by omega, by omega, fun tp wa ws width kind wide m2 H2 hwa sx2 ewa2 etp2 et2 l1 l2 hwl wd0 wd1 k3 wdw hw => ?_⟩
  refine ⟨tp, _, rfl, SqT.of etp2, rfl, _, _, rfl, _, _, rfl, _, _, rfl, _, _, rfl, rfl, ?_⟩
  have scr2 := scr1.move sx2
  have eP2 := sx2 _ _ nPt eP1
  have nwt : wa ≠ t := fun z => by rw [z, et1] at hwa; cases hwa
  dsimp only [gName, List.set_cons_succ, List.set_cons_zero]
  refine ⟨_, rfl, _, rfl, a, t, ns, m2, 8, rfl, scr2, hns, et2, by omega, by omega, by omega, by omega, fun tp2 oa os far sort long m3 H3 hoa sx3 eoa3 etp3 et3 l3 l4 hol f0 f1 s3 flong ho => ?_⟩
  refine ⟨tp2, _, rfl, SqT.of etp3, rfl, _, _, rfl, _, _, rfl, _, _, rfl, _, _, rfl, rfl, ?_⟩
  have eP3 := sx3 _ _ nPt eP2
  have ewa3 := sx3 _ _ nwt ewa2
  dsimp only [gName, List.set_cons_succ, List.set_cons_zero]
  clear scr1 scr2 sx2 sx3 et1 et2 et3 etp2 etp3 eP1 eP2 ewa2 l1 l2 l3 l4 hoa hwa nwt
  -- handed, numbers
  refine ⟨_, rfl, wa, _, rfl, .inl (SqL.of ewa3), fun ha hha => ?_⟩
  have s4 := same_new hha (.lst (ws.map vS))
  have eha4 : upd H3 ha (.lst (ws.map vS)) ha = some (.lst (ws.map vS)) := upd_same
  have ewa4 := s4 _ _ ewa3
  have eoa4 := s4 _ _ eoa3
  have eP4 := s4 _ _ eP3
  dsimp only [gName, List.set_cons_succ, List.set_cons_zero]
  generalize upd H3 ha (.lst (ws.map vS)) = H4 at s4 eha4 ewa4 eoa4 eP4 ⊢
  refine ⟨big (show (0 : Nat) ≤ 1000000 by decide), fun an han => ?_⟩
  have s5 := same_new han (.lst [])
  obtain ⟨kk, ekk⟩ : ∃ kk : Nat, kk + 2000000 + 2000000 + 2000000 + 2000000 = 16000000 := ⟨8000000, rfl⟩
  have nu5 : NumsAt an (kk + 2000000 + 2000000 + 2000000 + 2000000) (upd H4 an (.lst [])) := ⟨[], upd_same, (fun _ z => nomatch z), by rw [ekk]; exact Nat.le_of_eq (Nat.zero_add _)⟩
  have eha5 := s5 _ _ eha4
  have ewa5 := s5 _ _ ewa4
  have eoa5 := s5 _ _ eoa4
  have tab5 : Tab Pt qsTold (upd H4 an (.lst [])) := Tab.new (s5 _ _ eP4)
  have nha : ha ≠ an := fun z => by rw [z, han] at eha4; cases eha4
  have nwa : wa ≠ an := fun z => by rw [z, han] at ewa4; cases ewa4
  have noa : oa ≠ an := fun z => by rw [z, han] at eoa4; cases eoa4
  dsimp only [gName, List.set_cons_succ, List.set_cons_zero]
  generalize upd H4 an (.lst []) = H5 at s5 nu5 eha5 ewa5 eoa5 tab5 ⊢
  clear s4 s5 eha4 ewa4 eoa4 eP4 ewa3 eoa3 eP3 hha han
  have hwA : ∀ w ∈ ws, Asc w := fun x hx => (hw x hx).2.2.2
  have hoA : ∀ w ∈ os, Asc w := fun x hx => (ho x hx).2.2.2
  -- found
  refine ⟨_, rfl, _, rfl, _, rfl, _, rfl, _, rfl, ha, an, ws, width, kind, wide, kk + 2000000 + 2000000 + 2000000, rfl, eha5, nha, hw, by omega, by omega, wdw, k3, nu5, tab5, fun fo rows H6 hfo sw6 nu6 tab6 efo6 hF => ?_⟩
  have nfo := nu5.has hfo
  have nhf : ha ≠ fo := fun z => by rw [← z, eha5] at hfo; cases hfo
  have eha6 := told_keep tab5 sw6 nha eha5
  have ewa6 := told_keep tab5 sw6 nwa ewa5
  have eoa6 := told_keep tab5 sw6 noa eoa5
  have hrA := filled_asc hF (asc_lead kind wide) hwA
  have hL : ∀ n, (leadC kind wide n).length < width := fun n => Nat.lt_of_le_of_lt (lead_len kind wide n) wdw
  have htot := tot_le (m := 1000) fun x hx => (hw x hx).2.2.1
  have hcnt := hF.count hL
  have hrl : rows.length ≤ 20020 := Nat.le_trans hcnt (Nat.le_trans htot (by omega))
  dsimp only [gName, List.set_cons_succ, List.set_cons_zero]
  clear sw6 nu5 tab5 eha5 ewa5 eoa5 hfo
  refine s_no (t_or false false (t_not true fun R k => ⟨_, rfl, _, _, _, true, rfl, .lst efo6, kit_same _ _, _, rfl, k _ (Same.refl _)⟩)
    (fun _ Ha sa => t_or false false (t_not true fun R k => ⟨_, rfl, _, rfl, _, rfl, _, rfl, _, rfl, wa, fo, ws, rows, width, kind, wide, rfl, sa _ _ ewa6, sa _ _ efo6, hF, hw, hwl, wdw, wd1, k3, fun H' s' => ⟨_, rfl, k _ s'⟩⟩)
    (fun _ Hb sb R k => ⟨_, rfl, _, rfl, .list (dT ws), .lst (SqL.of (sb _ _ (sa _ _ eha6))) (den_dT hwA), .lst (SqL.of (sb _ _ (sa _ _ ewa6))) (den_dT hwA), dep_dT6 _, _, rfl, k _ (Same.refl _)⟩))) (fun H7 s7 => ?_)
  have eha7 := s7 _ _ eha6
  have ewa7 := s7 _ _ ewa6
  have eoa7 := s7 _ _ eoa6
  have efo7 := s7 _ _ efo6
  have nu7 := nu6.same s7
  have tab7 := tab6.keep fun b o e => s7 b o e
  clear s7 eha6 ewa6 eoa6 efo6 nu6 tab6
  -- kept
  refine ⟨_, rfl, fo, _, rfl, .inl (SqL.of efo7), fun ke hke => ?_⟩
  have s8 := same_new hke (.lst (rows.map vS))
  have eke8 : upd H7 ke (.lst (rows.map vS)) ke = some (.lst (rows.map vS)) := upd_same
  have nke := nu7.has hke
  have nkf : fo ≠ ke := fun z => by rw [← z, efo7] at hke; cases hke
  have eha8 := s8 _ _ eha7
  have eoa8 := s8 _ _ eoa7
  have efo8 := s8 _ _ efo7
  have nu8 := nu7.same s8
  have tab8 := tab7.keep fun b o e => s8 b o e
  dsimp only [gName, List.set_cons_succ, List.set_cons_zero]
  generalize upd H7 ke (.lst (rows.map vS)) = H8 at s8 eke8 eha8 eoa8 efo8 nu8 tab8 ⊢
  clear s8 eha7 ewa7 eoa7 efo7 nu7 tab7 hke
  -- between
  refine ⟨_, rfl, oa, _, rfl, .inl (SqL.of eoa8), fun lo hlo => ?_⟩
  have s9 := same_new hlo (.lst (os.map vS))
  have elo9 : upd H8 lo (.lst (os.map vS)) lo = some (.lst (os.map vS)) := upd_same
  have nlo := nu8.has hlo
  have eha9 := s9 _ _ eha8
  have eoa9 := s9 _ _ eoa8
  have efo9 := s9 _ _ efo8
  have eke9 := s9 _ _ eke8
  have nu9 := nu8.same s9
  have tab9 := tab8.keep fun b o e => s9 b o e
  generalize upd H8 lo (.lst (os.map vS)) = H9 at s9 elo9 eha9 eoa9 efo9 eke9 nu9 tab9 ⊢
  clear s9 eha8 eoa8 efo8 eke8 nu8 tab8 hlo
  refine ⟨_, rfl, _, rfl, _, rfl, _, rfl, lo, an, os, far, sort, long, kk + 2000000 + 2000000, rfl, elo9, nlo, ho, by omega, by omega, flong, s3, nu9, tab9, fun be rows2 H10 hbe sw10 nu10 tab10 ebe10 hF2 => ?_⟩
  have eha10 := told_keep tab9 sw10 nha eha9
  have eoa10 := told_keep tab9 sw10 noa eoa9
  have efo10 := told_keep tab9 sw10 nfo efo9
  have eke10 := told_keep tab9 sw10 nke eke9
  dsimp only [gName, List.set_cons_succ, List.set_cons_zero]
  clear sw10 nu9 tab9 eha9 eoa9 efo9 eke9 hbe elo9
  refine s_no (t_or false false (t_not true fun R k => ⟨_, rfl, _, _, _, true, rfl, .lst ebe10, kit_same _ _, _, rfl, k _ (Same.refl _)⟩)
    (fun _ Ha sa => t_or false false (t_not true fun R k => ⟨_, rfl, _, rfl, _, rfl, _, rfl, _, rfl, oa, be, os, rows2, far, sort, long, rfl, sa _ _ eoa10, sa _ _ ebe10, hF2, ho, hol, flong, f1, s3, fun H' s' => ⟨_, rfl, k _ s'⟩⟩)
    (fun _ Hb sb R k => ⟨_, rfl, _, rfl, .list (dT rows), .lst (SqL.of (sb _ _ (sa _ _ efo10))) (den_dT hrA), .lst (SqL.of (sb _ _ (sa _ _ eke10))) (den_dT hrA), dep_dT6 _, _, rfl, k _ (Same.refl _)⟩))) (fun H11 s11 => ?_)
  have eha11 := s11 _ _ eha10
  have efo11 := s11 _ _ efo10
  have eke11 := s11 _ _ eke10
  have nu11 := nu10.same s11
  have tab11 := tab10.keep fun b o e => s11 b o e
  clear s11 eha10 eoa10 efo10 eke10 nu10 tab10 ebe10 hF2
  -- more
  refine ⟨_, rfl, .inl ⟨rfl, _, SqL.of efo11⟩, fo, _, _, rfl, rfl, efo11, by rw [List.length_map]; omega, ?_⟩
  have efo12 : upd H11 fo (.lst (rows.map vS ++ [V.str (Str.ofString "more")])) fo = some (.lst ((rows ++ [wMore8]).map vS)) := by rw [upd_same, List.map_append]; rfl
  have eha12 := (upd_ne (o := .lst (rows.map vS ++ [V.str (Str.ofString "more")])) nhf).trans eha11
  have eke12 := (upd_ne (o := .lst (rows.map vS ++ [V.str (Str.ofString "more")])) nkf.symm).trans eke11
  have nu12 : NumsAt an (kk + 2000000 + 2000000) (upd H11 fo (.lst (rows.map vS ++ [V.str (Str.ofString "more")]))) := let ⟨xs, e, r⟩ := nu11; ⟨xs, (upd_ne nfo.symm).trans e, r⟩
  have tab12 : Tab Pt qsTold (upd H11 fo (.lst (rows.map vS ++ [V.str (Str.ofString "more")]))) := tab11.keepW fun b o no e => by
    rw [upd_ne (fun z => by rw [z, efo11] at e; cases e; exact no _ rfl)]; exact e
  generalize upd H11 fo (.lst (rows.map vS ++ [V.str (Str.ofString "more")])) = H12 at efo12 eha12 eke12 nu12 tab12 ⊢
  clear efo11 eha11 eke11 nu11 tab11
  have hmA : ∀ r ∈ rows ++ [wMore8], Asc r := fun r hr => by
    rcases List.mem_append.mp hr with hr | hr
    · exact hrA r hr
    · rw [show r = wMore8 by simpa using hr]
      show ∀ c ∈ wMore8, c < 128
      decide
  refine ⟨_, rfl, _, rfl, _, rfl, _, rfl, _, rfl, ha, an, ws, width, kind, wide, kk + 2000000, rfl, eha12, nha, hw, by omega, by omega, wdw, k3, nu12, tab12, fun fo2 rows3 H13 hfo2 sw13 nu13 tab13 efo13 hF3 => ?_⟩
  obtain rfl := hF.det hF3
  have efoo := told_keep tab12 sw13 nfo efo12
  have eke13 := told_keep tab12 sw13 nke eke12
  clear sw13 nu12 tab12 eha12 eke12 efo12 hfo2
  refine ⟨_, rfl, .list (dT rows), .lst (SqL.of efo13) (den_dT hrA), .lst (SqL.of eke13) (den_dT hrA), dep_dT6 _, _, rfl, iteF ?_⟩
  refine ⟨_, rfl, _, rfl, big (show (1 : Nat) ≤ 1000000 by decide), fun p1 hp1 => ?_⟩
  have s14 := same_new hp1 (.lst [V.str (Str.ofString "more")])
  have ep14 : upd H13 p1 (.lst [V.str (Str.ofString "more")]) p1 = some (.lst [V.str (Str.ofString "more")]) := upd_same
  have efo14 := s14 _ _ efoo
  have eke14 := s14 _ _ eke13
  have nu14 := nu13.same s14
  have tab14 := tab13.keep fun b o e => s14 b o e
  generalize upd H13 p1 (.lst [V.str (Str.ofString "more")]) = H14 at s14 ep14 efo14 eke14 nu14 tab14 ⊢
  refine ⟨ke, p1, _, _, rfl, rfl, eke14, ep14, by rw [List.length_map]; show rows.length + 1 ≤ _; omega, fun p2 hp2 => ?_⟩
  have s15 := same_new hp2 (.lst (rows.map vS ++ [V.str (Str.ofString "more")]))
  refine ⟨.list (dT (rows ++ [wMore8])), .lst (SqL.of (s15 _ _ efo14)) (den_dT hmA), .lst (SqL.of (upd_same.trans (by rw [List.map_append]; rfl))) (den_dT hmA), dep_dT6 _, _, rfl, iteF ?_⟩
  have nu15 := nu14.same s15
  have tab15 := tab14.keep fun b o e => s15 b o e
  generalize upd H14 p2 (.lst (rows.map vS ++ [V.str (Str.ofString "more")])) = H15 at s15 nu15 tab15 ⊢
  clear s14 s15 ep14 efo14 eke14 nu14 tab14 nu13 tab13 efoo eke13 efo13
  -- no words
  refine ⟨big (show (0 : Nat) ≤ 1000000 by decide), fun p3 hp3 => ?_⟩
  have s16 := same_new hp3 (.lst [])
  have ep16 : upd H15 p3 (.lst []) p3 = some (.lst (([] : List (List Nat)).map vS)) := upd_same
  have np3 := nu15.has hp3
  have nu16 := nu15.same s16
  have tab16 := tab15.keep fun b o e => s16 b o e
  generalize upd H15 p3 (.lst []) = H16 at s16 ep16 nu16 tab16 ⊢
  refine ⟨_, rfl, p3, an, [], 9, 3, 4, kk, by rfl, ep16, np3, (fun _ z => nomatch z), by decide, by decide, by decide, by decide, nu16, tab16, fun p4 rows4 H17 hp4 sw17 nu17 tab17 ep17 hF4 => ?_⟩
  cases hF4
  refine ⟨big (show (0 : Nat) ≤ 1000000 by decide), fun p5 hp5 => ?_⟩
  have s18 := same_new hp5 (.lst [])
  refine ⟨.list [], .lst (SqL.of (s18 _ _ ep17)) .nil, .lst (SqL.of upd_same) .nil, by decide, _, rfl, iteF ?_⟩
  obtain ⟨xs, exs, hxs, hxl⟩ := nu17.same s18
  generalize upd H17 p5 (.lst []) = H18 at s18 exs ⊢
  refine ⟨_, rfl, an, rfl, ⟨_, SqL.of exs⟩, ?_⟩
  refine lc_list (fun _ => false) id (SqL.of exs) (by omega) ?_ ?_
  · intro x hx H' s' C N hC hN
    obtain ⟨i, rfl, hi⟩ := hxs x hx
    refine ⟨(nfLe.refl _ _ _).set (by decide) _, ?_⟩
    refine ⟨_, rfl, i, rfl, _, rfl, iteF ?_⟩
    refine ⟨_, rfl, _, _, rfl, rfl, _, rfl, ?_⟩
    rw [decide_eq_false (show ¬ i < 0 by omega)]
    exact iteF (hN _ (Same.refl _) rfl)
  · intro D H' hD s' eD
    have eD2 : H' D = some (.lst []) := by
      rw [eD]
      congr 2
      rw [List.filter_eq_nil_iff.mpr (fun _ _ => Bool.false_ne_true)]
      rfl
    refine ⟨big (show (0 : Nat) ≤ 1000000 by decide), fun p6 hp6 => ?_⟩
    exact ⟨.list [], .lst (SqL.of (same_new hp6 (.lst []) _ _ eD2)) .nil, .lst (SqL.of upd_same) .nil, by decide, q _⟩
end
end K8

set_option Elab.async false
set_option linter.all false
set_option maxRecDepth 100000
set_option maxHeartbeats 2000000
namespace K8
open PySem L2 Lm Lw
section
variable {P : Program} {w : World} {K : PySem.W.Frag} {mg : Str → Option Value} {base : Heap}
abbrev sRoom : Stmt := top 3
theorem scRoom : FnScope ["ahead", "width"] ["ahead", "width"] (defScope sRoom) := ⟨rfl, rfl, rfl, by decide +kernel, rfl, by decide +kernel, by decide +kernel⟩
theorem ok_room {f : Addr} {fd : FuncData} (F : Fun K "room_behind" "room_behind" sRoom f fd) (T : Tx8 mg) : FnOk P w K mg base CX0 1 f fd ["ahead", "width"] spRoom := by
  have sc := scRoom
  refine F.ok sc (fun vs H Q E h => ?_) (fun cdv A outer s H vs Q E hr h => ?_)
  · obtain ⟨a, width, rfl, _⟩ := h
    rfl
  obtain ⟨a, width, rfl, ha, hw, q⟩ := h
  refine of_XB (xb1 (xret (xcB (call_max2 rfl) T.n_max rfl (xac xint (xac (xop op_sub (xv 1) (xcB call_len_str T.n_len PySem.boot_len (xac (xv 0) xa0))) xa0))))) ?_
  refine ⟨_, rfl, _, rfl, _, rfl, bigS (by omega), _, _, rfl, rfl, 1, (width : Int) - (a.length : Nat), ?_, ?_⟩
  · rw [S_len]
  rw [show (if (width : Int) - (a.length : Nat) > 1 then (width : Int) - (a.length : Nat) else 1) = ((width - a.length : Nat) : Int) by split <;> omega]
  exact q
abbrev sLast : Stmt := top 2
theorem scLast : FnScope ["word", "width", "lead", "rows", "place", "ahead", "piece"] ["word", "width", "lead", "rows"] (defScope sLast) := ⟨rfl, rfl, rfl, by decide +kernel, rfl, by decide +kernel, by decide +kernel⟩
theorem ok_last {f g : Addr} {fd : FuncData} {W : Addr → Prop} {Pre : Nat → Hp → Prop} {L : Nat → List Nat} {x : Str} (F : Fun K "last_piece" "last_piece" sLast f fd) (T : Tx8 mg) (hP : LeadW W Pre) (hV : FnV P w K mg base 2 g [x] (spLeadF W Pre L)) (D_room_behind : Def P w K mg base 1 "room_behind" ["ahead", "width"] spRoom) :
    FnOk P w K mg base CX0 3 f fd ["word", "width", "lead", "rows"] (spLast g W Pre L) := by
  have sc := scLast
  refine F.ok sc (fun vs H Q E h => ?_) (fun cdv A outer s H vs Q E hr h => ?_)
  · obtain ⟨wd, width, k, i, p, H0, rs, rfl, _⟩ := h
    rfl
  obtain ⟨wd, width, k, i, p, H0, rs, rfl, A0, hp, nWp, hne, hwl, w1, hL, hrl, hi, q⟩ := h
  refine of_XB (xbc (xset (i := 4) sc.nd rfl (Or.inl rfl) xint)
    (xbc (xset (i := 5) sc.nd rfl (Or.inl rfl) (xcV (i := 2) (k := 2) rfl (Or.inl rfl) (hr.mono (by decide)) (xac (xcB call_len_seq T.n_len PySem.boot_len (xac (xv 3) xa0)) xa0)))
    (xbc (xwhile PassesOwn.never (xcmpT op_gt (xop op_sub (xcB call_len_str T.n_len PySem.boot_len (xac (xv 0) xa0)) (xv 4)) (xcD D_room_behind (hr.mono (by decide)) (xac (xv 5) (xac (xv 1) xa0))) (nomark _))
    (xbc (xset (i := 6) sc.nd rfl (Or.inl rfl) (xsl sl_str (xv 0) (xo1 (xv 4)) (xo1 (xop op_add (xv 4) (xcD D_room_behind (hr.mono (by decide)) (xac (xv 5) (xac (xv 1) xa0)))))))
    (xbc (xexpr (xm PySem.F.plainAttrs_list PySem.F.slot_list_append PySem.F.type_list_append mt_append (xv 3) (xac (xop op_add_str (xv 5) (xv 6)) xa0)))
    (xbc (xaug (i := 4) sc.nd rfl (Or.inl rfl) (xcB call_len_str T.n_len PySem.boot_len (xac (xv 6) xa0)) ip_add)
    (xb1 (xset (i := 5) sc.nd rfl (Or.inl rfl) (xcV (i := 2) (k := 2) rfl (Or.inl rfl) (hr.mono (by decide)) (xac (xcB call_len_seq T.n_len PySem.boot_len (xac (xv 3) xa0)) xa0))))))))
    (xb1 (xret (xop op_add_str (xv 5) (xsl sl_str (xv 0) (xo1 (xv 4)) xo0))))))) ?_
  have hs : sizeLine = 16777216 := sizeLine_eq
  rw [show start ["word", "width", "lead", "rows", "place", "ahead", "piece"] [vS wd, V.int width, V.ref g, V.ref p] = [some (vS wd), some (V.int width), some (V.ref g), some (V.ref p), none, none, none] from rfl]
  obtain ⟨j, pj, hj⟩ := A0.pre
  obtain ⟨j', rfl⟩ : ∃ j', j = j' + 1 := ⟨j - 1, by omega⟩
  refine ⟨g, [x], spLeadF W Pre L, rfl, hV, _, rfl, p, _, rfl, .inl (SqL.of A0.ep), rs.length, k + j', by rw [List.length_map], by omega, pj, fun H1 pre1 sw1 => ?_⟩
  have A1 : FilAt W Pre k p H0 rs (i + 1) H1 := ⟨A0.sw.trans sw1, sw1 _ _ nWp A0.ep, j', pre1, by omega⟩
  clear pj hj pre1 A0
  dsimp only [gName, List.set_cons_succ, List.set_cons_zero]
  refine s_join (fun σ' H' => ∃ as w' pl x6, σ' = [some (vS wd), some (.int width), some (.ref g), some (.ref p), some (.int ((pl : Nat) : Int)), some (vS (L (rs ++ as).length)), x6] ∧ FilAt W Pre k p H0 (rs ++ as) (i + 1) H' ∧ w' = wd.drop pl ∧ Cuts width L rs.length wd as w') (fun N hN => ?_) ?_
  · refine while_t (fun m σ H' => ∃ as pl x6, m = wd.length - pl ∧ σ = [some (vS wd), some (.int width), some (.ref g), some (.ref p), some (.int ((pl : Nat) : Int)), some (vS (L (rs ++ as).length)), x6] ∧ FilAt W Pre k p H0 (rs ++ as) (i + 1) H' ∧ pl < wd.length ∧ as.length ≤ pl ∧ ∀ bs w', Cuts width L (rs ++ as).length (wd.drop pl) bs w' → Cuts width L rs.length wd (as ++ bs) w') wd.length
      ⟨[], 0, none, rfl, by rw [List.append_nil]; rfl, by rw [List.append_nil]; exact A1, List.length_pos_iff.mpr hne, Nat.le_refl _, fun bs w' h => by rw [List.append_nil, List.drop_zero] at h; exact h⟩ ?_
    clear A1 sw1
    rintro m σ H2 ⟨as, pl, x6, rfl, rfl, A2, hpl, hal, hc⟩
    have hLn := hL (rs ++ as).length
    have hrs : (rs ++ as).length ≤ 1002000 := by rw [List.length_append]; omega
    generalize hn : (rs ++ as).length = n at hc hLn hrs ⊢
    refine ⟨decide (((width - (L n).length : Nat) : Int) < (wd.length : Int) - (pl : Nat)), fun R k => ⟨_, rfl, _, rfl, bigS (by omega), _, rfl, _, _, rfl, rfl, _, rfl, _, rfl, L n, width, rfl, hLn, w1, _, _, rfl, rfl, _, rfl, ?_⟩, fun c H3 s3 => ?_, fun c H3 s3 => ?_⟩
    · rw [S_len]
      exact k _ (Same.refl _)
    · have c := of_decide_eq_true c
      have A3 := A2.same hP s3
      obtain ⟨room, hroom⟩ : ∃ room : Nat, room = width - (L n).length := ⟨_, rfl⟩
      rw [← hroom] at c
      have evR : Ev (tCall spRoom [] E0 (tCons (tVar 5) (tCons (tVar 1) tNil))) [some (vS wd), some (.int width), some (.ref g), some (.ref p), some (.int ((pl : Nat) : Int)), some (vS (L n)), x6] H3 (.int (room : Nat)) := fun R r => ⟨_, rfl, _, rfl, L n, width, rfl, hLn, w1, by rw [← hroom]; exact r⟩
      refine ev_sl (a := (wd.drop pl).take room) (l := wd) (by omega) (ev_v rfl) (evo_s (ev_v rfl)) (evo_s (ev_op (ev_v rfl) evR rfl)) ?_ _ ?_
      · rw [show ((pl : Nat) : Int) + ((room : Nat) : Int) = ((pl + room : Nat) : Int) by omega, cut_any, Nat.add_sub_cancel_left]
      dsimp only [gName, List.set_cons_succ, List.set_cons_zero]
      refine ⟨_, rfl, .inl ⟨rfl, _, SqL.of A3.ep⟩, _, rfl, _, rfl, _, _, rfl, rfl, ?_, p, _, _, rfl, rfl, A3.ep, by rw [List.length_map, hn]; omega, ?_⟩
      · show (S (L n)).length + (S ((wd.drop pl).take room)).length ≤ _
        rw [S_len, S_len, hs, List.length_take, List.length_drop]; omega
      have A4 : FilAt W Pre k p H0 (rs ++ (as ++ [L n ++ (wd.drop pl).take room])) (i + 1) (upd H3 p (.lst ((rs ++ as).map vS ++ [V.str (S (L n) ++ S ((wd.drop pl).take room))]))) := A3.put hP hp nWp (by rw [catS, ← List.append_assoc, List.map_append (l₁ := rs ++ as)]; rfl) (by rw [← List.append_assoc, List.length_append (as := rs ++ as)]; omega)
      obtain ⟨j, pj, hj⟩ := A3.pre
      rw [hn] at hj
      obtain ⟨j', rfl⟩ : ∃ j', j = j' + 1 := ⟨j - 1, by omega⟩
      have pj4 : Pre (k + (j' + 1)) (upd H3 p (.lst ((rs ++ as).map vS ++ [V.str (S (L n) ++ S ((wd.drop pl).take room))]))) := hP.stay _ _ _ pj fun b hb => upd_ne (fun z => nWp (z ▸ hb))
      generalize upd H3 p (.lst ((rs ++ as).map vS ++ [V.str (S (L n) ++ S ((wd.drop pl).take room))])) = H4 at A4 pj4 ⊢
      have hn4 : (rs ++ (as ++ [L n ++ (wd.drop pl).take room])).length = n + 1 := by rw [← List.append_assoc, List.length_append, hn]; rfl
      have htl : ((wd.drop pl).take room).length = room := by rw [List.length_take, List.length_drop]; omega
      refine ⟨_, rfl, _, rfl, _, rfl, bigS (by omega), _, _, rfl, rfl, ?_⟩
      dsimp only [gName, List.set_cons_succ, List.set_cons_zero]
      rw [S_len, htl, show ((pl : Nat) : Int) + ((room : Nat) : Int) = ((pl + room : Nat) : Int) by omega]
      refine ⟨g, [x], spLeadF W Pre L, rfl, hV, _, rfl, p, _, rfl, .inl (SqL.of A4.ep), n + 1, k + j', by rw [List.length_map, hn4], by omega, pj4, fun H5 pre5 sw5 => ?_⟩
      refine ⟨wd.length - (pl + room), by omega, as ++ [L n ++ (wd.drop pl).take room], pl + room, _, rfl, by rw [hn4]; rfl, ⟨A4.sw.trans sw5, sw5 _ _ nWp A4.ep, j', pre5, by rw [hn4]; omega⟩, by omega, by rw [List.length_append]; show as.length + 1 ≤ _; omega, fun bs w' h => ?_⟩
      rw [hn4] at h
      rw [List.append_assoc]
      refine hc _ _ ?_
      rw [hroom]
      refine .more n (wd.drop pl) bs w' (by rw [List.length_drop]; omega) ?_
      rw [List.drop_drop, ← hroom]
      exact h
    · have c := of_decide_eq_false c
      refine hN _ _ ⟨as, wd.drop pl, pl, x6, by rw [hn], A2.same hP s3, rfl, ?_⟩
      have := hc [] (wd.drop pl) (.done n _ (by rw [List.length_drop]; omega))
      rw [List.append_nil] at this
      exact this
  rintro σ2 H2 ⟨as, w', pl, x6, rfl, A2, rfl, hc⟩
  have hLn := hL (rs ++ as).length
  refine ⟨_, rfl, _, rfl, _, rfl, _, rfl, _, rfl, bigS (by omega), ?_⟩
  rw [slice_S, cut_from]
  refine ⟨_, _, rfl, rfl, ?_, ?_⟩
  · show (S (L (rs ++ as).length)).length + (S (wd.drop pl)).length ≤ _
    rw [S_len, S_len, hs, List.length_drop]; omega
  have := q as _ H2 hc A2
  rw [← List.length_append] at this
  rw [catS]
  exact this
abbrev sFilled : Stmt := top 1
theorem scFilled : FnScope ["words", "width", "lead", "rows", "held", "used", "word"] ["words", "width", "lead"] (defScope sFilled) := ⟨rfl, rfl, rfl, by decide +kernel, rfl, by decide +kernel, by decide +kernel⟩
theorem ok_filled {f g : Addr} {fd : FuncData} {W : Addr → Prop} {Pre : Nat → Hp → Prop} {L : Nat → List Nat} (F : Fun K "filled" "filled" sFilled f fd) (T : Tx8 mg) (hP : LeadW W Pre) (D_last_piece : Def P w K mg base 3 "last_piece" ["word", "width", "lead", "rows"] (spLast g W Pre L)) :
    FnOk P w K mg base CX0 4 f fd ["words", "width", "lead"] (spFilled g W Pre L) := by
  have sc := scFilled
  refine F.ok sc (fun vs H Q E h => ?_) (fun cdv A outer s H vs Q E hr h => ?_)
  · obtain ⟨aw, ws, width, k, rfl, _⟩ := h
    rfl
  obtain ⟨aw, ws, width, k, rfl, ew, nw, hw, hwl, w1, hL, pre, q⟩ := h
  have hu : (A.deeper (PyProof.Rows.envOfC "filled" (defScope sFilled) s.heap.objs.size f cdv)).units + 64 < cLine := by
    have := hr.un
    omega
  refine of_XB (xbc (xset (i := 3) sc.nd rfl (Or.inl rfl) (xlst xa0))
    (xbc (xset (i := 4) sc.nd rfl (Or.inl rfl) (xlst xa0))
    (xbc (xset (i := 5) sc.nd rfl (Or.inl rfl) xint)
    (xbc (xfor PassesOwn.never rfl (xil (xv 0)) (xgn (i := 6) sc.nd rfl (Or.inl rfl))
    (xbc (xif (xand (xcmpT (op_ne0 hu) (xv 4) (xlst xa0) (nomark _)) (xand1 (xcmpT op_le (xop op_add (xop op_add (xv 5) xint) (xcB call_len_str T.n_len PySem.boot_len (xac (xv 6) xa0))) (xv 1) (nomark _)))).xt (xbc (xexpr (xm PySem.F.plainAttrs_list PySem.F.slot_list_append PySem.F.type_list_append mt_append (xv 4) (xac (xv 6) xa0)))
    (xbc (xaug (i := 5) sc.nd rfl (Or.inl rfl) (xop op_add xint (xcB call_len_str T.n_len PySem.boot_len (xac (xv 6) xa0))) ip_add)
    (xb1 xcont))) xb0)
    (xbc (xif (xcmpT (op_ne0 hu) (xv 4) (xlst xa0) (nomark _)) (xb1 (xexpr (xm PySem.F.plainAttrs_list PySem.F.slot_list_append PySem.F.type_list_append mt_append (xv 3) (xac (xm PySem.F.plainAttrs_str PySem.F.slot_str_join PySem.F.type_str_join mt_join xstr (xac (xv 4) xa0)) xa0)))) xb0)
    (xbc (xset (i := 4) sc.nd rfl (Or.inl rfl) (xlst (xac (xcD D_last_piece (hr.mono (by decide)) (xac (xv 6) (xac (xv 1) (xac (xv 2) (xac (xv 3) xa0))))) xa0)))
    (xb1 (xset (i := 5) sc.nd rfl (Or.inl rfl) (xcB call_len_str T.n_len PySem.boot_len (xac (xix ix_list (xv 4) xint (fun _ _ => rfl)) xa0))))))))
    (xbc (xif (xcmpT (op_ne0 hu) (xv 4) (xlst xa0) (nomark _)) (xb1 (xexpr (xm PySem.F.plainAttrs_list PySem.F.slot_list_append PySem.F.type_list_append mt_append (xv 3) (xac (xm PySem.F.plainAttrs_str PySem.F.slot_str_join PySem.F.type_str_join mt_join xstr (xac (xv 4) xa0)) xa0)))) xb0)
    (xb1 (xret (xv 3)))))))) ?_
  have hs : sizeLine = 16777216 := sizeLine_eq
  obtain ⟨R, hR⟩ := filled_ex hL (tot ws) 0 ws (Nat.le_refl _)
  have hcnt := hR.count hL
  have htot := tot_le (m := 1000) fun x hx => (hw x hx).2
  have hRl : R.length ≤ 1001000 := Nat.le_trans hcnt (Nat.le_trans htot (by omega))
  rw [show start ["words", "width", "lead", "rows", "held", "used", "word"] [V.ref aw, V.int width, V.ref g] = [some (V.ref aw), some (V.int width), some (V.ref g), none, none, none, none] from rfl]
  refine ⟨big (show (0 : Nat) ≤ 1000000 by decide), fun p hp => ?_⟩
  have nWp : ¬ W p := fun z => hP.there _ _ _ pre z hp
  have A1 : FilAt W Pre k p H [] 0 (upd H p (.lst [])) := ⟨fun b o n e => same_new hp _ _ _ e, upd_same, 2000000, hP.stay _ _ _ pre fun b hb => upd_ne (fun z => nWp (z ▸ hb)), by simp⟩
  dsimp only [gName, List.set_cons_succ, List.set_cons_zero]
  generalize upd H p (.lst []) = H1 at A1 ⊢
  refine ⟨big (show (0 : Nat) ≤ 1000000 by decide), fun hd0 hhd0 => ?_⟩
  have A2 := A1.same hP (same_new hhd0 (.lst []))
  have nW0 : ¬ W hd0 := fun z => by obtain ⟨j, a, _⟩ := A1.pre; exact hP.there _ _ _ a z hhd0
  have n0p : hd0 ≠ p := fun z => by rw [z, A1.ep] at hhd0; cases hhd0
  have h00 : H hd0 = none := A1.sw.free nW0 hhd0
  have eh0 : upd H1 hd0 (.lst []) hd0 = some (.lst []) := upd_same
  dsimp only [gName, List.set_cons_succ, List.set_cons_zero, tSeq, tAsg, tC]
  generalize upd H1 hd0 (.lst []) = H2 at A2 eh0 ⊢
  refine ⟨_, rfl, aw, rfl, ⟨_, SqL.of (A2.sw _ _ nw ew)⟩, ?_⟩
  refine for_list (xs := ws.map vS) (fun i σ H' => ∃ rs hs hd x6, σ = [some (.ref aw), some (.int width), some (.ref g), some (.ref p), some (.ref hd), some (.int (((glueC [32] hs).length : Nat) : Int)), x6] ∧ FilAt W Pre k p H rs i H' ∧ H' hd = some (.lst (hs.map vS)) ∧ hd ≠ p ∧ ¬ W hd ∧ H hd = none ∧ (glueC [32] hs).length ≤ width ∧ Stand width L R rs hs (ws.drop i))
    ⟨[], [], hd0, none, rfl, A2, eh0, n0p, nW0, h00, by simp [glueC], .inl ⟨rfl, rfl, hR⟩⟩ ?_ ?_ ?_
  · rintro i σ H3 _ ⟨rs, hs, hd, x6, _, A3, _⟩
    exact SqL.of (A3.sw _ _ nw ew)
  · clear A1 A2 eh0 n0p nW0 h00 hhd0
    rintro i v σ H3 hv ⟨rs, hs', hd, x6, rfl, A3, eh, nhp, nWh, hh0, hgl, st⟩
    rw [List.getElem?_map] at hv
    cases hwi : ws[i]? with
    | none => rw [hwi] at hv; cases hv
    | some wd =>
    rw [hwi] at hv
    cases hv
    obtain ⟨hwn, hwd⟩ := hw wd (List.mem_of_getElem? hwi)
    obtain ⟨hi, hgi⟩ := List.getElem?_eq_some_iff.mp hwi
    rw [List.drop_eq_getElem_cons hi, hgi] at st
    dsimp only [gName, List.set_cons_succ, List.set_cons_zero]
    generalize hrest : ws.drop (i + 1) = rest at st ⊢
    have hile : i < 1000 := by omega
    refine s_if ((!(hs'.map vS).isEmpty) && decide ((((glueC [32] hs').length : Nat) : Int) + 1 + (wd.length : Nat) ≤ (width : Int)))
      (t_and _ _ (t_ne0 (ev_v rfl) (SqL.of eh)) fun _ H4 s4 => t_relG (p := fun i j => decide (i ≤ j)) (ev_op (ev_op (ev_v rfl) ev_c rfl) (ev_len (l := wd) (by omega) (ev_v rfl)) rfl) (ev_v rfl)) (fun H4 s4 c => ?_) (fun H4 s4 c => ?_)
    · rw [Bool.and_eq_true] at c
      have c1 : hs' ≠ [] := fun z => by rw [z] at c; simp at c
      have c2 := of_decide_eq_true c.2
      have A4 := (A3.same hP s4).next
      have eh4 := s4 _ _ eh
      rcases st with ⟨z, _⟩ | ⟨_, row, hg, hrn, hfit, T', hRT, T2, hT, hF⟩
      · exact absurd z c1
      have hgl2 := congrArg List.length hg
      rw [List.length_append] at hgl2
      have hLn := hL rs.length
      have hb : row.length + 1 + wd.length ≤ width - (L rs.length).length := by omega
      have hfe : fitC (width - (L rs.length).length) row (wd :: rest) = fitC (width - (L rs.length).length) (row ++ [32] ++ wd) rest := by
        show (if row.length + 1 + wd.length ≤ _ then _ else _) = _
        rw [if_pos hb]
      rw [hfe] at hT hF
      have hsn := glue_snoc [32] wd c1
      have hsl : (glueC [32] (hs' ++ [wd])).length = (glueC [32] hs').length + 1 + wd.length := by rw [hsn]; simp only [List.length_append, List.length_cons, List.length_nil]
      have hgs := glue_sum hs'
      refine ⟨_, rfl, .inl ⟨rfl, _, SqL.of eh4⟩, _, rfl, hd, _, _, rfl, rfl, eh4, by rw [List.length_map]; omega, ?_⟩
      have A5 : FilAt W Pre k p H rs (i + 1) (upd H4 hd (.lst (hs'.map vS ++ [vS wd]))) := A4.other hP hh0 nWh nhp
      refine ⟨_, rfl, _, rfl, _, rfl, bigS (by omega), _, _, rfl, rfl, _, _, rfl, rfl, ?_⟩
      refine ⟨rs, hs' ++ [wd], hd, some (vS wd), ?_, A5, by rw [upd_same, List.map_append]; rfl, nhp, nWh, hh0, by omega, .inr ⟨by simp, row ++ [32] ++ wd, by rw [hsn, hg]; simp, by simp, by simp only [List.length_append, List.length_cons, List.length_nil]; omega, T', hRT, T2, hT, hF⟩⟩
      rw [S_len, hsl]
      dsimp only [List.set_cons_succ, List.set_cons_zero]
      rw [show (((glueC [32] hs').length : Nat) : Int) + (1 + ((wd.length : Nat) : Int)) = (((glueC [32] hs').length + 1 + wd.length : Nat) : Int) by omega]
    · have A4 := A3.same hP s4
      have eh4 := s4 _ _ eh
      have nfit : hs' ≠ [] → ¬ (glueC [32] hs').length + 1 + wd.length ≤ width := fun z hh => by
        rw [Bool.and_eq_false_iff] at c
        rcases c with c | c
        · cases hs' with
          | nil => exact z rfl
          | cons _ _ => simp at c
        · have := of_decide_eq_false c
          omega
      dsimp only [tNext]
      refine s_join (fun σ' H' => ∃ rs' T, σ' = [some (.ref aw), some (.int width), some (.ref g), some (.ref p), some (.ref hd), some (.int (((glueC [32] hs').length : Nat) : Int)), some (vS wd)] ∧ FilAt W Pre k p H rs' i H' ∧ R = rs' ++ T ∧ Filled width L rs'.length (wd :: rest) T) (fun N hN => ?_) ?_
      · refine s_if (!(hs'.map vS).isEmpty) (t_ne0 (ev_v rfl) (SqL.of eh4)) (fun H5 s5 c5 => ?_) (fun H5 s5 c5 => ?_)
        · have c1 : hs' ≠ [] := fun z => by rw [z] at c5; simp at c5
          have A5 := A4.same hP s5
          have eh5 := s5 _ _ eh4
          rcases st with ⟨z, _⟩ | ⟨_, row, hg, hrn, hfit, T', hRT, T2, hT, hF⟩
          · exact absurd z c1
          have hgl2 := congrArg List.length hg
          rw [List.length_append] at hgl2
          have hLn := hL rs.length
          have hfe : fitC (width - (L rs.length).length) row (wd :: rest) = (row, wd :: rest) := by
            show (if row.length + 1 + wd.length ≤ _ then _ else _) = _
            rw [if_neg (by have := nfit c1; omega)]
          rw [hfe] at hT hF
          have hrsl : rs.length ≤ 1001000 := by rw [hRT, List.length_append] at hRl; omega
          refine ⟨_, rfl, .inl ⟨rfl, _, SqL.of A5.ep⟩, rfl, _, rfl, S [32], hd, hs'.map S, rfl, rfl, ?_, glue_fit (by omega), p, _, _, rfl, rfl, A5.ep, by rw [List.length_map]; omega, ?_⟩
          · rw [← map_S_V]; exact SqL.of eh5
          refine hN _ _ ⟨rs ++ [glueC [32] hs'], T2, rfl, A5.put hP hp nWp ?_ (by rw [List.length_append]; omega), ?_, ?_⟩
          · rw [List.map_append, joinT_S]; rfl
          · rw [hRT, hT, hg, List.append_assoc]; rfl
          · rw [List.length_append]; exact hF
        · have c1 : hs' = [] := by
            cases hs' with
            | nil => rfl
            | cons _ _ => simp at c5
          rcases st with ⟨_, hrs, hF⟩ | ⟨z, _⟩
          · exact hN _ _ ⟨rs, R, rfl, A4.same hP s5, by rw [hrs]; rfl, by rw [hrs]; exact hF⟩
          · exact absurd c1 z
      clear st nfit c A4 A3 eh4 s4 eh
      rintro σ5 H5 ⟨rs', T', rfl, A5, hRT, hF⟩
      have hrsl : rs'.length ≤ 1001000 := by rw [hRT, List.length_append] at hRl; omega
      refine ⟨_, rfl, _, rfl, _, rfl, _, rfl, wd, width, k, i, p, H, rs', rfl, A5, hp, nWp, hwn, hwd, w1, hL, hrsl, hile, fun as w' H6 hcut A6 => ⟨big (show (1 : Nat) ≤ 1000000 by decide), fun h2 hh2 => ?_⟩⟩
      have A7 := A6.same hP (same_new hh2 (.lst [vS (L (rs'.length + as.length) ++ w')]))
      have nW2 : ¬ W h2 := fun z => by obtain ⟨j, a, _⟩ := A6.pre; exact hP.there _ _ _ a z hh2
      have n2p : h2 ≠ p := fun z => by rw [z, A6.ep] at hh2; cases hh2
      have h20 : H h2 = none := A6.sw.free nW2 hh2
      have eh2 : upd H6 h2 (.lst [vS (L (rs'.length + as.length) ++ w')]) h2 = some (.lst [vS (L (rs'.length + as.length) ++ w')]) := upd_same
      dsimp only [gName, List.set_cons_succ, List.set_cons_zero]
      generalize upd H6 h2 (.lst [vS (L (rs'.length + as.length) ++ w')]) = H7 at A7 eh2 ⊢
      have hLn := hL (rs'.length + as.length)
      obtain ⟨T2, hTe, hw'n, hw'l, hF2⟩ := hcut.filled hwn hF
      have hll : (L (rs'.length + as.length) ++ w').length ≤ width := by rw [List.length_append]; omega
      refine ⟨_, rfl, h2, _, 0, _, rfl, rfl, SqL.of eh2, atI_nat (j := 0) rfl, _, rfl, bigS (by omega), ?_⟩
      rw [S_len]
      refine ⟨rs' ++ as, [L (rs'.length + as.length) ++ w'], h2, _, rfl, A7, eh2, n2p, nW2, h20, hll, .inr ⟨by simp, w', by rw [List.length_append]; rfl, hw'n, by rw [List.length_append]; exact hw'l, T2, by rw [hRT, hTe, List.append_assoc], ?_⟩⟩
      rw [List.length_append]
      cases hF2 with
      | cut _ _ _ T3 h1 _ => omega
      | row _ _ _ T3 _ h2 => exact ⟨T3, rfl, h2⟩
  · clear A1 A2 eh0 n0p nW0 h00 hhd0
    rintro σ H3 ⟨rs, hs', hd, x6, rfl, A3, eh, nhp, nWh, hh0, hgl, st⟩
    rw [List.length_map, List.drop_length] at st
    dsimp only
    refine s_join (fun σ' H' => σ' = [some (.ref aw), some (.int width), some (.ref g), some (.ref p), some (.ref hd), some (.int (((glueC [32] hs').length : Nat) : Int)), x6] ∧ ∃ i, FilAt W Pre k p H R i H') (fun N hN => ?_) ?_
    · refine s_if (!(hs'.map vS).isEmpty) (t_ne0 (ev_v rfl) (SqL.of eh)) (fun H4 s4 c => ?_) (fun H4 s4 c => ?_)
      · have c1 : hs' ≠ [] := fun z => by rw [z] at c; simp at c
        have A4 := A3.same hP s4
        have eh4 := s4 _ _ eh
        rcases st with ⟨z, _⟩ | ⟨_, row, hg, hrn, hfit, T', hRT, T2, hT, hF⟩
        · exact absurd z c1
        cases hF
        have hrsl : rs.length ≤ 1001000 := by rw [hRT, List.length_append] at hRl; omega
        refine ⟨_, rfl, .inl ⟨rfl, _, SqL.of A4.ep⟩, rfl, _, rfl, S [32], hd, hs'.map S, rfl, rfl, ?_, glue_fit (by omega), p, _, _, rfl, rfl, A4.ep, by rw [List.length_map]; omega, ?_⟩
        · rw [← map_S_V]; exact SqL.of eh4
        refine hN _ _ ⟨rfl, _, A4.put hP hp nWp ?_ (by rw [hRT, List.length_append]; omega)⟩
        rw [hRT, hT, List.map_append, joinT_S, hg]
        rfl
      · have c1 : hs' = [] := by
          cases hs' with
          | nil => rfl
          | cons _ _ => simp at c
        rcases st with ⟨_, hrs, hF⟩ | ⟨z, _⟩
        · cases hF
          subst hrs
          exact hN _ _ ⟨rfl, _, A3.same hP s4⟩
        · exact absurd c1 z
    rintro σ3 H4 ⟨rfl, i, A4⟩
    obtain ⟨j, pj, _⟩ := A4.pre
    exact ⟨_, rfl, q p R H4 hp A4.sw (lead_less hP pj) A4.ep hR⟩
end
end K8

set_option Elab.async false
set_option linter.all false
set_option maxRecDepth 100000
set_option maxHeartbeats 4000000
namespace K8
open PySem L2 Lm Lw
structure FnIn (K : PySem.W.Frag) (x : Str) (st : Stmt) (p : Value → Prop) : Prop where
  ex : ∃ (f : Addr) (oc : Value) (od : Option Addr) (kV dc pm : Value) (an : Option Addr) (cd ct : Value) (sl : Array (Option Value)), PySem.W.nsIn K mainGlobals x = some (some (.ref f)) ∧
    K.lookup f = some ⟨oc, od, .func (PySem.W.fnOf x x (defArgs st) (defBody st) (defScope st) .none kV dc pm an cd ct), sl⟩ ∧ PySem.W.codeIn K cd x = true ∧ PySem.W.keepIn K (.ref f) = true ∧ p cd
theorem fnIn_mk {K : PySem.W.Frag} {x : Str} {st : Stmt} {p : Value → Prop} {f : Addr} {oc : Value} {od : Option Addr} {kV dc pm : Value} {an : Option Addr} {cd ct : Value} {sl : Array (Option Value)} (a : PySem.W.nsIn K mainGlobals x = some (some (.ref f)))
    (l : K.lookup f = some ⟨oc, od, .func (PySem.W.fnOf x x (defArgs st) (defBody st) (defScope st) .none kV dc pm an cd ct), sl⟩) (c : PySem.W.codeIn K cd x = true) (k : PySem.W.keepIn K (.ref f) = true) (q : p cd) : FnIn K x st p :=
  ⟨f, oc, od, kV, dc, pm, an, cd, ct, sl, a, l, c, k, q⟩
theorem FnIn.drop {K : PySem.W.Frag} {Ps : List Addr} {x : Str} {st : Stmt} {p : Value → Prop} (h : Tabs0 K Ps) (F : FnIn K x st p) : FnIn (dropK K Ps) x st p := by
  obtain ⟨f, oc, od, kV, dc, pm, an, cd, ct, sl, a, l, c, kp, q⟩ := F.ex
  have l' : (dropK K Ps).lookup f = some ⟨oc, od, .func (PySem.W.fnOf x x (defArgs st) (defBody st) (defScope st) .none kV dc pm an cd ct), sl⟩ := dropK_other h l (fun z => by injection z with _ _ z _; cases z)
  refine ⟨f, oc, od, kV, dc, pm, an, cd, ct, sl, by rw [nsIn_drop h]; exact a, l', by rw [codeIn_drop h]; exact c, ?_, q⟩
  show (match (dropK K Ps).lookup f with | some ⟨_, _, .func _, _⟩ => true | some ⟨_, _, .cls _, _⟩ => PySem.W.specialIn (dropK K Ps) (.ref f) "__call__" == some (some (.builtin "type.__call__")) | _ => false) = true
  rw [l']
section
variable {P : Program} {w : World} {K : PySem.W.Frag} {h : Heap} {mg : Str → Option Value} {base : Heap} {x : Str} {st : Stmt} {ps : List Str} {k : Nat} {sp : Sp}
theorem def_of {p : Value → Prop} (X : K.In h) (G : h.Ns mainGlobals mg) (F : FnIn K x st p)
    (hb : ∀ (kV doc pm : Value) (an : Option Addr) (cdv ct : Value) (us : List Value), us.length = ps.length → bindArgs (PySem.W.fnOf x x (defArgs st) (defBody st) (defScope st) .none kV doc pm an cdv ct) ⟨us, []⟩ = pure (ps.zip us))
    (ok : ∀ f fd, Fun K x x st f fd → p fd.code → FnOk P w K mg base CX0 k f fd ps sp) : Def P w K mg base k x ps sp := by
  obtain ⟨f, oc, od, kV, dc, pm, an, cd, ct, sl, a, l, c, kp, q⟩ := F.ex
  have F1 := fun_mk (st := st) l c kp
  exact ⟨f, _, ok f _ F1 q, PySem.W.mg_of X G a, F1.kp, F1.binds hb⟩
theorem mg_fn {p : Value → Prop} (X : K.In h) (G : h.Ns mainGlobals mg) (F : FnIn K x st p) : ∃ f, mg x = some (.ref f) ∧ PySem.W.keepIn K (.ref f) = true := by
  obtain ⟨f, oc, od, kV, dc, pm, an, cd, ct, sl, a, l, c, kp, q⟩ := F.ex
  exact ⟨f, PySem.W.mg_of X G a, kp⟩
end
structure Top (K : PySem.W.Frag) (c : Addr) : Prop where
  f_filled : FnIn K "filled" sFilled (fun _ => True)
  f_last_piece : FnIn K "last_piece" sLast (fun _ => True)
  f_room_behind : FnIn K "room_behind" sRoom (fun _ => True)
  f__law_draw : FnIn K "_law_draw" sDraw (fun _ => True)
  f__law_whole : FnIn K "_law_whole" sWhole (fun _ => True)
  f__law_word : FnIn K "_law_word" sWord (fun _ => True)
  f__law_words : FnIn K "_law_words" sWords (fun _ => True)
  f__law_lead : FnIn K "_law_lead" sLead (fun _ => True)
  f__law_rows_right : FnIn K "_law_rows_right" sRight (fun _ => True)
  f__law_told : FnIn K "_law_told" sTold (fun cd => cd = .ref c)
  f__law_drawn : FnIn K "_law_drawn" sDrawn (fun _ => True)
  f_law : FnIn K "law" sLaw (fun _ => True)
  n_len : PySem.W.nsIn K mainGlobals "len" = some none
  n_range : PySem.W.nsIn K mainGlobals "range" = some none
  n_isinstance : PySem.W.nsIn K mainGlobals "isinstance" = some none
  n_bool : PySem.W.nsIn K mainGlobals "bool" = some none
  n_int : PySem.W.nsIn K mainGlobals "int" = some none
  n_list : PySem.W.nsIn K mainGlobals "list" = some none
  n_max : PySem.W.nsIn K mainGlobals "max" = some none
  n_min : PySem.W.nsIn K mainGlobals "min" = some none
  n_enumerate : PySem.W.nsIn K mainGlobals "enumerate" = some none
  n_str : PySem.W.nsIn K mainGlobals "str" = some none
theorem Top.drop {K : PySem.W.Frag} {Ps : List Addr} {c : Addr} (h : Tabs0 K Ps) (t : Top K c) : Top (dropK K Ps) c where
  f_filled := t.f_filled.drop h
  f_last_piece := t.f_last_piece.drop h
  f_room_behind := t.f_room_behind.drop h
  f__law_draw := t.f__law_draw.drop h
  f__law_whole := t.f__law_whole.drop h
  f__law_word := t.f__law_word.drop h
  f__law_words := t.f__law_words.drop h
  f__law_lead := t.f__law_lead.drop h
  f__law_rows_right := t.f__law_rows_right.drop h
  f__law_told := t.f__law_told.drop h
  f__law_drawn := t.f__law_drawn.drop h
  f_law := t.f_law.drop h
  n_len := by rw [nsIn_drop h]; exact t.n_len
  n_range := by rw [nsIn_drop h]; exact t.n_range
  n_isinstance := by rw [nsIn_drop h]; exact t.n_isinstance
  n_bool := by rw [nsIn_drop h]; exact t.n_bool
  n_int := by rw [nsIn_drop h]; exact t.n_int
  n_list := by rw [nsIn_drop h]; exact t.n_list
  n_max := by rw [nsIn_drop h]; exact t.n_max
  n_min := by rw [nsIn_drop h]; exact t.n_min
  n_enumerate := by rw [nsIn_drop h]; exact t.n_enumerate
  n_str := by rw [nsIn_drop h]; exact t.n_str
theorem all_law {P : Program} {w : World} {K : PySem.W.Frag} {h : Heap} {mg : Str → Option Value} {fa c Pt : Addr} (X : K.In h) (G : h.Ns mainGlobals mg) (hfa : mg "law" = some (.ref fa)) (t : Top K c) :
    ∃ fd : FuncData, (∀ (s : Shared) (v : Value), BindsTo s fd ⟨[v], []⟩ [("_law_script", v)]) ∧ ∀ base : Heap, K.In base → base.Ns mainGlobals mg → (∀ q ∈ [(c, Pt)], PySem.W.CodeHd base q.1 q.2 ∧ base.BuiltinsAt mg q.2) → FnOk P w K mg base CX0 6 fa fd ["_law_script"] (spLaw8 K Pt) := by
  have T : Tx8 mg := {
    n_len := PySem.W.mg_none_of X G t.n_len
    n_range := PySem.W.mg_none_of X G t.n_range
    n_isinstance := PySem.W.mg_none_of X G t.n_isinstance
    n_bool := PySem.W.mg_none_of X G t.n_bool
    n_int := PySem.W.mg_none_of X G t.n_int
    n_list := PySem.W.mg_none_of X G t.n_list
    n_max := PySem.W.mg_none_of X G t.n_max
    n_min := PySem.W.mg_none_of X G t.n_min
    n_enumerate := PySem.W.mg_none_of X G t.n_enumerate
    n_str := PySem.W.mg_none_of X G t.n_str
  }
  obtain ⟨f, oc, od, kV, dc, pm, an, cd, ct, sl, a, l, cc, kp, _⟩ := t.f_law.ex
  have e := hfa.symm.trans (PySem.W.mg_of X G a)
  cases e
  refine ⟨PySem.W.fnOf "law" "law" (defArgs sLaw) (defBody sLaw) (defScope sLaw) .none kV dc pm an cd ct, fun s v => .of_eq rfl, fun base _ _ hT => ?_⟩
  have D_l_draw : Def P w K mg base 1 "_law_draw" ["_law_script", "_law_tape", "_law_many"] (spDraw K) := def_of X G t.f__law_draw (fun _ _ _ _ _ _ us hl => match us, hl with | [_, _, _], _ => rfl) fun f fd F _ => ok_draw F T
  have D_l_whole : Def P w K mg base 1 "_law_whole" ["_law_found"] spWhole := def_of X G t.f__law_whole (fun _ _ _ _ _ _ us hl => match us, hl with | [_], _ => rfl) fun f fd F _ => ok_whole F T
  have D_l_word : Def P w K mg base 2 "_law_word" ["_law_script", "_law_tape", "_law_size"] (spWord K) := def_of X G t.f__law_word (fun _ _ _ _ _ _ us hl => match us, hl with | [_, _, _], _ => rfl) fun f fd F _ => ok_word F T D_l_draw
  have D_l_words : Def P w K mg base 3 "_law_words" ["_law_script", "_law_tape", "_law_width", "_law_many"] (spWords8 K) := def_of X G t.f__law_words (fun _ _ _ _ _ _ us hl => match us, hl with | [_, _, _, _], _ => rfl) fun f fd F _ => ok_words F T D_l_draw D_l_word
  have D_l_lead : ∀ base : Heap, Def P w K mg base 1 "_law_lead" ["_law_kind", "_law_wide", "_law_number"] spLead := fun base => def_of X G t.f__law_lead (fun _ _ _ _ _ _ us hl => match us, hl with | [_, _, _], _ => rfl) fun f fd F _ => ok_lead F T
  have D_l_rows_right : Def P w K mg base 2 "_law_rows_right" ["_law_words_here", "_law_width", "_law_kind", "_law_wide", "_law_rows"] spRight := def_of X G t.f__law_rows_right (fun _ _ _ _ _ _ us hl => match us, hl with | [_, _, _, _, _], _ => rfl) fun f fd F _ => ok_right F T (D_l_lead base)
  have D_l_told : Def P w K mg base 5 "_law_told" ["_law_words_here", "_law_width", "_law_kind", "_law_wide", "_law_numbers"] (spTold Pt) := def_of X G t.f__law_told (fun _ _ _ _ _ _ us hl => match us, hl with | [_, _, _, _, _], _ => rfl) fun f fd F hc => ok_told F hc (hT _ (List.mem_singleton.mpr rfl)) (fun base' _ _ => D_l_lead base') (mg_fn X G t.f_filled)
    fun base' g W Pre L x _ _ hP hV => def_of X G t.f_filled (fun _ _ _ _ _ _ us hl => match us, hl with | [_, _, _], _ => rfl) fun f fd F _ => ok_filled F T hP (def_of X G t.f_last_piece (fun _ _ _ _ _ _ us hl => match us, hl with | [_, _, _, _], _ => rfl) fun f fd F _ => ok_last F T hP hV (def_of X G t.f_room_behind (fun _ _ _ _ _ _ us hl => match us, hl with | [_, _], _ => rfl) fun f fd F _ => ok_room F T))
  have D_l_drawn : Def P w K mg base 4 "_law_drawn" ["_law_script", "_law_tape", "_law_most"] (spDrawn K) := def_of X G t.f__law_drawn (fun _ _ _ _ _ _ us hl => match us, hl with | [_, _, _], _ => rfl) fun f fd F _ => ok_drawn F T D_l_draw D_l_words
  exact ok_law (fun_mk (st := sLaw) l cc kp) T D_l_drawn D_l_told D_l_rows_right D_l_whole
end K8

set_option Elab.async false
set_option linter.all false

open PySem PySem.W PySem.W.X PySem.W.ZRun PyProof.Rows
theorem L2.true_law {c : PySem.W.ClaimW} {cl : PySem.Str → Option PySem.Addr} {mean : PySem.ExcName → Option PySem.Value} {args : List PySem.W.WData} {s₁ s' : PySem.Shared} (hr : ∀ cls : PySem.ExcName, c.raises args cls = false) (hp : c.post args (.bool true) args = true)
    (h : OldK s₁.heap s'.heap ∧ s'.os = s₁.os ∧ PyProof.Rows.AllBare s'.gens) : PySem.W.GoodWG c cl mean args s₁ (Except.ok (PySem.Flow.ret (.bool true))) s' :=
  ⟨.inl ⟨_, .bool true, [], rfl, hr, .bool _, hp, fun _ => ⟨.nil, fun _ z => nomatch z⟩⟩, h⟩
set_option maxRecDepth 100000 in
set_option maxHeartbeats 0 in
theorem PySem.Challenge.cw_lightmark_k08_whole_filled_holds : PySem.Challenge.rw_lightmark_k08_whole_filled.Holds := by
  w_on; o_law; z_head; (case hw => w_witness2)
  k_fill
  intro w s₀ s₁ mg mb G y fa o pm cd doc dV kV ho hd hcd hD hmg hg args vals as L hpre hlay hrd hwl hlo
  z_open y L KX ZH ZN ZT
  refine Ground.open G ?_
  intro T B D TE TW
  wrow_args hpre hlay hrd hwl hlo
  rename_i ns _ _ _ _ _ _ _ a vs _ hL _ _ _ hI _ hlen _
  have htk := script_toks L ZT
  have hobj := script_obj L hL
  kn_lay T hmg ho hd cd
  obtain ⟨c, Pt, hTT, t⟩ : ∃ c Pt, PySem.W.TabsAt [(c, Pt)] s₁.heap ∧ K8.Top (L2.KOf KX) c := by
    refine ⟨_, _, hT9, ?_⟩
    dsimp only [L2.KOf]
    constructor
    case f_filled => (refine' K8.fnIn_mk ?xa ?xl ?xc ?xk ?xp; (case xa => k_is); (case xl => k_is); (case xc => k_is); (case xk => k_is); (case xp => exact trivial))
    case f_last_piece => (refine' K8.fnIn_mk ?xa ?xl ?xc ?xk ?xp; (case xa => k_is); (case xl => k_is); (case xc => k_is); (case xk => k_is); (case xp => exact trivial))
    case f_room_behind => (refine' K8.fnIn_mk ?xa ?xl ?xc ?xk ?xp; (case xa => k_is); (case xl => k_is); (case xc => k_is); (case xk => k_is); (case xp => exact trivial))
    case f__law_draw => (refine' K8.fnIn_mk ?xa ?xl ?xc ?xk ?xp; (case xa => k_is); (case xl => k_is); (case xc => k_is); (case xk => k_is); (case xp => exact trivial))
    case f__law_whole => (refine' K8.fnIn_mk ?xa ?xl ?xc ?xk ?xp; (case xa => k_is); (case xl => k_is); (case xc => k_is); (case xk => k_is); (case xp => exact trivial))
    case f__law_word => (refine' K8.fnIn_mk ?xa ?xl ?xc ?xk ?xp; (case xa => k_is); (case xl => k_is); (case xc => k_is); (case xk => k_is); (case xp => exact trivial))
    case f__law_words => (refine' K8.fnIn_mk ?xa ?xl ?xc ?xk ?xp; (case xa => k_is); (case xl => k_is); (case xc => k_is); (case xk => k_is); (case xp => exact trivial))
    case f__law_lead => (refine' K8.fnIn_mk ?xa ?xl ?xc ?xk ?xp; (case xa => k_is); (case xl => k_is); (case xc => k_is); (case xk => k_is); (case xp => exact trivial))
    case f__law_rows_right => (refine' K8.fnIn_mk ?xa ?xl ?xc ?xk ?xp; (case xa => k_is); (case xl => k_is); (case xc => k_is); (case xk => k_is); (case xp => exact trivial))
    case f__law_told => (refine' K8.fnIn_mk ?xa ?xl ?xc ?xk ?xp; (case xa => k_is); (case xl => k_is); (case xc => k_is); (case xk => k_is); (case xp => exact rfl))
    case f__law_drawn => (refine' K8.fnIn_mk ?xa ?xl ?xc ?xk ?xp; (case xa => k_is); (case xl => k_is); (case xc => k_is); (case xk => k_is); (case xp => exact trivial))
    case f_law => (refine' K8.fnIn_mk ?xa ?xl ?xc ?xk ?xp; (case xa => k_is); (case xl => k_is); (case xc => k_is); (case xk => k_is); (case xp => exact trivial))
    case n_len => k_is
    case n_range => k_is
    case n_isinstance => k_is
    case n_bool => k_is
    case n_int => k_is
    case n_list => k_is
    case n_max => k_is
    case n_min => k_is
    case n_enumerate => k_is
    case n_str => k_is
  have hbi : ∃ bm o, mg "__builtins__" = some (.ref bm) ∧ bm ≠ builtinsNs ∧ bm ≠ mainGlobals ∧ s₁.heap.get? bm = some o ∧ o.cls = .type "module" ∧ o.dict = some builtinsNs ∧ o.data = .plain := by
    obtain ⟨bm, ob, b1, b2, b3, b4, b5, b6⟩ := T.bmain
    refine ⟨bm, ob, b1, b2, fun q => ?_, b3, b4, b5, b6⟩
    obtain ⟨o, es, ep, e, hd, _⟩ := T.g
    rw [q, e] at b3; cases b3; rw [hd] at b6; cases b6
  obtain ⟨fd, hb, hF⟩ := K8.all_law (P := PySem.Challenge.rw_lightmark_k08_whole_filled.row.prog) (w := w) (Pt := Pt) (L2.dropK_in KX) T.g hmg (t.drop (L2.tabs0_of KX hTT))
  refine wpAny_call (codeAny_mono (L2.law_callT (L2.dropK_in KX) T.g T.b T.builtins T.nolimit hg (Nat.lt_of_lt_of_le (by decide) htk) hobj hI (Lw.big (by omega)) ⟨rfl, by decide, by decide⟩ hTT L2.dropK_not hbi hF hb (fun H hO hS hB => ⟨a, ns, rfl, hS, by omega, hB _ (List.mem_singleton.mpr rfl), fun _ => rfl⟩) fun H e s' z => z) fun r s' q => ?_)
  obtain ⟨rfl, q⟩ := q
  exact L2.true_law (fun _ => rfl) (by with_unfolding_all rfl) q
#print axioms PySem.Challenge.cw_lightmark_k08_whole_filled_holds

