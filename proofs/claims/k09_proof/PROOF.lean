import PyProof.Rows.All
import Wide.All
import OpenK.AllK
import Wide.FinOn
import Lean
import PyProof.EqAt
import PyProof.EqKinds
import PyProof.TupleCall
import PyProof.StrLawsTight
import PyProof.StrBlockI
import PyProof.StrBlock2
import PyProof.StrCalls6
import PyProof.Rows.StrCase
import PyProof.Rows.StrFirst
import PySem.Challenge.RW_lightmark_k09_shares
import KE.KTryMore
import PyProof.NsDelKeeps
import KE.KNest
-- CHANGE: your row's module here, as the last of these rows
set_option Elab.async false
set_option linter.all false
set_option maxRecDepth 100000
/-! THE HAND LAYER, for ints, bools, texts, own classes, LISTS and tuples (index, slices, in, append, pop ..), calls, loops. Paste it whole ahead of your own text; what your proof does not reach may be deleted. -/
namespace L2
open PySem PySem.Spec PyProof.Rows

/-- a key: an int or a str -/
abbrev Key := Sum Int Str
def keyIs : Key → Value → Bool
  | .inl k, v => Value.isInt k v
  | .inr x, v => Value.isStrOf x v
def keyH (w : World) : Key → Int
  | .inl k => hashInt k
  | .inr x => hashStr w x
theorem keyIs_shape : ∀ {k : Key} {v : Value}, keyIs k v = true → (∃ i t, k = Sum.inl i ∧ v = Value.int i t) ∨ (∃ x t, k = Sum.inr x ∧ v = Value.str x t)
  | .inl i, v, h => by
    obtain ⟨t, e⟩ := Value.isInt_shape (k := i) (v := v) h
    exact .inl ⟨i, t, rfl, e⟩
  | .inr x, v, h => by
    obtain ⟨t, e⟩ := Value.isStrOf_shape (x := x) (v := v) h
    exact .inr ⟨x, t, rfl, e⟩
theorem keyIs_int (i : Int) (t : Tok) : keyIs (.inl i) (.int i t) = true := by simp [keyIs, Value.isInt]
theorem keyIs_str (x : Str) (t : Tok) : keyIs (.inr x) (.str x t) = true := by simp [keyIs, Value.isStrOf]
theorem key_ll (a b : Int) : decide ((Sum.inl a : Key) = Sum.inl b) = (a == b) := by
  by_cases e : a = b
  · subst e; simp
  · have h : ¬ (Sum.inl a : Key) = Sum.inl b := fun q => e (Sum.inl.inj q)
    rw [decide_eq_false h]
    exact (beq_eq_false_iff_ne.mpr e).symm
theorem key_rr (a b : Str) : decide ((Sum.inr a : Key) = Sum.inr b) = decide (a = b) := by
  by_cases e : a = b
  · subst e; simp
  · have h : ¬ (Sum.inr a : Key) = Sum.inr b := fun q => e (Sum.inr.inj q)
    rw [decide_eq_false h, decide_eq_false e]
theorem key_lr (a : Int) (b : Str) : decide ((Sum.inl a : Key) = Sum.inr b) = false := decide_eq_false (fun q => nomatch q)
theorem key_rl (a : Str) (b : Int) : decide ((Sum.inr a : Key) = Sum.inl b) = false := decide_eq_false (fun q => nomatch q)

def mixKind (prog : Program) (w : World) : PySem.KeyKind prog w Key where
  is := keyIs
  hash := keyH w
  inj := fun v a b ha hb => by
    rcases keyIs_shape ha with ⟨i, t, rfl, rfl⟩ | ⟨x, t, rfl, rfl⟩
    · rcases keyIs_shape hb with ⟨j, u, rfl, e⟩ | ⟨y, u, rfl, e⟩
      · injection e with e1 _; rw [e1]
      · exact nomatch e
    · rcases keyIs_shape hb with ⟨j, u, rfl, e⟩ | ⟨y, u, rfl, e⟩
      · exact nomatch e
      · injection e with e1 _; rw [e1]
  byValue := fun k v h => by
    rcases keyIs_shape h with ⟨i, t, rfl, rfl⟩ | ⟨x, t, rfl, rfl⟩ <;> rfl
  pyHash := fun hv h => by
    rcases keyIs_shape hv with ⟨i, t, rfl, rfl⟩ | ⟨x, t, rfl, rfl⟩
    · exact wpAny_pyHash_int h
    · exact wpAny_pyHash_str h
  eqBool := fun hu hv h => by
    rcases keyIs_shape hu with ⟨i, t, rfl, rfl⟩ | ⟨x, t, rfl, rfl⟩
    · rcases keyIs_shape hv with ⟨j, u, rfl, rfl⟩ | ⟨y, u, rfl, rfl⟩
      · rw [key_ll] at h; exact wpAny_eqBool_int h
      · rw [key_lr] at h; exact SeqAt.EqAt.int_str i t y u _ _ _ _ h
    · rcases keyIs_shape hv with ⟨j, u, rfl, rfl⟩ | ⟨y, u, rfl, rfl⟩
      · rw [key_rl] at h; exact SeqAt.EqAt.str_int x t j u _ _ _ _ h
      · rw [key_rr] at h; exact wpAny_eqBool_str h
  «strs» := fun k x t v h => by
    rcases keyIs_shape h with ⟨i, u, rfl, e⟩ | ⟨y, u, rfl, e⟩
    · exact nomatch e
    · injection e with e1 _
      subst e1
      cases v <;> rfl

theorem mixKind_is (prog : Program) (w : World) (k : Key) (v : Value) : (mixKind prog w).is k v = keyIs k v := rfl
theorem mixKind_int (prog : Program) (w : World) (i : Int) (t : Tok) : (mixKind prog w).is (.inl i) (.int i t) = true := keyIs_int i t
theorem mixKind_str (prog : Program) (w : World) (x : Str) (t : Tok) : (mixKind prog w).is (.inr x) (.str x t) = true := keyIs_str x t
end L2

namespace L2
open PySem PySem.Spec PyProof.Rows

/-- a value, without the heap -/
inductive V where
  | non | bl (b : Bool) | int (i : Int) | str (x : Str) | byt (b : Array UInt8) | flt (b : UInt64) | ref (a : Addr) | ty (n : String)
  deriving DecidableEq

def RelV : V → Value → Prop
  | .non, u => u = Value.none
  | .bl b, u => u = Value.bool b
  | .int i, u => ∃ t, u = Value.int i t
  | .str x, u => ∃ t, u = Value.str x t
  | .byt b, u => ∃ t, u = Value.bytes b t
  | .flt b, u => ∃ t, u = Value.float b t
  | .ref a, u => u = Value.ref a
  | .ty n, u => u = Value.type n

abbrev Vals : List V → List Value → Prop := Paired RelV
theorem Vals.length {xs : List V} {us : List Value} (r : Vals xs us) : xs.length = us.length := Paired.length r
theorem Vals.get : ∀ {xs : List V} {us : List Value} {i : Nat} {x : V}, Vals xs us → xs[i]? = some x → ∃ u, us[i]? = some u ∧ RelV x u
  | _, _, _, _, .nil, e => by simp at e
  | _, _, 0, _, .cons r _, e => by simp at e; subst e; exact ⟨_, rfl, r⟩
  | _, _, i + 1, x, .cons _ t, e => by
    obtain ⟨u, h1, h2⟩ := Vals.get (i := i) (x := x) t (by simpa using e)
    exact ⟨u, by simpa using h1, h2⟩
theorem Vals.set {x : V} {u : Value} (r : RelV x u) : ∀ {xs : List V} {us : List Value} (i : Nat), Vals xs us → Vals (xs.set i x) (us.set i u)
  | _, _, _, .nil => .nil
  | _, _, 0, .cons _ t => .cons r t
  | _, _, i + 1, .cons q t => .cons q (Vals.set r i t)
theorem Vals.append : ∀ {xs ys : List V} {us ws : List Value}, Vals xs us → Vals ys ws → Vals (xs ++ ys) (us ++ ws)
  | _, _, _, _, .nil, s => s
  | _, _, _, _, .cons r t, s => .cons r (Vals.append t s)
theorem Vals.take : ∀ {xs : List V} {us : List Value} (n : Nat), Vals xs us → Vals (xs.take n) (us.take n)
  | _, _, 0, _ => .nil
  | _, _, _ + 1, .nil => .nil
  | _, _, n + 1, .cons r t => .cons r (Vals.take n t)
theorem Vals.drop : ∀ {xs : List V} {us : List Value} (n : Nat), Vals xs us → Vals (xs.drop n) (us.drop n)
  | _, _, 0, r => r
  | _, _, _ + 1, .nil => .nil
  | _, _, n + 1, .cons _ t => Vals.drop n t
theorem Vals.none_of : ∀ {xs : List V} {us : List Value} {i : Nat}, Vals xs us → xs[i]? = none → us[i]? = none := fun {xs us i} r e => by
  have h1 := r.length
  have h2 : xs.length ≤ i := List.getElem?_eq_none_iff.mp e
  exact List.getElem?_eq_none_iff.mpr (by omega)

def RelO : Option V → Option Value → Prop
  | some v, some u => RelV v u
  | none, none => True
  | _, _ => False
def KV {κ : Type} : List (κ × V) → List (κ × Value) → Prop := Paired fun (p : κ × V) (q : κ × Value) => p.1 = q.1 ∧ RelV p.2 q.2

/-- a key of a dict (00_mix): an int or a text -/
def kV : Key → V
  | .inl i => .int i
  | .inr x => .str x

/-- what stands at a tracked address -/
inductive HO where
  /-- a list -/
  | lst (xs : List V)
  /-- a tuple (never changes) -/
  | tup (xs : List V)
  /-- a dict whose keys are ints and texts; one whose keys are tuples of ints and texts (the empty one is both) -/
  | dK (kvs : List (Key × V)) | dT (kvs : List (List Key × V))
  /-- a set of ints: its members, its size -/
  | set (S : Int → Bool) (n : Nat)
  /-- an instance of the class at C, its dict at dx, its attributes -/
  | ins (C dx : Addr) (fs : List (Str × V))
  /-- the dict of the instance at x -/
  | own (x : Addr)
  /-- the dict of an exception -/
  | xd (fs : List (Str × V))
  /-- a bound method, f of x -/
  | met (f x : Addr)
  /-- a range object lo, lo + 1, .. below hi -/
  | rng (lo hi : Int)
  /-- a thing that is known to the object (the script; a dict while a loop walks it): read, never written while it is so -/
  | frz (o : Obj) (u : HO)
  /-- a code object's table -/
  | tbl (ps : Array Value)
  /-- any other thing, by what is true of its one object (a def of one's own: SetO a S n := HO.ext fun h => ..) -/
  | ext (φ : Heap → Prop)

abbrev Hp := Addr → Option HO
def upd (H : Hp) (a : Addr) (o : HO) : Hp := fun b => if b = a then some o else H b
theorem upd_same {H : Hp} {a : Addr} {o : HO} : upd H a o a = some o := by unfold upd; rw [if_pos rfl]
theorem upd_ne {H : Hp} {a b : Addr} {o : HO} (h : b ≠ a) : upd H a o b = H b := by unfold upd; rw [if_neg h]
theorem upd_upd {H : Hp} {a : Addr} {o u : HO} : upd (upd H a o) a u = upd H a u := by
  funext b; unfold upd; split <;> rfl
/-- two objects of different content stand apart -/
theorem ne_of {H : Hp} {a b : Addr} {o u : HO} (h : H a = some o) (h' : H b = some u) (d : o ≠ u) : a ≠ b := by
  intro e; subst e; rw [h] at h'; exact d (Option.some.inj h')
theorem ne_of_none {H : Hp} {a b : Addr} {o : HO} (h : H a = some o) (h' : H b = none) : a ≠ b := by
  intro e; subst e; rw [h] at h'; cases h'

section
variable (P : Program) (w : World)
def ObjOk (H : Hp) (h : Heap) (a : Addr) : HO → Prop
  | .lst xs => xs.length ≤ sizeLine ∧ ∃ (its : List Value) (n : Nat), Vals xs its ∧ h.get? a = some { cls := .type "list", data := .seq its.toArray n }
  | .tup xs => xs.length ≤ sizeLine ∧ ∃ its : List Value, Vals xs its ∧ IsTup h a its.toArray
  | .dK kvs => kvs.length ≤ sizeLine ∧ (a == sysModules) = false ∧ ∃ vs, KV kvs vs ∧ h.DictOf (mixKind P w) a vs
  | .dT kvs => kvs.length ≤ sizeLine ∧ (a == sysModules) = false ∧ ∃ xs : List (List Key × Addr × Value),
      Paired (fun (p : List Key × V) (q : List Key × Addr × Value) => p.1 = q.1 ∧ H q.2.1 = some (.tup (p.1.map kV)) ∧ RelV p.2 q.2.2) kvs xs ∧
      ∃ o es ep, h.get? a = some o ∧ o.ExactDict ∧ o.data = .dict es ep ∧ es.toList = xs.map (entryOfKey (tupleKind (mixKind P w))) ∧ (xs.map (·.1)).Nodup
  | .set S n => h.SetOf (intKind P w) a S n
  | .ins C dx fs => H dx = some (.own a) ∧ fs.length ≤ 1000 ∧ dx ≠ a ∧ h.get? a = some (PySem.W.instObj C dx) ∧
      ∃ mA, h.Ns1 dx mA ∧ (∀ f, RelO (fs.lookup f) (mA f)) ∧ PySem.Within mA (fs.map (·.1))
  | .own _ => ∃ o, h.get? a = some o
  | .xd fs => ∃ mA, h.Ns1 a mA ∧ ∀ f, RelO (fs.lookup f) (mA f)
  | .rng lo hi => ∃ t u v, h.get? a = some { cls := .type "range", data := .fields #[.int lo t, .int hi u, .int 1 v] }
  | .frz o u => h.get? a = some o ∧ ObjOk H h a u
  | .tbl ps => h.get? a = some { cls := .none, data := .fields ps }
  | .met f x => h.get? a = some (PySem.W.methodObj (.ref f) (.ref x))
  | .ext φ => φ h ∧ (∃ o, h.get? a = some o) ∧ ∀ h1 h2 : Heap, φ h1 → (∀ o, h1.get? a = some o → h2.get? a = some o) → φ h2
/-- the abstract heap is held -/
def HOk (H : Hp) (h : Heap) : Prop := ∀ a o, H a = some o → ObjOk P w H h a o
end

section
variable {P : Program} {w : World} {H H' : Hp} {h h' : Heap} {a : Addr} {o : HO}
theorem ObjOk.lt (x : ObjOk P w H h a o) : a < h.objs.size := by
  cases o with
  | lst xs => obtain ⟨_, _, _, _, e⟩ := x; exact Heap.lt_size e
  | tup xs => obtain ⟨_, _, _, p⟩ := x; exact p.lt
  | dK kvs => obtain ⟨_, _, _, _, o, _, _, e, _⟩ := x; exact Heap.lt_size e
  | dT kvs => obtain ⟨_, _, _, _, o, _, _, e, _⟩ := x; exact Heap.lt_size e
  | set S n => obtain ⟨o, _, _, _, e, _⟩ := x; exact Heap.lt_size e
  | ins C dx fs => obtain ⟨_, _, _, e, _⟩ := x; exact Heap.lt_size e
  | own y => obtain ⟨_, e⟩ := x; exact Heap.lt_size e
  | xd fs => obtain ⟨_, ⟨_, _, _, e, _⟩, _⟩ := x; exact Heap.lt_size e
  | rng lo hi => obtain ⟨_, _, _, e⟩ := x; exact Heap.lt_size e
  | frz ob u => obtain ⟨e, _⟩ := x; exact Heap.lt_size e
  | tbl ps => exact Heap.lt_size (show h.get? a = some _ from x)
  | met f y => exact Heap.lt_size (show h.get? a = some _ from x)
  | ext φ => obtain ⟨_, ⟨_, e⟩, _⟩ := x; exact Heap.lt_size e
theorem Paired.mapP {α β : Type} {F G : α → β → Prop} : ∀ {l₁ : List α} {l₂ : List β}, Paired F l₁ l₂ → (∀ a b, F a b → G a b) → Paired G l₁ l₂
  | _, _, .nil, _ => .nil
  | _, _, .cons r t, f => .cons (f _ _ r) (Paired.mapP t f)
theorem Paired.imp' {α β : Type} {F G : α → β → Prop} (f : ∀ a b, F a b → G a b) {l₁ : List α} {l₂ : List β} (r : Paired F l₁ l₂) : Paired G l₁ l₂ := Paired.mapP r f
/-- what an object's description leans on: its own object, its own dict, the tuples -/
theorem ObjOk.stay (x : ObjOk P w H h a o) (k : ∀ b u, (b = a ∨ H b = some (.own a)) → h.get? b = some u → h'.get? b = some u)
    (ho : ∀ b, H b = some (.own a) → H' b = some (.own a)) (ht : ∀ b xs, H b = some (.tup xs) → H' b = some (.tup xs)) : ObjOk P w H' h' a o := by
  induction o with
  | lst xs => obtain ⟨z, its, n, r, e⟩ := x; exact ⟨z, its, n, r, k _ _ (.inl rfl) e⟩
  | tup xs => obtain ⟨z, its, r, ob, e, c⟩ := x; exact ⟨z, its, r, ob, k _ _ (.inl rfl) e, c⟩
  | dK kvs => obtain ⟨z, y, vs, r, ob, es, ep, e, c⟩ := x; exact ⟨z, y, vs, r, ob, es, ep, k _ _ (.inl rfl) e, c⟩
  | dT kvs =>
    obtain ⟨z, y, xs, r, ob, es, ep, e, c⟩ := x
    exact ⟨z, y, xs, Paired.mapP r fun p q z => ⟨z.1, ht _ _ z.2.1, z.2.2⟩, ob, es, ep, k _ _ (.inl rfl) e, c⟩
  | set S n => obtain ⟨ob, es, ep, t, e, c⟩ := x; exact ⟨ob, es, ep, t, k _ _ (.inl rfl) e, c⟩
  | ins C dx fs =>
    obtain ⟨d, z, ne, e, mA, ⟨od, es, ep, e2, c⟩, r⟩ := x
    exact ⟨ho _ d, z, ne, k _ _ (.inl rfl) e, mA, ⟨od, es, ep, k _ _ (.inr d) e2, c⟩, r⟩
  | own y => obtain ⟨ob, e⟩ := x; exact ⟨ob, k _ _ (.inl rfl) e⟩
  | xd fs => obtain ⟨mA, ⟨od, es, ep, e, c⟩, r⟩ := x; exact ⟨mA, ⟨od, es, ep, k _ _ (.inl rfl) e, c⟩, r⟩
  | rng lo hi => obtain ⟨t, u, v, e⟩ := x; exact ⟨t, u, v, k _ _ (.inl rfl) e⟩
  | frz ob u ih => obtain ⟨e, q⟩ := x; exact ⟨k _ _ (.inl rfl) e, ih q⟩
  | tbl ps =>
    have e : h.get? a = some { cls := .none, data := .fields ps } := x
    show h'.get? a = some { cls := .none, data := .fields ps }
    exact k a _ (.inl rfl) e
  | met f y =>
    have e : h.get? a = some (PySem.W.methodObj (.ref f) (.ref y)) := x
    show h'.get? a = some (PySem.W.methodObj (.ref f) (.ref y))
    exact k a _ (.inl rfl) e
  | ext φ => obtain ⟨p, ⟨o, e⟩, st⟩ := x; exact ⟨st _ _ p fun o q => k _ _ (.inl rfl) q, ⟨o, k _ _ (.inl rfl) e⟩, st⟩
theorem HOk.lt (x : HOk P w H h) (e : H a = some o) : a < h.objs.size := (x a o e).lt
theorem HOk.fresh (x : HOk P w H h) (e : h.objs.size ≤ a) : H a = none := by
  cases q : H a with
  | none => rfl
  | some u => exact absurd (Nat.lt_of_lt_of_le (x.lt q) e) (Nat.lt_irrefl _)
/-- every object of the heap is kept -/
theorem HOk.kept (x : HOk P w H h) (k : ∀ b u, h.get? b = some u → h'.get? b = some u) : HOk P w H h' := fun a o e =>
  (x a o e).stay (fun b u _ q => k b u q) (fun _ q => q) fun _ _ q => q
/-- a new object is laid and tracked -/
theorem HOk.laid (x : HOk P w H h) (k : ∀ b u, h.get? b = some u → h'.get? b = some u) (hp : h.objs.size ≤ a) (new : ObjOk P w (upd H a o) h' a o) : HOk P w (upd H a o) h' := fun b u e => by
  have hn := x.fresh hp
  by_cases hb : b = a
  · subst hb; rw [upd_same] at e; cases e; exact new
  · rw [upd_ne hb] at e
    exact (x b u e).stay (fun c v _ q => k c v q) (fun c q => by rw [upd_ne (ne_of_none q hn)]; exact q) fun c xs q => by rw [upd_ne (ne_of_none q hn)]; exact q
end

/-- what may be read as u: it is u, or a known u -/
def Rd (H : Hp) (a : Addr) (u : HO) : Prop := H a = some u ∨ ∃ o, H a = some (.frz o u)
theorem Rd.of {H : Hp} {a : Addr} {u : HO} (h : H a = some u) : Rd H a u := .inl h
theorem Rd.ok {P : Program} {w : World} {H : Hp} {h : Heap} {a : Addr} {u : HO} (r : Rd H a u) (x : HOk P w H h) : ObjOk P w H h a u := by
  rcases r with r | ⟨o, r⟩
  · exact x a u r
  · obtain ⟨_, q⟩ := x a _ r
    exact q
/-- what may be written -/
def Mut : Option HO → Prop
  | some (.lst _) => True
  | some (.dK _) => True
  | some (.dT _) => True
  | some (.set _ _) => True
  | some (.ins _ _ _) => True
  | some (.ext _) => True
  | _ => False
section
variable {P : Program} {w : World} {H : Hp} {h h' : Heap} {x e : Addr} {o' : HO}
/-- the object at e is changed: x itself, or the dict of the instance x -/
theorem HOk.write (ok : HOk P w H h) (mu : Mut (H x)) (he : e = x ∨ H e = some (.own x)) (k : ∀ b u, b ≠ e → h.get? b = some u → h'.get? b = some u) (heo : ∃ u, h'.get? e = some u)
    (new : ObjOk P w (upd H x o') h' x o') : HOk P w (upd H x o') h' := fun b u q => by
  have nown : ∀ c y, H c = some (.own y) → c ≠ x := fun c y r z => by subst z; rw [r] at mu; exact mu
  have ntup : ∀ c xs, H c = some (.tup xs) → c ≠ x := fun c xs r z => by subst z; rw [r] at mu; exact mu
  by_cases hb : b = x
  · subst hb; rw [upd_same] at q; cases q; exact new
  · rw [upd_ne hb] at q
    by_cases hbe : b = e
    · have q' : H b = some (.own x) := by
        rcases he with z | z
        · exact absurd (hbe.trans z) hb
        · rw [hbe]; exact z
      rw [q] at q'; cases q'
      obtain ⟨v, hv⟩ := heo
      exact ⟨v, by rw [hbe]; exact hv⟩
    · refine (ok b u q).stay (fun c v hc r => k c v ?_ r) (fun c r => by rw [upd_ne (nown c b r)]; exact r) fun c xs r => by rw [upd_ne (ntup c xs r)]; exact r
      rcases hc with rfl | hc
      · exact hbe
      · rintro rfl
        rcases he with z | z
        · exact nown c b hc z
        · rw [hc] at z; cases z; exact hb rfl
end

/-! ### kept unless tracked; of the frames at fs (the callers') the slots may change (an exception that passes writes there); of the records at ex (iterators) nothing is said -/
structure Un (fs ex : List Addr) (H H' : Hp) (h h' : Heap) : Prop where
  keep : ∀ b o, h.get? b = some o → H b = none → b ∉ fs → b ∉ ex → h'.get? b = some o
  slot : ∀ b o, h.get? b = some o → H b = none → b ∈ fs → b ∉ ex → ∃ sl, h'.get? b = some { o with slots := sl }
  free : ∀ b o, h.get? b = some o → H b = none → b ∉ ex → H' b = none
  there : ∀ b o, h.get? b = some o → b ∉ ex → ∃ o', h'.get? b = some o'
  tups : ∀ b xs, H b = some (.tup xs) → H' b = some (.tup xs)
  frzs : ∀ b o u, H b = some (.frz o u) → H' b = some (.frz o u)
  tbls : ∀ b ps, H b = some (.tbl ps) → ∃ more, H' b = some (.tbl (ps ++ more))
section
variable {fs fs' ex ex' : List Addr} {H H1 H2 : Hp} {h h1 h2 h' : Heap} {a x e : Addr} {o : HO}
theorem Un.any (u : Un fs ex H H1 h h1) {b : Addr} {ob : Obj} (q : h.get? b = some ob) (n : H b = none) (hx : b ∉ ex) : ∃ sl, h1.get? b = some { ob with slots := sl } := by
  by_cases hb : b ∈ fs
  · exact u.slot b ob q n hb hx
  · exact ⟨ob.slots, u.keep b ob q n hb hx⟩
theorem Un.trans (a : Un fs ex H H1 h h1) (b : Un fs ex H1 H2 h1 h2) : Un fs ex H H2 h h2 where
  keep := fun c ob q n hc hx => b.keep c ob (a.keep c ob q n hc hx) (a.free c ob q n hx) hc hx
  slot := fun c ob q n hc hx => by
    obtain ⟨sl, e1⟩ := a.slot c ob q n hc hx
    obtain ⟨sl', e2⟩ := b.slot c _ e1 (a.free c ob q n hx) hc hx
    exact ⟨sl', e2⟩
  free := fun c ob q n hx => by
    obtain ⟨o', e1⟩ := a.there c ob q hx
    exact b.free c o' e1 (a.free c ob q n hx) hx
  there := fun c ob q hx => by
    obtain ⟨o', e1⟩ := a.there c ob q hx
    exact b.there c o' e1 hx
  tups := fun c xs q => b.tups c xs (a.tups c xs q)
  frzs := fun c ob xs q => b.frzs c ob xs (a.frzs c ob xs q)
  tbls := fun c ps q => by
    obtain ⟨m1, e1⟩ := a.tbls c ps q
    obtain ⟨m2, e2⟩ := b.tbls c _ e1
    exact ⟨m1 ++ m2, by rw [e2, Array.append_assoc]⟩
theorem Un.kept (k : ∀ b u, h.get? b = some u → h'.get? b = some u) : Un fs ex H H h h' :=
  ⟨fun b ob q _ _ _ => k b ob q, fun b ob q _ _ _ => ⟨ob.slots, k b ob q⟩, fun _ _ _ n _ => n, fun b ob q _ => ⟨ob, k b ob q⟩, fun _ _ q => q, fun _ _ _ q => q, fun _ ps q => ⟨#[], by rw [q]; simp⟩⟩
theorem Un.refl : Un fs ex H H h h := Un.kept fun _ _ q => q
theorem Un.laid (k : ∀ b u, h.get? b = some u → h'.get? b = some u) (hp : h.objs.size ≤ a) (hn : H a = none) : Un fs ex H (upd H a o) h h' where
  keep := fun b u q _ _ _ => k b u q
  slot := fun b u q _ _ _ => ⟨u.slots, k b u q⟩
  free := fun b u q n _ => by rw [upd_ne (Nat.ne_of_lt (Nat.lt_of_lt_of_le (Heap.lt_size q) hp))]; exact n
  there := fun b u q _ => ⟨u, k b u q⟩
  tups := fun b xs q => by rw [upd_ne (ne_of_none q hn)]; exact q
  frzs := fun b u xs q => by rw [upd_ne (ne_of_none q hn)]; exact q
  tbls := fun b ps q => ⟨#[], by rw [upd_ne (ne_of_none q hn), q]; simp⟩
theorem Un.write (mu : Mut (H x)) (he : e = x ∨ H e = some (.own x)) (k : ∀ b u, b ≠ e → h.get? b = some u → h'.get? b = some u) (heo : ∃ u, h'.get? e = some u) : Un fs ex H (upd H x o) h h' := by
  have hx : ∀ b, H b = none → b ≠ x := fun b n z => by subst z; rw [n] at mu; exact mu
  have hb : ∀ b, H b = none → b ≠ e := fun b n z => by
    subst z
    rcases he with r | r
    · exact hx b n r
    · rw [n] at r; cases r
  have hm : ∀ b u, H b = some u → ¬ Mut (some u) → b ≠ x := fun b u q nm z => by subst z; rw [q] at mu; exact nm mu
  refine ⟨fun b u q n _ _ => k b u (hb b n) q, fun b u q n _ _ => ⟨u.slots, k b u (hb b n) q⟩, fun b u q n _ => by rw [upd_ne (hx b n)]; exact n, fun b u q _ => ?_,
    fun b xs q => by rw [upd_ne (hm b _ q fun z => z)]; exact q, fun b u xs q => by rw [upd_ne (hm b _ q fun z => z)]; exact q, fun b ps q => ⟨#[], by rw [upd_ne (hm b _ q fun z => z), q]; simp⟩⟩
  by_cases hbe : b = e
  · subst hbe; exact heo
  · exact ⟨u, k b u hbe q⟩
theorem Un.mono (u : Un fs ex H H1 h h1) (hs : ∀ b ∈ fs, b ∈ fs') (hx : ∀ b ∈ ex, b ∈ ex') : Un fs' ex' H H1 h h1 :=
  ⟨fun b ob q n hb he => u.keep b ob q n (fun z => hb (hs b z)) fun z => he (hx b z), fun _ _ q n _ he => u.any q n fun z => he (hx _ z), fun b ob q n he => u.free b ob q n fun z => he (hx b z), fun b ob q he => u.there b ob q fun z => he (hx b z), u.tups, u.frzs, u.tbls⟩
end

/-! ### the heap without what is tracked -/
def trk (h : Heap) (H : Hp) : List Addr := (List.range h.objs.size).filter fun a => (H a).isSome
def hidT (h : Heap) (H : Hp) : Heap := PySem.W.hideAll h (trk h H)
theorem hidT_size (h : Heap) (H : Hp) : (hidT h H).objs.size = h.objs.size := PySem.W.hideAll_size _ _
theorem hidT_get {h : Heap} {H : Hp} {b : Addr} {o : Obj} (e : h.get? b = some o) (n : H b = none) : (hidT h H).get? b = some o :=
  PySem.W.hideAll_get _ e fun hm => by
    have q : (H b).isSome = true := (List.mem_filter.mp hm).2
    rw [n] at q; simp at q
theorem of_hidT {h : Heap} {H : Hp} {b : Addr} {o : Obj} (e : (hidT h H).get? b = some o) : h.get? b = some o ∧ H b = none := by
  have e' : h.get? b = some o := PySem.W.of_hideAll (trk h H) e
  refine ⟨e', ?_⟩
  cases q : H b with
  | none => rfl
  | some x =>
    have hm : b ∈ trk h H := List.mem_filter.mpr ⟨List.mem_range.mpr (Heap.lt_size e'), by simp [q]⟩
    have z : (hidT h H).get? b = none := PySem.W.hideAll_none (trk h H) hm
    rw [z] at e; cases e

/-! ### OpenK's ledger, filled with every new object but one -/
def allNews (g h : Heap) (L : Addr) : List (Addr × Obj) := (List.range h.objs.size).filterMap fun a => if a = L ∨ (g.get? a).isSome = true then none else (h.get? a).map fun o => (a, o)
theorem mem_allNews {g h : Heap} {L a : Addr} {o : Obj} (h1 : a ≠ L) (h2 : g.get? a = none) (h3 : h.get? a = some o) : (a, o) ∈ allNews g h L :=
  List.mem_filterMap.mpr ⟨a, List.mem_range.mpr (Heap.lt_size h3), by simp [h1, h2, h3]⟩
theorem of_mem_allNews {g h : Heap} {L : Addr} {p : Addr × Obj} (hp : p ∈ allNews g h L) : p.1 ≠ L ∧ g.get? p.1 = none ∧ h.get? p.1 = some p.2 := by
  obtain ⟨b, _, e⟩ := List.mem_filterMap.mp hp
  split at e
  · cases e
  · rename_i hn
    cases q : h.get? b with
    | none => rw [q] at e; simp at e
    | some u =>
      rw [q] at e
      simp only [Option.map_some, Option.some.injEq] at e
      subst e
      refine ⟨fun z => hn (.inl z), ?_, q⟩
      show g.get? b = none
      cases r : g.get? b with
      | none => rfl
      | some v => exact (hn (.inr (by simp [r]))).elim
def rest (g h : Heap) (L d : Addr) : List (Addr × Obj) := (allNews g h L).filter fun p => decide (p.1 ≠ d)
theorem rest_ne {g h : Heap} {L d : Addr} : ∀ p ∈ rest g h L d, p.1 ≠ d := fun p hp => of_decide_eq_true (List.mem_filter.mp hp).2
theorem mem_rest {g h : Heap} {L d a : Addr} {o : Obj} (h1 : a ≠ L) (h2 : g.get? a = none) (h3 : h.get? a = some o) (h4 : a ≠ d) : (a, o) ∈ rest g h L d :=
  List.mem_filter.mpr ⟨mem_allNews h1 h2 h3, decide_eq_true h4⟩
theorem news_all {g h : Heap} {L : Addr} : News g L h (allNews g h L) := fun p hp => let ⟨a, b, c⟩ := of_mem_allNews hp; ⟨c, a, b⟩
theorem news_at {g h : Heap} {L d : Addr} {o : Obj} (h1 : d ≠ L) (h2 : g.get? d = none) (h3 : h.get? d = some o) : News g L h ((d, o) :: rest g h L d) := fun p hp => by
  rcases List.mem_cons.mp hp with rfl | hp
  · exact ⟨h3, h1, h2⟩
  · exact news_all p (List.mem_filter.mp hp).1
/-- behind a rule that changed d alone: all else but the frame is kept -/
theorem kept_of_news {g h h' : Heap} {L d : Addr} {m : Str → Option Value} (k : ∀ b o, g.get? b = some o → h.get? b = some o) (F : Fr g L h' m) (N : News g L h' (rest g h L d)) :
    ∀ b o, b ≠ L → b ≠ d → h.get? b = some o → h'.get? b = some o := fun b o h1 h2 e => by
  cases q : g.get? b with
  | some u =>
    have := k b u q
    rw [e] at this; cases this
    exact F.keep b _ q
  | none => exact (N (b, o) (mem_rest h1 q e h2)).1
end L2

namespace L2
open PySem PySem.Spec PyProof.Rows

/-- the module's facts, over the base: the heap at the law's entry without what is tracked there -/
structure Mod (K : PySem.W.Frag) (mg : Str → Option Value) (base : Heap) : Prop where
  kin : K.In base
  glob : base.Ns mainGlobals mg
  blt : ∃ mb, base.Ns builtinsNs mb ∧ ∀ x : Str, x ≠ "__name__" → mb x = bootBuiltins x
  nolimit : base.NoLimit

/-- the context: a def's body (or a comprehension's block) running. base: fixed through the whole law; s₀, H₀: the entry; outer: the frames whose slots others may change (a def's callers); stack: all frames that run;
   ex: iterators that were made ahead of the entry and are walked here (a comprehension's); fn: the names whose cells were made at the entry (a def: all; a comprehension's block: its own); calm: not within an except suite; pn: pins that every state bears; xe: what is wanted of an exception that leaves the code -/
structure Cx where
  prog : Program
  w : World
  K : PySem.W.Frag
  mg : Str → Option Value
  base : Heap
  A : Around
  N : List Str
  s₀ : Shared
  H₀ : Hp
  env : Env
  outer : List Env
  stack : List Env
  ex : List Addr
  fn : Str → Bool
  calm : Bool
  pn : List (Addr × Obj)
  xe : Value → Shared → Prop
/-- the callers' frames -/
def frs (l : List Env) : List Addr := l.filterMap (·.frame)
abbrev Cx.fs (X : Cx) : List Addr := frs X.outer

def Vis (sc : Scope) (x : Str) : Prop := sc.names.lookup x = some .local ∨ sc.names.lookup x = some .cell ∨ sc.names.lookup x = some .free
def Loc (sc : Scope) (x : Str) : Prop := sc.names.lookup x = some .local ∨ sc.names.lookup x = some .cell
def Look (env : Env) (h : Heap) (m : Str → Option Value) (x : Str) (u : Value) : Prop :=
  (env.kindOf x = some .local ∧ m x = some u) ∨ ((env.kindOf x = some .cell ∨ env.kindOf x = some .free) ∧ ∃ c, env.cells.lookup x = some c ∧ h.IsCell c (some u))

structure Cx.Ok (X : Cx) : Prop where
  mod : Mod X.K X.mg X.base
  kind : X.env.scope.kind = .function
  glob : X.env.globals = mainGlobals
  blt : X.env.builtins = builtinsNs
  above : X.s₀.heap.objs.size ≤ X.env.locals
  inj : ∀ x y c, X.env.cells.lookup x = some c → X.env.cells.lookup y = some c → x = y
  has : ∀ x, (X.env.kindOf x = some .cell ∨ X.env.kindOf x = some .free) → ∃ c, X.env.cells.lookup x = some c
  cab : ∀ x c, X.fn x = true → X.env.cells.lookup x = some c → X.s₀.heap.objs.size ≤ c
  hd : X.calm = true → X.A.handled = none
  frames : X.A.frames = some X.stack
  stk : X.stack = X.outer ∨ (X.stack = X.env :: X.outer ∧ X.env.frame = some X.env.locals)
  exf : ∀ b ∈ X.ex, b ≠ X.env.locals ∧ ∀ x c, X.env.cells.lookup x = some c → c ≠ b
  bs : ∀ b o, X.base.get? b = some o → X.s₀.heap.get? b = some o ∧ X.H₀ b = none
  bsz : X.base.objs.size ≤ X.s₀.heap.objs.size
  noex : ∀ b o, X.base.get? b = some o → b ∉ X.ex
  exfs : ∀ b ∈ X.ex, b ∉ X.fs
  funs : X.s₀.heap.FunFrames X.base X.outer
  frf : ∀ b ∈ X.fs, X.H₀ b = none

structure Inv (X : Cx) (pins : List (Addr × Obj)) (σ : List (Option V)) (H : Hp) (s : Shared) : Prop where
  ok : X.Ok
  os : s.os = X.s₀.os
  bare : AllBare s.gens
  base : Un X.fs X.ex X.H₀ H X.s₀.heap s.heap
  loc : ∃ m, s.heap.Ns X.env.locals m ∧ ∀ (i : Nat) (x : Str) (v : V), X.N[i]? = some x → σ[i]? = some (some v) → Vis X.env.scope x → ∃ u, RelV v u ∧ Look X.env s.heap m x u
  cell : ∀ x c, X.env.cells.lookup x = some c → ∃ v, s.heap.IsCell c v
  free : H X.env.locals = none
  freeC : ∀ x c, X.env.cells.lookup x = some c → H c = none
  pin : ∀ p ∈ X.pn ++ pins, s.heap.get? p.1 = some p.2 ∧ H p.1 = none ∧ p.1 ≠ X.env.locals ∧ p.1 ∉ X.fs ∧ ∀ v, p.2.data ≠ .cell v
  hok : HOk X.prog X.w H s.heap
  len : σ.length = X.N.length
  tk : 0 < s.toks

section
variable {X : Cx} {pins : List (Addr × Obj)} {σ : List (Option V)} {H H' : Hp} {s : Shared} {h' : Heap}

theorem Cx.Ok.nofr (ok : X.Ok) {b : Addr} {o : Obj} (e : X.base.get? b = some o) : b ∉ X.fs := fun hb => by
  have := (ok.funs.mem hb).1
  rw [e] at this; cases this
theorem Inv.bs (I : Inv X pins σ H s) : ∀ b o, X.base.get? b = some o → s.heap.get? b = some o ∧ H b = none := fun b o e =>
  ⟨I.base.keep b o (I.ok.bs b o e).1 (I.ok.bs b o e).2 (I.ok.nofr e) (I.ok.noex b o e), I.base.free b o (I.ok.bs b o e).1 (I.ok.bs b o e).2 (I.ok.noex b o e)⟩
theorem Inv.bk (I : Inv X pins σ H s) : ∀ b o, X.base.get? b = some o → s.heap.get? b = some o := fun b o e => (I.bs b o e).1
theorem Inv.mod (I : Inv X pins σ H s) : Mod X.K X.mg X.base := I.ok.mod
theorem Inv.kIn (I : Inv X pins σ H s) : X.K.In s.heap := I.ok.mod.kin.keeps I.bk
theorem Inv.nolimit (I : Inv X pins σ H s) : s.heap.NoLimit := I.ok.mod.nolimit.keeps I.bk
/-- the frame over the base: for OpenK's rules (K.In X.base is I.mod.kin) -/
theorem Inv.fr (I : Inv X pins σ H s) : ∃ m, Fr X.base X.env.locals s.heap m :=
  let ⟨m, hn, _⟩ := I.loc
  ⟨m, hn, I.bk, Nat.le_trans I.ok.bsz I.ok.above⟩
theorem Inv.lt (I : Inv X pins σ H s) : X.env.locals < s.heap.objs.size := let ⟨_, hn, _⟩ := I.loc; hn.lt
theorem Inv.sz (I : Inv X pins σ H s) : X.s₀.heap.objs.size ≤ s.heap.objs.size := Nat.le_trans I.ok.above (Nat.le_of_lt I.lt)
theorem Inv.nofs (I : Inv X pins σ H s) {a : Addr} (h : s.heap.objs.size ≤ a) : a ∉ X.fs := fun hb => by
  obtain ⟨_, o, ho, _⟩ := I.ok.funs.mem hb
  exact absurd (Nat.lt_of_lt_of_le (Heap.lt_size ho) (Nat.le_trans I.sz h)) (Nat.lt_irrefl _)
theorem Inv.cne (I : Inv X pins σ H s) : ∀ x c, X.env.cells.lookup x = some c → c ≠ X.env.locals := fun x c e z => by
  obtain ⟨v, o, ho, hd⟩ := I.cell x c e
  obtain ⟨m, ⟨o', es, ep, ho', hd', _⟩, _⟩ := I.loc
  rw [z, ho'] at ho; cases ho; rw [hd'] at hd; cases hd
theorem Inv.funs (I : Inv X pins σ H s) : s.heap.FunFrames X.base X.outer := by
  have all : ∀ (l : List Env), (∀ b ∈ frs l, b ∈ X.fs) → X.s₀.heap.FunFrames X.base l → s.heap.FunFrames X.base l := by
    intro l
    induction l with
    | nil => intro _ _; trivial
    | cons env r ih =>
      intro hs hl
      obtain ⟨hk, ⟨L, o, hf, hn, ho, hd⟩, hr⟩ := hl
      have hL : L ∈ X.fs := hs L (by unfold frs; rw [List.filterMap_cons, hf]; exact List.mem_cons_self)
      obtain ⟨sl, e⟩ := I.base.slot L o ho (I.ok.frf L hL) hL fun z => I.ok.exfs L z hL
      exact ⟨hk, ⟨L, _, hf, hn, e, hd⟩, ih (fun b hb => hs b (by unfold frs; rw [List.filterMap_cons, hf]; exact List.mem_cons_of_mem _ hb)) hr⟩
  exact all X.outer (fun _ hb => hb) I.ok.funs

/-- the frames that run, for a call -/
theorem Inv.stack (I : Inv X pins σ H s) : s.heap.FunFrames X.base X.stack := by
  rcases I.ok.stk with e | ⟨e, hf⟩
  · rw [e]; exact I.funs
  · rw [e]
    obtain ⟨m, hn, _⟩ := I.loc
    refine .cons (by rw [I.ok.kind]; decide) hf hn ?_ I.funs
    exact Heap.get?_none_of_le (Nat.le_trans I.ok.bsz I.ok.above)
theorem Inv.stkSub (I : Inv X pins σ H s) : ∀ b ∈ frs X.stack, b ∈ X.env.locals :: X.fs := fun b hb => by
  rcases I.ok.stk with e | ⟨e, hf⟩
  · rw [e] at hb; exact List.mem_cons_of_mem _ hb
  · rw [e] at hb
    unfold frs at hb
    rw [List.filterMap_cons, hf] at hb
    exact hb
theorem Inv.stkFree (I : Inv X pins σ H s) : ∀ b ∈ frs X.stack, H b = none := fun b hb => by
  rcases List.mem_cons.mp (I.stkSub b hb) with e | hb
  · rw [e]; exact I.free
  · obtain ⟨_, o, ho, _⟩ := I.ok.funs.mem hb
    exact I.base.free b o ho (I.ok.frf b hb) fun z => I.ok.exfs b z hb

/-- THE STEP: the untracked objects but the frame and the records at ch are kept (the callers' frames up to slots), the frame's map is kept, the new abstract heap is held -/
theorem Inv.step {g' : Array GenState} {t' : Nat} {d' : Drawn} {ch : List Addr} (I : Inv X pins σ H s)
    (hch : ∀ b ∈ ch, (b ∈ X.ex ∨ X.s₀.heap.objs.size ≤ b) ∧ b ≠ X.env.locals ∧ (∀ x c, X.env.cells.lookup x = some c → c ≠ b) ∧ ∀ p ∈ X.pn ++ pins, p.1 ≠ b)
    (keep : ∀ b o, b ≠ X.env.locals → b ∉ X.fs → b ∉ ch → s.heap.get? b = some o → H b = none → h'.get? b = some o)
    (slot : ∀ b o, b ≠ X.env.locals → b ∈ X.fs → b ∉ ch → s.heap.get? b = some o → H b = none → ∃ sl, h'.get? b = some { o with slots := sl }) (free : ∀ b o, b ∉ ch → s.heap.get? b = some o → H b = none → H' b = none)
    (there : ∀ b o, b ∉ ch → s.heap.get? b = some o → ∃ o', h'.get? b = some o')
    (tups : ∀ b xs, H b = some (.tup xs) → H' b = some (.tup xs)) (frzs : ∀ b o u, H b = some (.frz o u) → H' b = some (.frz o u)) (tbls : ∀ b ps, H b = some (.tbl ps) → ∃ more, H' b = some (.tbl (ps ++ more)))
    (ns : ∀ m, s.heap.Ns X.env.locals m → h'.Ns X.env.locals m) (hok : HOk X.prog X.w H' h') (hg : AllBare g') (ht : 0 < t' := by first | assumption | exact Nat.succ_pos _ | (apply Inv.tk; assumption)) :
    Inv X pins σ H' { s with heap := h', gens := g', drawn := d', toks := t' } := by
  have neL : ∀ b o, X.s₀.heap.get? b = some o → b ≠ X.env.locals := fun b o e => Nat.ne_of_lt (Nat.lt_of_lt_of_le (Heap.lt_size e) I.ok.above)
  have neC : ∀ b o, X.s₀.heap.get? b = some o → b ∉ X.ex → b ∉ ch := fun b o e hx hb => by
    rcases (hch b hb).1 with z | z
    · exact hx z
    · exact absurd (Nat.lt_of_lt_of_le (Heap.lt_size e) z) (Nat.lt_irrefl _)
  have cellK : ∀ x c, X.env.cells.lookup x = some c → ∀ v, s.heap.IsCell c v → h'.IsCell c v := fun x c e v ⟨o, ho, hd⟩ => by
    have nch : c ∉ ch := fun z => (hch c z).2.2.1 x c e rfl
    by_cases hc : c ∈ X.fs
    · obtain ⟨sl, q⟩ := slot c o (I.cne x c e) hc nch ho (I.freeC x c e)
      exact ⟨_, q, hd⟩
    · exact ⟨o, keep c o (I.cne x c e) hc nch ho (I.freeC x c e), hd⟩
  refine ⟨I.ok, I.os, hg, ⟨fun b o e n hb hx => ?_, fun b o e n hb hx => ?_, fun b o e n hx => ?_, fun b o e hx => ?_, fun b xs e => tups b xs (I.base.tups b xs e), fun b o xs e => frzs b o xs (I.base.frzs b o xs e), fun b ps e => ?_⟩, ?_, fun x c e => ?_, ?_, fun x c e => ?_, fun p hp => ?_, hok, I.len, ht⟩
  · exact keep b o (neL b o e) hb (neC b o e hx) (I.base.keep b o e n hb hx) (I.base.free b o e n hx)
  · obtain ⟨sl, e1⟩ := I.base.slot b o e n hb hx
    obtain ⟨sl', e2⟩ := slot b _ (neL b o e) hb (neC b o e hx) e1 (I.base.free b o e n hx)
    exact ⟨sl', e2⟩
  · obtain ⟨o', e1⟩ := I.base.there b o e hx
    exact free b o' (neC b o e hx) e1 (I.base.free b o e n hx)
  · obtain ⟨o', e1⟩ := I.base.there b o e hx
    exact there b o' (neC b o e hx) e1
  · obtain ⟨m1, e1⟩ := I.base.tbls b ps e
    obtain ⟨m2, e2⟩ := tbls b _ e1
    exact ⟨m1 ++ m2, by rw [e2, Array.append_assoc]⟩
  · obtain ⟨m, hn, hl⟩ := I.loc
    refine ⟨m, ns m hn, fun i x v e1 e2 e3 => ?_⟩
    obtain ⟨u, r, l⟩ := hl i x v e1 e2 e3
    refine ⟨u, r, ?_⟩
    rcases l with l | ⟨k, c, e, z⟩
    · exact .inl l
    · exact .inr ⟨k, c, e, cellK x c e _ z⟩
  · obtain ⟨v, z⟩ := I.cell x c e
    exact ⟨v, cellK x c e v z⟩
  · obtain ⟨m, ⟨o, _, _, ho, _⟩, _⟩ := I.loc
    exact free _ o (fun z => (hch _ z).2.1 rfl) ho I.free
  · obtain ⟨v, o, ho, hd⟩ := I.cell x c e
    exact free c o (fun z => (hch c z).2.2.1 x c e rfl) ho (I.freeC x c e)
  · obtain ⟨e, n, ne, nf, d⟩ := I.pin p hp
    have nch : p.1 ∉ ch := fun z => (hch p.1 z).2.2.2 p hp rfl
    exact ⟨keep p.1 p.2 ne nf nch e n, free p.1 p.2 nch e n, ne, nf, d⟩
/-- .. where the frame's own object is kept too -/
theorem Inv.un {t' : Nat} (I : Inv X pins σ H s) (u : Un X.fs [] H H' s.heap h') (hok : HOk X.prog X.w H' h') (ht : 0 < t' := by first | assumption | exact Nat.succ_pos _ | (apply Inv.tk; assumption)) : Inv X pins σ H' { s with heap := h', toks := t' } := by
  obtain ⟨m, ⟨o, es, ep, ho, r⟩, _⟩ := id I.loc
  obtain ⟨sl, hL⟩ := u.any ho I.free (by simp)
  exact I.step (g' := s.gens) (d' := s.drawn) (ch := []) (fun _ z => nomatch z) (fun b o _ hb _ e n => u.keep b o e n hb (by simp)) (fun b o _ hb _ e n => u.slot b o e n hb (by simp)) (fun b o _ e n => u.free b o e n (by simp)) (fun b o _ e => u.there b o e (by simp)) u.tups u.frzs u.tbls (fun m' hm => by
    obtain ⟨o', es', ep', ho', r'⟩ := hm
    rw [ho] at ho'; cases ho'
    exact ⟨_, es', ep', hL, r'⟩) hok I.bare
/-- behind a call (or a comprehension's block): the slots of this frame may have changed too, the records at ch may have turned -/
theorem Inv.call {g' : Array GenState} {t' : Nat} {d' : Drawn} {ch : List Addr} (I : Inv X pins σ H s) (u : Un (frs X.stack) ch H H' s.heap h') (hok : HOk X.prog X.w H' h') (hg : AllBare g')
    (hch : ∀ b ∈ ch, (b ∈ X.ex ∨ X.s₀.heap.objs.size ≤ b) ∧ b ≠ X.env.locals ∧ (∀ x c, X.env.cells.lookup x = some c → c ≠ b) ∧ ∀ p ∈ X.pn ++ pins, p.1 ≠ b) (ht : 0 < t' := by first | assumption | exact Nat.succ_pos _ | (apply Inv.tk; assumption)) :
    Inv X pins σ H' { s with heap := h', gens := g', drawn := d', toks := t' } := by
  obtain ⟨m, ⟨o, es, ep, ho, r⟩, _⟩ := id I.loc
  obtain ⟨sl, hL⟩ := u.any ho I.free fun z => (hch _ z).2.1 rfl
  exact I.step (ch := ch) hch (fun b o hL hb hc e n => u.keep b o e n (fun z => (List.mem_cons.mp (I.stkSub b z)).elim hL hb) hc) (fun b o _ _ hc e n => u.any e n hc) (fun b o hc e n => u.free b o e n hc) (fun b o hc e => u.there b o e hc) u.tups u.frzs u.tbls (fun m' hm => by
    obtain ⟨o', es', ep', ho', r'⟩ := hm
    rw [ho] at ho'; cases ho'
    exact ⟨_, es', ep', hL, r'⟩) hok hg
/-- an untracked record of ours (an iterator) has turned -/
theorem Inv.turned {t' : Nat} {it : Addr} (I : Inv X pins σ H s) (k : ∀ b o, b ≠ it → s.heap.get? b = some o → h'.get? b = some o) (hn : H it = none) (hL : it ≠ X.env.locals)
    (h1 : it ∈ X.ex ∨ X.s₀.heap.objs.size ≤ it) (h2 : ∀ x c, X.env.cells.lookup x = some c → c ≠ it) (h3 : ∀ p ∈ X.pn ++ pins, p.1 ≠ it) (ht : 0 < t' := by first | assumption | exact Nat.succ_pos _ | (apply Inv.tk; assumption)) : Inv X pins σ H { s with heap := h', toks := t' } := by
  have nit : ∀ b u, H b = some u → b ≠ it := fun b u e z => by rw [z, hn] at e; cases e
  refine I.step (g' := s.gens) (d' := s.drawn) (ch := [it]) (fun b hb => ?_) (fun b o _ _ hc e _ => k b o (fun z => hc (by simp [z])) e) (fun b o _ _ hc e _ => ⟨o.slots, k b o (fun z => hc (by simp [z])) e⟩) (fun _ _ _ _ n => n)
    (fun b o hc e => ⟨o, k b o (fun z => hc (by simp [z])) e⟩) (fun _ _ e => e) (fun _ _ _ e => e) (fun b ps e => ⟨#[], by rw [e]; simp⟩) (fun m hm => ?_) (fun b u e => ?_) I.bare
  · have e : b = it := by simpa using hb
    subst e
    exact ⟨h1, hL, h2, h3⟩
  · obtain ⟨o, es, ep, ho, r⟩ := hm
    exact ⟨o, es, ep, k _ o (Ne.symm hL) ho, r⟩
  · refine (I.hok b u e).stay (fun c v hc q => k c v ?_ q) (fun _ q => q) fun _ _ q => q
    rcases hc with z | z
    · rw [z]; exact nit b u e
    · exact nit c _ z
theorem Inv.tok (I : Inv X pins σ H s) (t : Nat) (ht : 0 < t := by first | assumption | exact Nat.succ_pos _ | (apply Inv.tk; assumption)) : Inv X pins σ H { s with toks := t } := I.un (h' := s.heap) (t' := t) Un.refl I.hok
/-- all objects kept -/
theorem Inv.kept {t' : Nat} (I : Inv X pins σ H s) (k : ∀ b u, s.heap.get? b = some u → h'.get? b = some u) (ht : 0 < t' := by first | assumption | exact Nat.succ_pos _ | (apply Inv.tk; assumption)) : Inv X pins σ H { s with heap := h', toks := t' } := I.un (Un.kept k) (I.hok.kept k)
/-- a new object laid and tracked -/
theorem Inv.laid {a : Addr} {o : HO} {t' : Nat} (I : Inv X pins σ H s) (k : ∀ b u, s.heap.get? b = some u → h'.get? b = some u) (hp : s.heap.objs.size ≤ a) (new : ObjOk X.prog X.w (upd H a o) h' a o) (ht : 0 < t' := by first | assumption | exact Nat.succ_pos _ | (apply Inv.tk; assumption)) :
    Inv X pins σ (upd H a o) { s with heap := h', toks := t' } := I.un (Un.laid k hp (I.hok.fresh hp)) (I.hok.laid k hp new)
/-- an object written -/
theorem Inv.write {x e : Addr} {o : HO} {t' : Nat} (I : Inv X pins σ H s) (mu : Mut (H x)) (he : e = x ∨ H e = some (.own x)) (k : ∀ b u, b ≠ e → s.heap.get? b = some u → h'.get? b = some u) (heo : ∃ u, h'.get? e = some u)
    (new : ObjOk X.prog X.w (upd H x o) h' x o) (ht : 0 < t' := by first | assumption | exact Nat.succ_pos _ | (apply Inv.tk; assumption)) : Inv X pins σ (upd H x o) { s with heap := h', toks := t' } := I.un (Un.write mu he k heo) (I.hok.write mu he k heo new)
/-- forgetting slots, pins -/
theorem Inv.weak {σ' : List (Option V)} (I : Inv X pins σ H s) (hl : σ'.length = σ.length) (w : ∀ (i : Nat) v, σ'[i]? = some (some v) → σ[i]? = some (some v)) : Inv X pins σ' H s :=
  ⟨I.ok, I.os, I.bare, I.base, let ⟨m, hn, hl'⟩ := I.loc; ⟨m, hn, fun i x v e1 e2 e3 => hl' i x v e1 (w i v e2) e3⟩, I.cell, I.free, I.freeC, I.pin, I.hok, hl.trans I.len, I.tk⟩
theorem Inv.pins_of {pins' : List (Addr × Obj)} (I : Inv X pins σ H s) (h : ∀ p ∈ pins', s.heap.get? p.1 = some p.2 ∧ H p.1 = none ∧ p.1 ≠ X.env.locals ∧ p.1 ∉ X.fs ∧ ∀ v, p.2.data ≠ .cell v) : Inv X pins' σ H s :=
  ⟨I.ok, I.os, I.bare, I.base, I.loc, I.cell, I.free, I.freeC, fun p hp => (List.mem_append.mp hp).elim (fun z => I.pin p (List.mem_append_left _ z)) (h p), I.hok, I.len, I.tk⟩

theorem nodup_ix {N : List Str} (hN : N.Nodup) {i j : Nat} {x : Str} (a : N[i]? = some x) (b : N[j]? = some x) : i = j := by
  obtain ⟨h1, e1⟩ := List.getElem?_eq_some_iff.mp a
  obtain ⟨h2, e2⟩ := List.getElem?_eq_some_iff.mp b
  exact (List.getElem_inj hN).mp (e1.trans e2.symm)

/-- a name is stored; what changed -/
theorem store_ok2 {M : Model} {A : Around} {E : Value → Shared → Prop} {i : Nat} {x : Str} {v : V} {u : Value} {Q : Unit → Shared → Prop} (I : Inv X pins σ H s) (hN : X.N.Nodup) (hi : X.N[i]? = some x) (hx : Loc X.env.scope x) (r : RelV v u)
    (h : ∀ s', Inv X pins (σ.set i (some v)) H s' → (∃ a, Heap.SameBut a s.heap s'.heap ∧ (a = X.env.locals ∨ X.env.cells.lookup x = some a)) → Q () s') (hf : X.fn x = true ∨ X.env.scope.names.lookup x = some .local := by first | exact .inl rfl | exact .inr rfl | assumption) : wpAny M A (storeName X.env x u) Q E s := by
  obtain ⟨m, hn, hl⟩ := id I.loc
  have hcls : (X.env.scope.kind == .class || (X.env.scope.kind == .module && X.env.locals != X.env.globals)) = false := by rw [I.ok.kind]; rfl
  have hiσ : i < σ.length := by rw [I.len]; exact (List.getElem?_eq_some_iff.mp hi).1
  have cne := I.cne
  have tracked : ∀ {a : Addr} {h' : Heap}, (∃ o, s.heap.get? a = some o ∧ H a = none) → Heap.SameBut a s.heap h' → HOk X.prog X.w H h' := fun {a h'} ha hs b ob e => by
    obtain ⟨_, _, hfree⟩ := ha
    refine (I.hok b ob e).stay (fun c w' hc q => (hs.2 c ?_).trans q) (fun _ q => q) fun _ _ q => q
    rintro rfl
    rcases hc with rfl | hc
    · rw [hfree] at e; cases e
    · rw [hfree] at hc; cases hc
  rcases hx with hk | hk
  · refine wpAny_storeName_local hk hn (fun h' hn' hs => ?_) hcls
    obtain ⟨oL, _, _, hoL, _⟩ := id hn
    refine h _ ⟨I.ok, I.os, I.bare, ⟨fun b o e n hb hx => ?_, fun b o e n hb hx => ?_, I.base.free, fun b o e hx => ?_, I.base.tups, I.base.frzs, I.base.tbls⟩, ⟨_, hn', fun j y v' e1 e2 e3 => ?_⟩, fun y c e => ?_, I.free, I.freeC, fun p hp => ?_, tracked ⟨oL, hoL, I.free⟩ hs, by simpa using I.len, by first | exact I.tk | exact Nat.succ_pos _⟩ ⟨_, hs, .inl rfl⟩
    · exact (hs.2 b (Nat.ne_of_lt (Nat.lt_of_lt_of_le (Heap.lt_size e) I.ok.above))).trans (I.base.keep b o e n hb hx)
    · obtain ⟨sl, e1⟩ := I.base.slot b o e n hb hx
      exact ⟨sl, (hs.2 b (Nat.ne_of_lt (Nat.lt_of_lt_of_le (Heap.lt_size e) I.ok.above))).trans e1⟩
    · obtain ⟨o', e1⟩ := I.base.there b o e hx
      exact ⟨o', (hs.2 b (Nat.ne_of_lt (Nat.lt_of_lt_of_le (Heap.lt_size e) I.ok.above))).trans e1⟩
    · by_cases hj : j = i
      · subst hj
        rw [hi] at e1; cases e1
        rw [List.getElem?_set_self hiσ] at e2
        cases e2
        exact ⟨u, r, .inl ⟨hk, by simp⟩⟩
      · rw [List.getElem?_set_ne (Ne.symm hj)] at e2
        obtain ⟨u', r', q⟩ := hl j y v' e1 e2 e3
        refine ⟨u', r', ?_⟩
        rcases q with ⟨k, e⟩ | ⟨k, c, e, z⟩
        · refine .inl ⟨k, ?_⟩
          have : y ≠ x := fun e => hj (nodup_ix hN e1 (e ▸ hi))
          simp [this, e]
        · exact .inr ⟨k, c, e, z.sameBut hs (cne y c e)⟩
    · obtain ⟨w', z⟩ := I.cell y c e
      exact ⟨w', z.sameBut hs (cne y c e)⟩
    · obtain ⟨e, n, ne, nf, d⟩ := I.pin p hp
      exact ⟨(hs.2 p.1 ne).trans e, n, ne, nf, d⟩
  · have hfn : X.fn x = true := by
      rcases hf with z | z
      · exact z
      · rw [z] at hk; cases hk
    obtain ⟨c, hc⟩ := I.ok.has x (.inl hk)
    obtain ⟨w', z⟩ := I.cell x c hc
    refine wpAny_storeName_cell I.ok.kind hk hc z (fun h' hc' hs => ?_)
    obtain ⟨oc, hoc, hocd⟩ := id z
    refine h { s with heap := h' } ⟨I.ok, I.os, I.bare, ⟨fun b o e n hb hx => ?_, fun b o e n hb hx => ?_, I.base.free, fun b o e hx => ?_, I.base.tups, I.base.frzs, I.base.tbls⟩, ⟨m, hn.sameBut hs (Ne.symm (cne x c hc)), fun j y v' e1 e2 e3 => ?_⟩, fun y c' e => ?_, I.free, I.freeC, fun p hp => ?_, tracked ⟨oc, hoc, I.freeC x c hc⟩ hs, by simpa using I.len, by first | exact I.tk | exact Nat.succ_pos _⟩ ⟨c, hs, .inr hc⟩
    · exact (hs.2 b (Nat.ne_of_lt (Nat.lt_of_lt_of_le (Heap.lt_size e) (I.ok.cab x c hfn hc)))).trans (I.base.keep b o e n hb hx)
    · obtain ⟨sl, e1⟩ := I.base.slot b o e n hb hx
      exact ⟨sl, (hs.2 b (Nat.ne_of_lt (Nat.lt_of_lt_of_le (Heap.lt_size e) (I.ok.cab x c hfn hc)))).trans e1⟩
    · obtain ⟨o', e1⟩ := I.base.there b o e hx
      exact ⟨o', (hs.2 b (Nat.ne_of_lt (Nat.lt_of_lt_of_le (Heap.lt_size e) (I.ok.cab x c hfn hc)))).trans e1⟩
    · by_cases hj : j = i
      · subst hj
        rw [hi] at e1; cases e1
        rw [List.getElem?_set_self hiσ] at e2
        cases e2
        exact ⟨u, r, .inr ⟨.inl hk, c, hc, hc'⟩⟩
      · rw [List.getElem?_set_ne (Ne.symm hj)] at e2
        obtain ⟨u', r', q⟩ := hl j y v' e1 e2 e3
        refine ⟨u', r', ?_⟩
        rcases q with q | ⟨k, c', e, z'⟩
        · exact .inl q
        · refine .inr ⟨k, c', e, z'.sameBut hs ?_⟩
          rintro rfl
          exact hj (nodup_ix hN e1 (I.ok.inj _ _ _ e hc ▸ hi))
    · by_cases hcc : c' = c
      · subst hcc; exact ⟨_, hc'⟩
      · obtain ⟨w2, z2⟩ := I.cell y c' e
        exact ⟨w2, z2.sameBut hs hcc⟩
    · obtain ⟨e, n, ne, nf, d⟩ := I.pin p hp
      refine ⟨(hs.2 p.1 ?_).trans e, n, ne, nf, d⟩
      intro q
      rw [q, hoc] at e
      have q' : oc = p.2 := Option.some.inj e
      exact d w' (by rw [← q']; exact hocd)
theorem store_ok {M : Model} {A : Around} {E : Value → Shared → Prop} {i : Nat} {x : Str} {v : V} {u : Value} {Q : Unit → Shared → Prop} (I : Inv X pins σ H s) (hN : X.N.Nodup) (hi : X.N[i]? = some x) (hx : Loc X.env.scope x) (r : RelV v u)
    (h : ∀ s', Inv X pins (σ.set i (some v)) H s' → Q () s') (hf : X.fn x = true ∨ X.env.scope.names.lookup x = some .local := by first | exact .inl rfl | exact .inr rfl | assumption) : wpAny M A (storeName X.env x u) Q E s :=
  store_ok2 I hN hi hx r (fun s' I' _ => h s' I') hf
/-- behind a call or a block, the state as it is -/
theorem Inv.call' {s' : Shared} {ch : List Addr} (I : Inv X pins σ H s) (ho : s'.os = s.os) (u : Un (frs X.stack) ch H H' s.heap s'.heap) (hok : HOk X.prog X.w H' s'.heap) (hg : AllBare s'.gens)
    (hch : ∀ b ∈ ch, (b ∈ X.ex ∨ X.s₀.heap.objs.size ≤ b) ∧ b ≠ X.env.locals ∧ (∀ x c, X.env.cells.lookup x = some c → c ≠ b) ∧ ∀ p ∈ X.pn ++ pins, p.1 ≠ b) (ht : 0 < s'.toks) : Inv X pins σ H' s' := by
  obtain ⟨h', g', d', t', o'⟩ := s'
  have e : o' = s.os := ho
  subst e
  exact I.call (g' := g') (t' := t') (d' := d') u hok hg hch ht
end

/-! ### the judgements -/
/-- an exception: its class, its own dict's address (where it has one), the abstract heap behind it -/
abbrev XK := Value → Option Addr → Hp → Prop
abbrev St := List (Option V)
abbrev VK := V → Hp → Prop
/-- an expression's reading; a test's; an argument list's -/
abbrev TE := St → Hp → VK → Prop
abbrev TT := St → Hp → (Bool → Hp → Prop) → Prop
abbrev TA := St → Hp → (List V → Hp → Prop) → Prop
/-- what is wanted behind a statement -/
structure Ends where
  nx : St → Hp → Prop
  rt : VK
  bk : St → Hp → Prop := fun _ _ => False
  ct : St → Hp → Prop := fun _ _ => False
abbrev TS := Ends → St → Hp → Prop

def EP (X : Cx) (pins : List (Addr × Obj)) (σ : St) (Q : VK) (u : Value) (s' : Shared) : Prop := ∃ v H', Inv X pins σ H' s' ∧ RelV v u ∧ Q v H'
def TP (X : Cx) (pins : List (Addr × Obj)) (σ : St) (Q : Bool → Hp → Prop) (b : Bool) (s' : Shared) : Prop := ∃ H', Inv X pins σ H' s' ∧ Q b H'
def AP (X : Cx) (pins : List (Addr × Obj)) (σ : St) (Q : List V → Hp → Prop) (us : List Value) (s' : Shared) : Prop := ∃ vs H', Inv X pins σ H' s' ∧ Vals vs us ∧ Q vs H'
def SP (X : Cx) (pins : List (Addr × Obj)) (D : Ends) (f : Flow) (s' : Shared) : Prop :=
  match f with
  | .next => ∃ σ' H', Inv X pins σ' H' s' ∧ D.nx σ' H'
  | .brk => ∃ σ' H', Inv X pins σ' H' s' ∧ D.bk σ' H'
  | .cont => ∃ σ' H', Inv X pins σ' H' s' ∧ D.ct σ' H'
  | .ret u => ∃ v σ' H', Inv X pins σ' H' s' ∧ RelV v u ∧ D.rt v H'

def PE (X : Cx) (e : Expr) (t : TE) : Prop :=
  ∀ (pins : List (Addr × Obj)) (s : Shared) (σ : St) (H : Hp) (Q : VK), Inv X pins σ H s → t σ H Q → wpAny (model X.prog X.w) X.A (eval e X.env) (EP X pins σ Q) X.xe s
def PT (X : Cx) (e : Expr) (t : TT) : Prop :=
  ∀ (pins : List (Addr × Obj)) (s : Shared) (σ : St) (H : Hp) (Q : Bool → Hp → Prop), Inv X pins σ H s → t σ H Q → wpAny (model X.prog X.w) X.A (isTrue e X.env (eval e X.env)) (TP X pins σ Q) X.xe s
/-- a test whatever its 'whole' is (and, or) -/
def PW (X : Cx) (e : Expr) (t : TT) : Prop :=
  ∀ (whole : Sem Value) (pins : List (Addr × Obj)) (s : Shared) (σ : St) (H : Hp) (Q : Bool → Hp → Prop), Inv X pins σ H s → t σ H Q → wpAny (model X.prog X.w) X.A (isTrue e X.env whole) (TP X pins σ Q) X.xe s
theorem PW.pt {X : Cx} {e : Expr} {t : TT} (h : PW X e t) : PT X e t := h _
/-- an argument list (no star), from the left -/
def PA (X : Cx) (es : List Expr) (t : TA) : Prop :=
  ∀ (pos : Pos) (pins : List (Addr × Obj)) (s : Shared) (σ : St) (H : Hp) (Q : List V → Hp → Prop), Inv X pins σ H s → t σ H Q → wpAny (model X.prog X.w) X.A (spliced (backTo pos (starEach es X.env))) (AP X pins σ Q) X.xe s
def PS (X : Cx) (st : Stmt) (t : TS) : Prop :=
  ∀ (pins : List (Addr × Obj)) (s : Shared) (σ : St) (H : Hp) (D : Ends), Inv X pins σ H s → t D σ H → wpAny (model X.prog X.w) X.A (exec st X.env) (SP X pins D) X.xe s
def PSs (X : Cx) (st : List Stmt) (t : TS) : Prop :=
  ∀ (pins : List (Addr × Obj)) (s : Shared) (σ : St) (H : Hp) (D : Ends), Inv X pins σ H s → t D σ H → wpAny (model X.prog X.w) X.A (execs st X.env) (SP X pins D) X.xe s
/-- weaken the end -/
theorem thn {α : Type} {t : Sem α} {Q Q' : α → Shared → Prop} {M : Model} {A : Around} {E : Value → Shared → Prop} {s : Shared} (h : wpAny M A t Q E s) (hQ : ∀ a s, Q a s → Q' a s) : wpAny M A t Q' E s := wpAny_mono h hQ fun _ _ x => x
end L2

namespace L2
open PySem PySem.Spec PyProof.Rows
section
variable {X : Cx}

/-- two expressions in a row -/
theorem bin {a b : Expr} {ta tb : TE} (ha : PE X a ta) (hb : PE X b tb) {pins : List (Addr × Obj)} {s : Shared} {σ : St} {H : Hp} {R : V → V → Hp → Prop} (I : Inv X pins σ H s) (h : ta σ H fun x H1 => tb σ H1 fun y H2 => R x y H2)
    {α : Type} {Q : α → Shared → Prop} {f : Value → Value → Sem α}
    (hf : ∀ v u s2 x y H2, Inv X pins σ H2 s2 → RelV x v → RelV y u → R x y H2 → wpAny (model X.prog X.w) X.A (f v u) Q X.xe s2) :
    wpAny (model X.prog X.w) X.A (eval a X.env) (fun v s₁ => wpAny (model X.prog X.w) X.A (eval b X.env) (fun u s₂ => wpAny (model X.prog X.w) X.A (f v u) Q X.xe s₂) X.xe s₁) X.xe s := by
  refine thn (ha pins s σ H _ I h) fun v s1 ⟨x, H1, I1, r1, q1⟩ => ?_
  refine thn (hb pins s1 σ H1 _ I1 q1) fun u s2 ⟨y, H2, I2, r2, q2⟩ => ?_
  exact hf v u s2 x y H2 I2 r1 r2 q2

/-! ### names and constants -/
def tVar (i : Nat) : TE := fun σ H Q => ∃ v, σ[i]? = some (some v) ∧ Q v H
def tC (v : V) : TE := fun _ H Q => Q v H
theorem pe_var {i : Nat} {x : Str} {pos : Pos} (hN : X.N[i]? = some x) (hv : Vis X.env.scope x) (hd : (x == ("__debug__" : Str)) = false := by decide) (hcd : (x == ("__classdict__" : Str)) = false := by decide) : PE X (.Name x pos) (tVar i) := by
  intro pins s σ H Q I h
  obtain ⟨v, e, h⟩ := h
  obtain ⟨m, hn, hl⟩ := I.loc
  obtain ⟨u, r, l⟩ := hl i x v hN e hv
  have fin : EP X pins σ Q u s := ⟨v, H, I, r, h⟩
  rcases l with ⟨hk, hm⟩ | ⟨hk, c, hc, hcell⟩
  · exact wpAny_Name (wpAny_loadName_local I.ok.kind hk hn hm fin) hd
  · rcases hk with hk | hk
    · exact wpAny_Name (wpAny_loadName_cell I.ok.kind hk hc hcell fin) hd
    · exact wpAny_Name (wpAny_loadName_free I.ok.kind hk hc hcell fin hcd) hd
theorem pe_int {i j pos} : PE X (.Constant (.int i) j pos) (tC (.int i)) := fun _ _ _ H _ I h => wpAny_Constant_int ⟨.int i, H, I.tok _, ⟨_, rfl⟩, h⟩
theorem pe_bl {b j pos} : PE X (.Constant (.bool b) j pos) (tC (.bl b)) := fun _ _ _ H _ I h => Constant_bool ⟨.bl b, H, I, rfl, h⟩
theorem pe_non {j pos} : PE X (.Constant .none j pos) (tC .non) := fun _ _ _ H _ I h => Constant_none ⟨.non, H, I, rfl, h⟩
theorem pe_str {x j pos} : PE X (.Constant (.str x) j pos) (tC (.str x)) := fun _ _ _ H _ I h => Calls.Constant_str ⟨.str x, H, I.tok _, ⟨_, rfl⟩, h⟩

/-- a global name of the def -/
def Gl (X : Cx) (x : Str) : Prop := X.env.kindOf x = some .globalImplicit
theorem ld_glob {E : Value → Shared → Prop} {pins : List (Addr × Obj)} {s : Shared} {σ : St} {H : Hp} {x : Str} {u : Value} {pos : Pos} {Q : Value → Shared → Prop} (I : Inv X pins σ H s) (hg : Gl X x) (hm : X.mg x = some u) (h : Q u s)
    (hd : (x == ("__debug__" : Str)) = false := by decide) : wpAny (model X.prog X.w) X.A (eval (.Name x pos) X.env) Q E s :=
  Calls.Name_function_global I.ok.kind hg (Calls.loadGlobal_global (by rw [I.ok.glob]; exact I.mod.glob.keeps I.bk) hm h) hd
theorem ld_blt {E : Value → Shared → Prop} {pins : List (Addr × Obj)} {s : Shared} {σ : St} {H : Hp} {x : Str} {u : Value} {pos : Pos} {Q : Value → Shared → Prop} (I : Inv X pins σ H s) (hg : Gl X x) (hm : X.mg x = none) (hv : bootBuiltins x = some u) (h : Q u s)
    (hn : x ≠ "__name__" := by decide) (hd : (x == ("__debug__" : Str)) = false := by decide) : wpAny (model X.prog X.w) X.A (eval (.Name x pos) X.env) Q E s := by
  obtain ⟨mb, h1, h2⟩ := I.mod.blt
  exact Calls.Name_function_global I.ok.kind hg (Calls.loadGlobal_builtin (by rw [I.ok.glob]; exact I.mod.glob.keeps I.bk) hm (by rw [I.ok.blt]; exact h1.keeps I.bk) ((h2 x hn).trans hv) h) hd
/-- a module's constant, a class, a function, as a value -/
theorem pe_glob {x : Str} {v : V} {u : Value} {pos : Pos} (hg : Gl X x) (hm : X.mg x = some u) (r : RelV v u) (hd : (x == ("__debug__" : Str)) = false := by decide) : PE X (.Name x pos) (tC v) :=
  fun _ _ _ H _ I h => ld_glob I hg hm ⟨v, H, I, r, h⟩ hd
theorem pe_bltn {x : Str} {v : V} {u : Value} {pos : Pos} (hg : Gl X x) (hm : X.mg x = none) (hv : bootBuiltins x = some u) (r : RelV v u) (hn : x ≠ "__name__" := by decide) (hd : (x == ("__debug__" : Str)) = false := by decide) : PE X (.Name x pos) (tC v) :=
  fun _ _ _ H _ I h => ld_blt I hg hm hv ⟨v, H, I, r, h⟩ hn hd

/-! ### arithmetic -/
/-- two ints -/
def t2I (ta tb : TE) (k : Int → Int → Hp → Prop) : St → Hp → Prop := fun σ H => ta σ H fun x H1 => tb σ H1 fun y H2 => ∃ i j, x = .int i ∧ y = .int j ∧ k i j H2
def tAdd (ta tb : TE) : TE := fun σ H Q => t2I ta tb (fun i j H2 => Q (.int (i + j)) H2) σ H
def tSub (ta tb : TE) : TE := fun σ H Q => t2I ta tb (fun i j H2 => Q (.int (i - j)) H2) σ H
/-- the left factor below 2^64 -/
def tMul (ta tb : TE) : TE := fun σ H Q => t2I ta tb (fun i j H2 => (-(2 ^ 64) < i ∧ i < 2 ^ 64) ∧ Q (.int (i * j)) H2) σ H
variable {a b : Expr} {ta tb : TE} {pos : Pos}
theorem pe_add (ha : PE X a ta) (hb : PE X b tb) : PE X (.BinOp a .Add b pos) (tAdd ta tb) := by
  intro pins s σ H Q I h
  refine wpAny_BinOp (bin ha hb I h fun v u s2 x y H2 I2 rx ry q => ?_)
  obtain ⟨i, j, rfl, rfl, q⟩ := q
  obtain ⟨t, rfl⟩ := rx
  obtain ⟨t', rfl⟩ := ry
  exact add_int ⟨.int _, H2, I2.tok _, ⟨_, rfl⟩, q⟩
theorem pe_sub (ha : PE X a ta) (hb : PE X b tb) : PE X (.BinOp a .Sub b pos) (tSub ta tb) := by
  intro pins s σ H Q I h
  refine wpAny_BinOp (bin ha hb I h fun v u s2 x y H2 I2 rx ry q => ?_)
  obtain ⟨i, j, rfl, rfl, q⟩ := q
  obtain ⟨t, rfl⟩ := rx
  obtain ⟨t', rfl⟩ := ry
  exact sub_int ⟨.int _, H2, I2.tok _, ⟨_, rfl⟩, q⟩
theorem pe_mul (ha : PE X a ta) (hb : PE X b tb) : PE X (.BinOp a .Mult b pos) (tMul ta tb) := by
  intro pins s σ H Q I h
  refine wpAny_BinOp (bin ha hb I h fun v u s2 x y H2 I2 rx ry q => ?_)
  obtain ⟨i, j, rfl, rfl, ⟨q1, q2⟩, q⟩ := q
  obtain ⟨t, rfl⟩ := rx
  obtain ⟨t', rfl⟩ := ry
  exact mul_int ⟨.int _, H2, I2.tok _, ⟨_, rfl⟩, q⟩ (.of_left (intBits_le_64 q1 q2))

/-! ### comparisons -/
def PC (X : Cx) (op : CmpOp) (a b : Expr) (t : TE) : Prop :=
  ∀ (pins : List (Addr × Obj)) (s : Shared) (σ : St) (H : Hp) (Q : VK), Inv X pins σ H s → t σ H Q →
    wpAny (model X.prog X.w) X.A (eval a X.env) (fun v s₁ => wpAny (model X.prog X.w) X.A (eval b X.env) (fun u s₂ => wpAny (model X.prog X.w) X.A (compareOp op v u) (EP X pins σ Q) X.xe s₂) X.xe s₁) X.xe s
theorem nobehind (b : Expr) {op : CmpOp} (h : op ≠ .In) (h2 : op ≠ .NotIn) : behindInMarks op b = false := by
  have e1 : (op == CmpOp.In) = false := by cases op <;> first | rfl | exact absurd rfl h
  have e2 : (op == CmpOp.NotIn) = false := by cases op <;> first | rfl | exact absurd rfl h2
  cases b <;> simp [behindInMarks, e1, e2]
def tCmp (p : Int → Int → Bool) (ta tb : TE) : TE := fun σ H Q => t2I ta tb (fun i j H2 => Q (.bl (p i j)) H2) σ H
abbrev tLt : TE → TE → TE := tCmp fun i j => decide (i < j)
abbrev tLe : TE → TE → TE := tCmp fun i j => decide (i ≤ j)
abbrev tGt : TE → TE → TE := tCmp fun i j => decide (j < i)
abbrev tGe : TE → TE → TE := tCmp fun i j => decide (j ≤ i)
abbrev tEqI : TE → TE → TE := tCmp fun i j => decide (i = j)
abbrev tNeI : TE → TE → TE := tCmp fun i j => !decide (i = j)
/-- a comparison of two ints, by its rule -/
theorem pc_int {op : CmpOp} {p : Int → Int → Bool} (ha : PE X a ta) (hb : PE X b tb)
    (rule : ∀ (i j : Int) (t u : Tok) (Q : Value → Shared → Prop) (s : Shared), Q (.bool (p i j)) s → wpAny (model X.prog X.w) X.A (compareOp op (.int i t) (.int j u)) Q X.xe s) : PC X op a b (tCmp p ta tb) := by
  intro pins s σ H Q I h
  refine bin ha hb I h fun v u s2 x y H2 I2 rx ry q => ?_
  obtain ⟨i, j, rfl, rfl, q⟩ := q
  obtain ⟨t, rfl⟩ := rx
  obtain ⟨t', rfl⟩ := ry
  exact rule i j t t' _ s2 ⟨.bl _, H2, I2, rfl, q⟩
theorem pc_lt (ha : PE X a ta) (hb : PE X b tb) : PC X .Lt a b (tLt ta tb) := pc_int ha hb fun _ _ _ _ _ _ h => lt_int h
theorem pc_le (ha : PE X a ta) (hb : PE X b tb) : PC X .LtE a b (tLe ta tb) := pc_int ha hb fun _ _ _ _ _ _ h => le_int h
theorem pc_gt (ha : PE X a ta) (hb : PE X b tb) : PC X .Gt a b (tGt ta tb) := pc_int ha hb fun _ _ _ _ _ _ h => gt_int h
theorem pc_ge (ha : PE X a ta) (hb : PE X b tb) : PC X .GtE a b (tGe ta tb) := pc_int ha hb fun _ _ _ _ _ _ h => ge_int h
theorem pc_eqI (ha : PE X a ta) (hb : PE X b tb) : PC X .Eq a b (tEqI ta tb) := pc_int ha hb fun _ _ _ _ _ _ h => eq_int (by rw [Bool.beq_eq_decide_eq]; exact h)
theorem pc_neI (ha : PE X a ta) (hb : PE X b tb) : PC X .NotEq a b (tNeI ta tb) := pc_int ha hb fun _ _ _ _ _ _ h => ne_int (by rw [bne, Bool.beq_eq_decide_eq]; exact h)
/-- is None -/
def tIsN (ta : TE) : TE := fun σ H Q => ta σ H fun x H1 => Q (.bl (decide (x = .non))) H1
def tNotN (ta : TE) : TE := fun σ H Q => ta σ H fun x H1 => Q (.bl (!decide (x = .non))) H1
theorem RelV.none_iff {x : V} {v : Value} (r : RelV x v) : (v == Value.none) = decide (x = .non) := by
  cases x with
  | non => cases r; rfl
  | bl _ => cases r; rfl
  | int _ => obtain ⟨t, rfl⟩ := r; rfl
  | str _ => obtain ⟨t, rfl⟩ := r; rfl
  | byt _ => obtain ⟨t, rfl⟩ := r; rfl
  | flt _ => obtain ⟨t, rfl⟩ := r; rfl
  | ref _ => cases r; rfl
  | ty _ => cases r; rfl
theorem pc_isN {j pos'} (ha : PE X a ta) : PC X .Is a (.Constant .none j pos') (tIsN ta) := by
  intro pins s σ H Q I h
  refine thn (ha pins s σ H _ I h) fun v s1 ⟨x, H1, I1, r1, q1⟩ => ?_
  exact Constant_none (is_none_gen ⟨.bl _, H1, I1, by rw [r1.none_iff]; rfl, q1⟩)
theorem pc_notN {j pos'} (ha : PE X a ta) : PC X .IsNot a (.Constant .none j pos') (tNotN ta) := by
  intro pins s σ H Q I h
  refine thn (ha pins s σ H _ I h) fun v s1 ⟨x, H1, I1, r1, q1⟩ => ?_
  exact Constant_none (isnot_none_gen ⟨.bl _, H1, I1, by rw [r1.none_iff]; rfl, q1⟩)
/-- a comparison as a value, as a test -/
def tB (t : TE) : TT := fun σ H Q => t σ H fun x H1 => ∃ c, x = .bl c ∧ Q c H1
theorem pe_cmp {op : CmpOp} {t : TE} (h : PC X op a b t) (h1 : behindInMarks op b = false := by first | exact nobehind _ (by decide) (by decide) | rfl) : PE X (.Compare a [op] [b] pos) t := fun pins s σ H Q I hw => wpAny_Compare1 (h pins s σ H Q I hw) h1
theorem pt_cmp {op : CmpOp} {t : TE} (h : PC X op a b t) (h1 : behindInMarks op b = false := by first | exact nobehind _ (by decide) (by decide) | rfl) : PT X (.Compare a [op] [b] pos) (tB t) := by
  intro pins s σ H Q I hw
  refine wpAny_isTrue_Compare1 (thn (h pins s σ H _ I hw) fun v s1 h1 => thn h1 fun u s2 h2 => thn h2 fun c s3 ⟨x, H1, I1, r1, q1⟩ => ?_) h1
  obtain ⟨d, rfl, q⟩ := q1
  cases r1
  exact wpAny_truthy_bool ⟨H1, I1, q⟩
/-- an expression whose value is a bool, as a test -/
theorem pt_val {e : Expr} {t : TE} (h : PE X e t) (he : ∀ whole, isTrue e X.env whole = (do let v ← whole; standAt e.pos; holding [v] (truthy v)) := by intro _; rfl) : PT X e (tB t) := by
  intro pins s σ H Q I hw
  refine isTrue_plain (thn (h pins s σ H _ I hw) fun v s1 ⟨x, H1, I1, r1, q1⟩ => ?_) (he _)
  obtain ⟨d, rfl, q⟩ := q1
  cases r1
  exact wpAny_truthy_bool ⟨H1, I1, q⟩

/-! ### and, or, not -/
variable {tA tB' : TT} {rest : List Expr}
def tAnd (t u : TT) : TT := fun σ H Q => t σ H fun c H1 => if c = true then u σ H1 Q else Q false H1
def tOr (t u : TT) : TT := fun σ H Q => t σ H fun c H1 => if c = true then Q true H1 else u σ H1 Q
def tNot (t : TT) : TT := fun σ H Q => t σ H fun c H1 => Q (!c) H1
theorem pw_and1 (ha : PT X a tA) : PW X (.BoolOp .And [a] pos) tA := by
  intro wh pins s σ H Q I h
  refine isTrue_and (thn (ha pins s σ H Q I h) fun c s1 e => ?_)
  cases c with
  | true => exact isTrue_and_nil e
  | false => exact e
theorem pw_or1 (ha : PT X a tA) : PW X (.BoolOp .Or [a] pos) tA := by
  intro wh pins s σ H Q I h
  refine isTrue_or (thn (ha pins s σ H Q I h) fun c s1 e => ?_)
  cases c with
  | false => exact isTrue_or_nil e
  | true => exact e
theorem pw_and (ha : PT X a tA) (hb : PW X (.BoolOp .And (b :: rest) pos) tB') : PW X (.BoolOp .And (a :: b :: rest) pos) (tAnd tA tB') := by
  intro wh pins s σ H Q I h
  refine isTrue_and (thn (ha pins s σ H _ I h) fun c s1 ⟨H1, I1, q1⟩ => ?_)
  cases c with
  | true => exact hb wh pins s1 σ H1 Q I1 q1
  | false => exact ⟨H1, I1, q1⟩
theorem pw_or (ha : PT X a tA) (hb : PW X (.BoolOp .Or (b :: rest) pos) tB') : PW X (.BoolOp .Or (a :: b :: rest) pos) (tOr tA tB') := by
  intro wh pins s σ H Q I h
  refine isTrue_or (thn (ha pins s σ H _ I h) fun c s1 ⟨H1, I1, q1⟩ => ?_)
  cases c with
  | true => exact ⟨H1, I1, q1⟩
  | false => exact hb wh pins s1 σ H1 Q I1 q1
theorem pt_not (ha : PT X a tA) : PT X (.UnaryOp .Not a pos) (tNot tA) := by
  intro pins s σ H Q I h
  exact isTrue_not (ha pins s σ H (fun c H1 => Q (!c) H1) I h)
/-- .. as values (bools) -/
def tAndV (ta tb : TE) : TE := fun σ H Q => ta σ H fun x H1 => ∃ c, x = .bl c ∧ if c = true then tb σ H1 Q else Q (.bl false) H1
def tOrV (ta tb : TE) : TE := fun σ H Q => ta σ H fun x H1 => ∃ c, x = .bl c ∧ if c = true then Q (.bl true) H1 else tb σ H1 Q
def tNotV (ta : TE) : TE := fun σ H Q => ta σ H fun x H1 => ∃ c, x = .bl c ∧ Q (.bl (!c)) H1
theorem pe_one {op} {t : TE} (h : PE X a t) : PE X (.BoolOp op [a] pos) t := fun pins s σ H Q I hw => BoolOp_one (h pins s σ H Q I hw)
theorem pe_and (ha : PE X a ta) (hb : PE X (.BoolOp .And (b :: rest) pos) tb) : PE X (.BoolOp .And (a :: b :: rest) pos) (tAndV ta tb) := by
  intro pins s σ H Q I h
  refine BoolOp_and (thn (ha pins s σ H _ I h) fun v s1 ⟨x, H1, I1, r1, q1⟩ => ?_)
  obtain ⟨c, rfl, q1⟩ := q1
  cases r1
  refine wpAny_truthy_bool ?_
  cases c with
  | true => exact hb pins s1 σ H1 Q I1 q1
  | false => exact ⟨.bl false, H1, I1, rfl, q1⟩
theorem pe_or (ha : PE X a ta) (hb : PE X (.BoolOp .Or (b :: rest) pos) tb) : PE X (.BoolOp .Or (a :: b :: rest) pos) (tOrV ta tb) := by
  intro pins s σ H Q I h
  refine BoolOp_or (thn (ha pins s σ H _ I h) fun v s1 ⟨x, H1, I1, r1, q1⟩ => ?_)
  obtain ⟨c, rfl, q1⟩ := q1
  cases r1
  refine wpAny_truthy_bool ?_
  cases c with
  | false => exact hb pins s1 σ H1 Q I1 q1
  | true => exact ⟨.bl true, H1, I1, rfl, q1⟩
theorem pe_not (ha : PE X a ta) : PE X (.UnaryOp .Not a pos) (tNotV ta) := by
  intro pins s σ H Q I h
  refine UnaryOp_ (thn (ha pins s σ H _ I h) fun v s1 ⟨x, H1, I1, r1, q1⟩ => ?_)
  obtain ⟨c, rfl, q1⟩ := q1
  cases r1
  exact not_of (wpAny_truthy_bool ⟨.bl (!c), H1, I1, rfl, q1⟩)
/-- a if t else b -/
def tIf (t : TT) (ta tb : TE) : TE := fun σ H Q => t σ H fun c H1 => if c = true then ta σ H1 Q else tb σ H1 Q
theorem pe_ifExp {c : Expr} (hc : PT X c tA) (ha : PE X a ta) (hb : PE X b tb) : PE X (.IfExp c a b pos) (tIf tA ta tb) := by
  intro pins s σ H Q I h
  refine wpAny_IfExp (thn (hc pins s σ H _ I h) fun d s1 ⟨H1, I1, q1⟩ => ?_)
  cases d with
  | true => exact ha pins s1 σ H1 Q I1 q1
  | false => exact hb pins s1 σ H1 Q I1 q1
end
end L2

namespace L2
open PySem PySem.Spec PyProof.Rows

/-! ### a list, a tuple that is read: tracked, frozen, or an object of the module -/
def SqL (K : PySem.W.Frag) (H : Hp) (a : Addr) (xs : List V) : Prop :=
  Rd H a (.lst xs) ∨
    ∃ (o : Obj) (its : Array Value) (n : Nat), K.lookup a = some o ∧ o.cls = .type "list" ∧ o.dict = none ∧ o.data = .seq its n ∧ its.size ≤ sizeLine ∧ Vals xs its.toList
def SqT (K : PySem.W.Frag) (H : Hp) (a : Addr) (xs : List V) : Prop :=
  Rd H a (.tup xs) ∨
    ∃ (o : Obj) (its : Array Value) (n : Nat), K.lookup a = some o ∧ o.cls = .type "tuple" ∧ o.data = .seq its n ∧ its.size ≤ sizeLine ∧ Vals xs its.toList
def absV : Value → Option V
  | .none => some .non
  | .bool b => some (.bl b)
  | .int i _ => some (.int i)
  | .str x _ => some (.str x)
  | .bytes b _ => some (.byt b)
  | .float b _ => some (.flt b)
  | .ref a => some (.ref a)
  | .type n => some (.ty n)
  | _ => none
theorem RelV.abs {x : V} {u : Value} (r : RelV x u) : absV u = some x := by
  cases x with
  | non => cases r; rfl
  | bl _ => cases r; rfl
  | int _ => obtain ⟨t, rfl⟩ := r; rfl
  | str _ => obtain ⟨t, rfl⟩ := r; rfl
  | byt _ => obtain ⟨t, rfl⟩ := r; rfl
  | flt _ => obtain ⟨t, rfl⟩ := r; rfl
  | ref _ => cases r; rfl
  | ty _ => cases r; rfl
theorem RelV.inj {x y : V} {u : Value} (r : RelV x u) (q : RelV y u) : x = y := Option.some.inj (r.abs.symm.trans q.abs)
theorem Vals.inj : ∀ {xs ys : List V} {us : List Value}, Vals xs us → Vals ys us → xs = ys
  | _, _, _, .nil, .nil => rfl
  | _, _, _, .cons r t, .cons r' t' => by rw [r.inj r', Vals.inj t t']
section
variable {X : Cx} {pins : List (Addr × Obj)} {σ : St} {H : Hp} {s : Shared} {a : Addr} {xs ys : List V}
theorem SqL.of {K : PySem.W.Frag} (h : H a = some (.lst xs)) : SqL K H a xs := .inl (.inl h)
theorem SqT.of {K : PySem.W.Frag} (h : H a = some (.tup xs)) : SqT K H a xs := .inl (.inl h)
theorem Inv.list (I : Inv X pins σ H s) (h : SqL X.K H a xs) : ∃ its : List Value, Vals xs its ∧ PlainL s.heap a its.toArray ∧ xs.length ≤ sizeLine := by
  rcases h with h | ⟨o, its, n, hk, hc, hd, hs, hz, r⟩
  · obtain ⟨z, its, n, r, e⟩ := h.ok I.hok
    exact ⟨its, r, ⟨_, n, e, rfl, rfl, rfl⟩, z⟩
  · refine ⟨its.toList, r, ⟨o, n, I.kIn a o hk, hc, hd, by simpa using hs⟩, ?_⟩
    have e := r.length
    simp only [Array.length_toList] at e
    omega
theorem Inv.tuple (I : Inv X pins σ H s) (h : SqT X.K H a xs) : ∃ its : List Value, Vals xs its ∧ IsTup s.heap a its.toArray ∧ xs.length ≤ sizeLine := by
  rcases h with h | ⟨o, its, n, hk, hc, hs, hz, r⟩
  · obtain ⟨z, its, r, p⟩ := h.ok I.hok
    exact ⟨its, r, p, z⟩
  · refine ⟨its.toList, r, ⟨o, I.kIn a o hk, hc, n, by simpa using hs⟩, ?_⟩
    have e := r.length
    simp only [Array.length_toList] at e
    omega
theorem Inv.list_inj (I : Inv X pins σ H s) (h : SqL X.K H a xs) (h' : SqL X.K H a ys) : xs = ys := by
  obtain ⟨its, r, ⟨o, n, e, _, _, d⟩, _⟩ := I.list h
  obtain ⟨its', r', ⟨o', n', e', _, _, d'⟩, _⟩ := I.list h'
  rw [e] at e'; cases e'
  rw [d] at d'
  injection d' with d1 _
  have : its = its' := by simpa using congrArg Array.toList d1
  subst this
  exact r.inj r'
theorem Inv.tuple_inj (I : Inv X pins σ H s) (h : SqT X.K H a xs) (h' : SqT X.K H a ys) : xs = ys := by
  obtain ⟨its, r, ⟨o, e, _, n, d⟩, _⟩ := I.tuple h
  obtain ⟨its', r', ⟨o', e', _, n', d'⟩, _⟩ := I.tuple h'
  rw [e] at e'; cases e'
  rw [d] at d'
  injection d' with d1 _
  have : its = its' := by simpa using congrArg Array.toList d1
  subst this
  exact r.inj r'
end

/-! ### another wish about exceptions -/
abbrev Cx.wish (X : Cx) (E : Value → Shared → Prop) : Cx := { X with xe := E }
/-- no exception leaves -/
abbrev Cx.nox (X : Cx) : Cx := X.wish fun _ _ => False
theorem Cx.Ok.wish {X : Cx} (ok : X.Ok) (E : Value → Shared → Prop) : (X.wish E).Ok :=
  ⟨ok.mod, ok.kind, ok.glob, ok.blt, ok.above, ok.inj, ok.has, ok.cab, ok.hd, ok.frames, ok.stk, ok.exf, ok.bs, ok.bsz, ok.noex, ok.exfs, ok.funs, ok.frf⟩
theorem Cx.Ok.unwish {X : Cx} {E : Value → Shared → Prop} (ok : (X.wish E).Ok) : X.Ok :=
  ⟨ok.mod, ok.kind, ok.glob, ok.blt, ok.above, ok.inj, ok.has, ok.cab, ok.hd, ok.frames, ok.stk, ok.exf, ok.bs, ok.bsz, ok.noex, ok.exfs, ok.funs, ok.frf⟩
section
variable {X : Cx} {pins : List (Addr × Obj)} {σ : St} {H : Hp} {s : Shared} {E : Value → Shared → Prop}
theorem Inv.wish (I : Inv X pins σ H s) (E : Value → Shared → Prop) : Inv (X.wish E) pins σ H s := ⟨I.ok.wish E, I.os, I.bare, I.base, I.loc, I.cell, I.free, I.freeC, I.pin, I.hok, I.len, I.tk⟩
theorem Inv.unwish (I : Inv (X.wish E) pins σ H s) : Inv X pins σ H s := ⟨I.ok.unwish, I.os, I.bare, I.base, I.loc, I.cell, I.free, I.freeC, I.pin, I.hok, I.len, I.tk⟩
theorem SP.unwish {D : Ends} {f : Flow} {s' : Shared} (h : SP (X.wish E) pins D f s') : SP X pins D f s' := by
  cases f with
  | next => obtain ⟨σ', H', I, q⟩ := h; exact ⟨σ', H', I.unwish, q⟩
  | brk => obtain ⟨σ', H', I, q⟩ := h; exact ⟨σ', H', I.unwish, q⟩
  | cont => obtain ⟨σ', H', I, q⟩ := h; exact ⟨σ', H', I.unwish, q⟩
  | ret u => obtain ⟨v, σ', H', I, r, q⟩ := h; exact ⟨v, σ', H', I.unwish, r, q⟩
theorem PE.nox {e : Expr} {t : TE} (h : PE X.nox e t) : PE X e t := fun pins s σ H Q I hw =>
  wpAny_mono (h pins s σ H Q (I.wish _) hw) (fun _ _ ⟨v, H', I', r, q⟩ => ⟨v, H', I'.unwish, r, q⟩) fun _ _ z => False.elim z
theorem PT.nox {e : Expr} {t : TT} (h : PT X.nox e t) : PT X e t := fun pins s σ H Q I hw =>
  wpAny_mono (h pins s σ H Q (I.wish _) hw) (fun _ _ ⟨H', I', q⟩ => ⟨H', I'.unwish, q⟩) fun _ _ z => False.elim z
theorem PSs.nox {st : List Stmt} {t : TS} (h : PSs X.nox st t) : PSs X st t := fun pins s σ H D I hw =>
  wpAny_mono (h pins s σ H D (I.wish _) hw) (fun _ _ q => q.unwish) fun _ _ z => False.elim z
end

/-! ### blocks and small statements -/
section
variable {X : Cx} {st : Stmt} {rest : List Stmt} {t u : TS} {e : Expr} {te : TE} {pos : Pos}
def tNext : TS := fun D σ H => D.nx σ H
def tSeq (t u : TS) : TS := fun D σ H => t { D with nx := u D } σ H
theorem pss_nil : PSs X [] tNext := fun _ _ σ H _ I h => wpAny_execs_nil ⟨σ, H, I, h⟩
theorem pss_cons (h1 : PS X st t) (h2 : PSs X rest u) : PSs X (st :: rest) (tSeq t u) := by
  intro pins s σ H D I h
  refine wpAny_execs_cons (thn (h1 pins s σ H { D with nx := u D } I h) fun f s1 q => ?_)
  cases f with
  | next =>
    obtain ⟨σ', H', I', q⟩ := q
    exact h2 pins s1 σ' H' D I' q
  | ret v => exact q
  | brk => exact q
  | cont => exact q
theorem pss_one (h1 : PS X st t) : PSs X [st] t := by
  intro pins s σ H D I h
  refine wpAny_execs_cons (thn (h1 pins s σ H D I h) fun f s1 q => ?_)
  cases f with
  | next => exact wpAny_execs_nil q
  | ret v => exact q
  | brk => exact q
  | cont => exact q
def tBreak : TS := fun D σ H => D.bk σ H
def tCont : TS := fun D σ H => D.ct σ H
theorem ps_pass : PS X (.Pass pos) tNext := fun _ _ σ H _ I h => wpAny_Pass ⟨σ, H, I, h⟩
theorem ps_break : PS X (.Break pos) tBreak := fun _ _ σ H _ I h => wpAny_Break ⟨σ, H, I, h⟩
theorem ps_continue : PS X (.Continue pos) tCont := fun _ _ σ H _ I h => wpAny_Continue ⟨σ, H, I, h⟩
/-- in a def's body nothing is shown -/
theorem Inv.quiet {pins : List (Addr × Obj)} {σ : St} {H : Hp} {s : Shared} (I : Inv X pins σ H s) : interactive X.env = false := by simp [interactive, I.ok.kind]
/-- a docstring -/
theorem ps_doc {x j pos pos'} : PS X (.Expr (.Constant (.str x) j pos) pos') tNext := fun _ s σ H _ I h => wpAny_Expr (Calls.Constant_str (show SP X _ _ .next { s with toks := s.toks + 1 } from ⟨σ, H, I.tok _, h⟩)) I.quiet
/-- an expression whose value is dropped -/
def tDrop (te : TE) : TS := fun D σ H => te σ H fun _ H1 => D.nx σ H1
theorem ps_expr (he : PE X e te) (hs : swapsWith e none pos.line X.env = pure false := by rfl) : PS X (.Expr e pos) (tDrop te) := by
  intro pins s σ H D I h
  exact wpAny_Expr_any (thn (he pins s σ H _ I h) fun v s1 ⟨x, H1, I1, r1, q1⟩ => ⟨σ, H1, I1, q1⟩) I.quiet hs
def tRet (te : TE) : TS := fun D σ H => te σ H D.rt
theorem ps_ret (he : PE X e te) : PS X (.Return (some e) pos) (tRet te) := by
  intro pins s σ H D I h
  exact wpAny_Return_some (thn (he pins s σ H _ I h) fun v s1 ⟨x, H1, I1, r1, q1⟩ => ⟨x, σ, H1, I1, r1, q1⟩)
def tRetN : TS := fun D _ H => D.rt .non H
theorem ps_retN : PS X (.Return none pos) tRetN := fun _ _ σ H _ I h => wpAny_Return_none ⟨.non, σ, H, I, rfl, h⟩
def tIfS (c : TT) (t u : TS) : TS := fun D σ H => c σ H fun b H1 => if b = true then t D σ H1 else u D σ H1
theorem ps_if {c : Expr} {a b : List Stmt} {tc : TT} (hc : PT X c tc) (ha : PSs X a t) (hb : PSs X b u) : PS X (.If c a b pos) (tIfS tc t u) := by
  intro pins s σ H D I h
  refine wpAny_If (thn (hc pins s σ H _ I h) fun d s1 ⟨H1, I1, q1⟩ => ?_)
  cases d with
  | true => exact ha pins s1 σ H1 D I1 q1
  | false => exact hb pins s1 σ H1 D I1 q1
/-- code that the proof never comes to -/
def tNever : TS := fun _ _ _ => False
theorem ps_never : PS X st tNever := fun _ _ _ _ _ _ h => h.elim
theorem pss_never {sts : List Stmt} : PSs X sts tNever := fun _ _ _ _ _ _ h => h.elim
end

/-! ### targets -/
abbrev TG := V → St → Hp → (St → Hp → Prop) → Prop
abbrev TGs := List V → St → Hp → (St → Hp → Prop) → Prop
def PG (X : Cx) (target : Expr) (t : TG) : Prop :=
  ∀ (pins : List (Addr × Obj)) (s : Shared) (σ : St) (H : Hp) (v : V) (u : Value) (Q : St → Hp → Prop), Inv X pins σ H s → RelV v u → t v σ H Q →
    wpAny (model X.prog X.w) X.A (assign target X.env u) (fun _ s' => ∃ σ' H', Inv X pins σ' H' s' ∧ Q σ' H') X.xe s
/-- several targets, one after another -/
def PGs (X : Cx) (ts : List Expr) (t : TGs) : Prop :=
  ∀ (pins : List (Addr × Obj)) (s : Shared) (σ : St) (H : Hp) (vs : List V) (us : List Value) (Q : St → Hp → Prop), Inv X pins σ H s → Vals vs us → t vs σ H Q →
    wpAny (model X.prog X.w) X.A (assignInOrder ((assignEach ts X.env).map (·.2)) us) (fun _ s' => ∃ σ' H', Inv X pins σ' H' s' ∧ Q σ' H') X.xe s
/-- o[i] = v, by values -/
abbrev TSet := V → V → V → Hp → (Hp → Prop) → Prop
def PSet (X : Cx) (t : TSet) : Prop :=
  ∀ (pins : List (Addr × Obj)) (s : Shared) (σ : St) (H : Hp) (o i v : V) (ov iv u : Value) (Q : Hp → Prop), Inv X pins σ H s → RelV o ov → RelV i iv → RelV v u → t o i v H Q →
    wpAny (model X.prog X.w) X.A (setItem ov iv u) (fun _ s' => ∃ H', Inv X pins σ H' s' ∧ Q H') X.xe s
/-- a op= b, by values -/
abbrev TIp := V → V → Hp → VK → Prop
def PIp (X : Cx) (op : Operator) (t : TIp) : Prop :=
  ∀ (pins : List (Addr × Obj)) (s : Shared) (σ : St) (H : Hp) (x y : V) (v u : Value) (Q : VK), Inv X pins σ H s → RelV x v → RelV y u → t x y H Q →
    wpAny (model X.prog X.w) X.A (inplaceOp op v u) (EP X pins σ Q) X.xe s
section
variable {X : Cx} {pos : Pos}
def gName (i : Nat) : TG := fun v σ H Q => Q (σ.set i (some v)) H
theorem pg_name {i : Nat} {x : Str} (hN : X.N.Nodup) (hi : X.N[i]? = some x) (hx : Loc X.env.scope x) (hf : X.fn x = true ∨ X.env.scope.names.lookup x = some .local := by first | exact .inl rfl | exact .inr rfl | assumption) : PG X (.Name x pos) (gName i) := by
  intro pins s σ H v u Q I r h
  exact wpAny_assign_Name (store_ok I hN hi hx r (fun s' I' => ⟨_, H, I', h⟩) hf)
def gNil : TGs := fun vs σ H Q => vs = [] ∧ Q σ H
def gCons (t : TG) (u : TGs) : TGs := fun vs σ H Q => ∃ v r, vs = v :: r ∧ t v σ H fun σ' H' => u r σ' H' Q
theorem pgs_nil : PGs X [] gNil := by
  intro pins s σ H vs us Q I r h
  obtain ⟨e, h⟩ := h
  subst e
  cases r
  exact assignInOrder_nil ⟨σ, H, I, h⟩
theorem pgs_cons {e : Expr} {es : List Expr} {t : TG} {u : TGs} (h1 : PG X e t) (h2 : PGs X es u)
    (hs : (assignEach (e :: es) X.env).map (·.2) = assign e X.env :: (assignEach es X.env).map (·.2) := by rfl) : PGs X (e :: es) (gCons t u) := by
  intro pins s σ H vs us Q I r h
  obtain ⟨v, vr, e1, h⟩ := h
  subst e1
  cases r with
  | cons r rr =>
    rw [hs]
    refine assignInOrder_cons (thn (h1 pins s σ H _ _ _ I r h) fun _ s1 ⟨σ1, H1, I1, q1⟩ => ?_)
    exact h2 pins s1 σ1 H1 _ _ Q I1 rr q1
/-- (a, b, ..) = a tuple of that length -/
def gTup (K : PySem.W.Frag) (n : Nat) (t : TGs) : TG := fun v σ H Q => ∃ a xs, v = .ref a ∧ SqT K H a xs ∧ xs.length = n ∧ t xs σ H Q
theorem pg_tup {es : List Expr} {k : Nat} {t : TGs} {n : Nat} (hc : X.calm = true) (h : PGs X es t)
    (hn : (assignEach es X.env).length = n := by rfl) (hst : (assignEach es X.env).findIdx? (·.1) = none := by rfl) : PG X (.Tuple es k pos) (gTup X.K n t) := by
  intro pins s σ H v u Q I r hw
  obtain ⟨a, xs, e1, hq, hl, hw⟩ := hw
  subst e1
  cases r
  obtain ⟨its, rv, ht, hz⟩ := I.tuple hq
  refine assign_Tuple_tuple (I.ok.hd hc) ht (by simp [hn, ← hl, rv.length]) hst fun h' hx => ?_
  have I1 : Inv X pins σ H { s with heap := h' } := I.kept (t' := s.toks) fun b o e => hx b o (Nat.ne_of_lt (Heap.lt_size e)) e
  exact h pins _ σ H xs _ Q I1 (by simpa using rv) hw
/-- o[i] = .. -/
def gSub (to ti : TE) (t : TSet) : TG := fun v σ H Q => to σ H fun o H1 => ti σ H1 fun i H2 => t o i v H2 fun H3 => Q σ H3
theorem pg_sub {o i : Expr} {to ti : TE} {t : TSet} (ho : PE X o to) (hi : PE X i ti) (hs : PSet X t)
    (ha : ∀ v, assign (.Subscript o i pos) X.env v = (do
      let ov ← holding [v] (eval o X.env)
      let iv ← holding [v, ov] (eval i X.env)
      standAt pos
      holding [v, ov, iv] (setItem ov iv v)
      release [v, ov, iv] []) := by intro _; rfl) : PG X (.Subscript o i pos) (gSub to ti t) := by
  intro pins s σ H v u Q I r h
  rw [ha]
  refine wpAny_bind (wpAny_holding (thn (ho pins s σ H _ I h) fun ov s1 ⟨x, H1, I1, r1, q1⟩ => ?_))
  refine wpAny_bind (wpAny_holding (thn (hi pins s1 σ H1 _ I1 q1) fun iv s2 ⟨y, H2, I2, r2, q2⟩ => ?_))
  refine wpAny_bind (wpAny_standAt (wpAny_bind (wpAny_holding (thn (hs pins s2 σ H2 x y v ov iv u _ I2 r1 r2 r q2) fun _ s3 ⟨H3, I3, q3⟩ => ?_))))
  exact wpAny_release ⟨σ, H3, I3, q3⟩
/-- target = value -/
def tAsg (te : TE) (g : TG) : TS := fun D σ H => te σ H fun x H1 => g x σ H1 D.nx
theorem ps_asg {tg e : Expr} {te : TE} {g : TG} (he : PE X e te) (hg : PG X tg g) (hs : swapsWithSole [tg] e pos.line X.env = pure false := by rfl) (hw : swappedStores [tg] e X.env = pure none := by rfl)
    (h1 : (assignEach [tg] X.env).map (·.2) = [assign tg X.env] := by rfl) : PS X (.Assign [tg] e pos) (tAsg te g) := by
  intro pins s σ H D I h
  refine wpAny_Assign_stores (thn (he pins s σ H _ I h) fun v s1 ⟨x, H1, I1, r1, q1⟩ => ?_) hs hw
  rw [h1]
  exact thn (hg pins s1 σ H1 x v _ I1 r1 q1) fun _ s2 q => q
/-- name = value -/
theorem ps_set {i : Nat} {x : Str} {e : Expr} {te : TE} {pos' : Pos} (hN : X.N.Nodup) (hi : X.N[i]? = some x) (hx : Loc X.env.scope x) (he : PE X e te) (hs : swapsWith e (some (.Name x pos')) pos.line X.env = pure false := by rfl) (hf : X.fn x = true ∨ X.env.scope.names.lookup x = some .local := by first | exact .inl rfl | exact .inr rfl | assumption) :
    PS X (.Assign [.Name x pos'] e pos) (tAsg te (gName i)) := by
  intro pins s σ H D I h
  refine wpAny_Assign_Name (thn (he pins s σ H _ I h) fun v s1 ⟨y, H1, I1, r1, q1⟩ => ?_) hs
  exact store_ok I1 hN hi hx r1 (fun s2 I2 => ⟨_, H1, I2, q1⟩) hf
/-- a, b = x, y with plain local names: stored from the right; the pair itself is not tracked (the opening rows as in PyProof/Rows/TupAssign.lean:23) -/
def tPar (i j : Nat) (ta : TA) : TS := fun D σ H => ta σ H fun vs H1 => ∃ v w, vs = [v, w] ∧ D.nx ((σ.set i (some v)).set j (some w)) H1
theorem ps_par {i j : Nat} {x y : Str} {a b : Expr} {ta : TA} {px py pt : Pos} {kt k2 pt2} (hc : X.calm = true) (hN : X.N.Nodup) (hi : X.N[i]? = some x) (hj : X.N[j]? = some y) (hij : i ≠ j)
    (hx : X.env.scope.names.lookup x = some .local) (hy : X.env.scope.names.lookup y = some .local) (ha : PA X [a, b] ta)
    (hw : swappedStores [.Tuple [.Name x px, .Name y py] kt pt] (.Tuple [a, b] k2 pt2) X.env = pure (some [x, y]))
    (hs : swapsWithSole [.Tuple [.Name x px, .Name y py] kt pt] (.Tuple [a, b] k2 pt2) pos.line X.env = pure false := by rfl) :
    PS X (.Assign [.Tuple [.Name x px, .Name y py] kt pt] (.Tuple [a, b] k2 pt2) pos) (tPar i j ta) := by
  intro pins s σ H D I h
  rw [exec_Assign_arm]
  refine wpAny_bind (wpAny_standAt ?_)
  rw [hs]
  refine wpAny_bind (wpAny_pure ?_)
  rw [if_neg (by decide)]
  refine wpAny_bind (Tuple_ (thn (ha _ pins s σ H _ I h) fun us s1 ⟨vs, H1, I1, r1, q1⟩ => ?_))
  obtain ⟨v, w, e1, q1⟩ := q1
  subst e1
  obtain ⟨u1, u2, rfl, rv, rw'⟩ : ∃ u1 u2, us = [u1, u2] ∧ RelV v u1 ∧ RelV w u2 := by
    cases r1 with
    | cons p q =>
      cases q with
      | cons p' q' =>
        cases q'
        exact ⟨_, _, rfl, p, p'⟩
  refine wpAny_newObj_type ?_ (by show 2 ≤ sizeLine; decide)
  have I2 : Inv X pins σ H1 { s1 with heap := s1.heap.push { cls := .type "tuple", data := .seq [u1, u2].toArray } } := I1.kept (t' := s1.toks) fun b o e => Heap.get?_push_of_some _ e
  rw [hw]
  refine wpAny_bind (wpAny_pure ?_)
  show wpAny (model X.prog X.w) X.A (do rule "assign.swapped-stores"; let items ← unpackItems (.ref s1.heap.objs.size) 2 none; assignInOrder [fun v => bindName X.env y v, fun v => bindName X.env x v] items.reverse; pure Flow.next) _ _ _
  refine wpAny_bind (wpAny_rule (wpAny_bind (unpackItems_tuple (items := #[u1, u2]) (I.ok.hd hc) (IsTup.new s1.heap _) fun h' hx' => ?_)))
  have I3 := I2.kept (h' := h') (t' := s1.toks) fun b o e => hx' b o (Nat.ne_of_lt (Heap.lt_size e)) e
  show wpAny _ _ (assignInOrder [fun v => bindName X.env y v, fun v => bindName X.env x v] [u2, u1] >>= fun _ => pure Flow.next) _ _ _
  refine wpAny_bind (assignInOrder_cons (wpAny_bindName (store_ok I3 hN hj (.inl hy) rw' (fun s2 I4 => ?_) (.inr hy))))
  refine assignInOrder_cons (wpAny_bindName (store_ok I4 hN hi (.inl hx) rv (fun s3 I5 => assignInOrder_nil (wpAny_pure ?_)) (.inr hx)))
  rw [List.set_comm _ _ (Ne.symm hij)] at I5
  exact ⟨_, H1, I5, q1⟩
/-- name op= e -/
def tAug (i : Nat) (te : TE) (ti : TIp) : TS := fun D σ H => ∃ x, σ[i]? = some (some x) ∧ te σ H fun y H1 => ti x y H1 fun z H2 => D.nx (σ.set i (some z)) H2
theorem ps_aug {i : Nat} {x : Str} {e : Expr} {te : TE} {op : Operator} {ti : TIp} {pos' : Pos} (hN : X.N.Nodup) (hi : X.N[i]? = some x) (hx : Loc X.env.scope x) (he : PE X e te) (ho : PIp X op ti) (hf : X.fn x = true ∨ X.env.scope.names.lookup x = some .local := by first | exact .inl rfl | exact .inr rfl | assumption) :
    PS X (.AugAssign (.Name x pos') op e pos) (tAug i te ti) := by
  intro pins s σ H D I h
  obtain ⟨v, e1, h⟩ := h
  obtain ⟨m, hn, hl⟩ := I.loc
  have vis : Vis X.env.scope x := by rcases hx with k | k; exact .inl k; exact .inr (.inl k)
  obtain ⟨u, r, l⟩ := hl i x v hi e1 vis
  refine wpAny_AugAssign_Name ?_
  have go : wpAny (model X.prog X.w) X.A (eval e X.env) (fun w s₂ => wpAny (model X.prog X.w) X.A (inplaceOp op u w) (fun r s₃ => wpAny (model X.prog X.w) X.A (storeName X.env x r) (fun _ => SP X pins D .next) X.xe s₃) X.xe s₂) X.xe s := by
    refine thn (he pins s σ H _ I h) fun w s1 ⟨y, H1, I1, r1, q1⟩ => ?_
    refine thn (ho pins s1 σ H1 v y u w _ I1 r r1 q1) fun z s2 ⟨zv, H2, I2, r2, q2⟩ => ?_
    exact store_ok I2 hN hi hx r2 (fun s3 I3 => ⟨_, H2, I3, q2⟩) hf
  rcases l with ⟨hk, hm⟩ | ⟨hk, c, hc, hcell⟩
  · exact wpAny_loadName_local I.ok.kind hk hn hm go
  · rcases hk with hk | hk
    · exact wpAny_loadName_cell I.ok.kind hk hc hcell go
    · rcases hx with k | k
      · have : X.env.scope.names.lookup x = some .free := hk
        rw [k] at this; cases this
      · have : X.env.scope.names.lookup x = some .free := hk
        rw [k] at this; cases this
/-- o[i] op= e -/
def tAugS (to ti te : TE) (tget : V → V → Hp → VK → Prop) (tip : TIp) (tset : TSet) : TS := fun D σ H => to σ H fun o H1 => ti σ H1 fun i H2 => tget o i H2 fun x H3 => te σ H3 fun y H4 => tip x y H4 fun z H5 => tset o i z H5 fun H6 => D.nx σ H6
/-- o[i], by values -/
def PGet (X : Cx) (t : V → V → Hp → VK → Prop) : Prop :=
  ∀ (pins : List (Addr × Obj)) (s : Shared) (σ : St) (H : Hp) (o i : V) (ov iv : Value) (Q : VK), Inv X pins σ H s → RelV o ov → RelV i iv → t o i H Q →
    wpAny (model X.prog X.w) X.A (getItem ov iv) (EP X pins σ Q) X.xe s
theorem ps_augS {o i e : Expr} {to ti te : TE} {tget : V → V → Hp → VK → Prop} {tip : TIp} {tset : TSet} {op : Operator} {tpos : Pos} (ho : PE X o to) (hi : PE X i ti) (hg : PGet X tget) (he : PE X e te) (hp : PIp X op tip) (hs : PSet X tset)
    (ha : ∀ ov iv new, augStore i ov iv new = (do holding [new, ov, iv] (setItem ov iv new); release [new, ov, iv] []; pure .next) := by intros; rfl) : PS X (.AugAssign (.Subscript o i tpos) op e pos) (tAugS to ti te tget tip tset) := by
  intro pins s σ H D I h
  refine wpAny_AugAssign_SubscriptAny (thn (ho pins s σ H _ I h) fun ov s1 ⟨x1, H1, I1, r1, q1⟩ => ?_) ha
  refine thn (hi pins s1 σ H1 _ I1 q1) fun iv s2 ⟨x2, H2, I2, r2, q2⟩ => ?_
  refine thn (hg pins s2 σ H2 x1 x2 ov iv _ I2 r1 r2 q2) fun old s3 ⟨x3, H3, I3, r3, q3⟩ => ?_
  refine thn (he pins s3 σ H3 _ I3 q3) fun v s4 ⟨x4, H4, I4, r4, q4⟩ => ?_
  refine thn (hp pins s4 σ H4 x3 x4 old v _ I4 r3 r4 q4) fun new s5 ⟨x5, H5, I5, r5, q5⟩ => ?_
  exact thn (hs pins s5 σ H5 x1 x2 x5 ov iv new _ I5 r1 r2 r5 q5) fun _ s6 ⟨H6, I6, q6⟩ => ⟨σ, H6, I6, q6⟩
/-- ints -/
def ipI (f : Int → Int → Int) : TIp := fun x y H Q => ∃ i j, x = .int i ∧ y = .int j ∧ Q (.int (f i j)) H
theorem ip_add : PIp X .Add (ipI fun i j => i + j) := by
  intro pins s σ H x y v u Q I r1 r2 h
  obtain ⟨i, j, e1, e2, q⟩ := h
  subst e1; subst e2
  obtain ⟨t, rfl⟩ := r1
  obtain ⟨t', rfl⟩ := r2
  exact iadd_int ⟨.int _, H, I.tok _, ⟨_, rfl⟩, q⟩
theorem ip_sub : PIp X .Sub (ipI fun i j => i - j) := by
  intro pins s σ H x y v u Q I r1 r2 h
  obtain ⟨i, j, e1, e2, q⟩ := h
  subst e1; subst e2
  obtain ⟨t, rfl⟩ := r1
  obtain ⟨t', rfl⟩ := r2
  exact isub_int ⟨.int _, H, I.tok _, ⟨_, rfl⟩, q⟩
end

/-! ### while -/
section
variable {X : Cx} {pos : Pos}
/-- the invariant W with its measure -/
def tWhile (c : TT) (tb : TS) : TS := fun D σ H => ∃ W : Nat → St → Hp → Prop, (∃ m, W m σ H) ∧ ∀ m σ H, W m σ H →
  c σ H fun b H1 => if b = true then ∃ N : St → Hp → Prop, (∀ σ' H', N σ' H' → ∃ m', m' < m ∧ W m' σ' H') ∧ tb { D with nx := N, ct := N, bk := D.nx } σ H1 else D.nx σ H1
theorem ps_while {c : Expr} {body : List Stmt} {tc : TT} {tb : TS} (hp : PassesOwn (model X.prog X.w) X.A X.env X.xe) (hc : PT X c tc) (hb : PSs X body tb) : PS X (.While c body [] pos) (tWhile tc tb) := by
  intro pins s σ H D I h
  obtain ⟨W, ⟨m0, w0⟩, turn⟩ := h
  refine wpAny_While (codeAny_whileLoop (fun n s' => ∃ σ' H', Inv X pins σ' H' s' ∧ W n σ' H') ?_ m0 ⟨σ, H, I, w0⟩)
  rintro n s1 ⟨σ1, H1, I1, w1⟩
  refine wpAny_passesOwn hp (thn (hc pins s1 σ1 H1 _ I1 (turn n σ1 H1 w1)) fun b s2 ⟨H2, I2, q2⟩ => ?_)
  cases b with
  | true =>
    obtain ⟨N, hN, q2⟩ := q2
    rw [if_pos rfl]
    refine wpAny_passesOwn hp (thn (hb pins s2 σ1 H2 _ I2 q2) fun f s3 q3 => ?_)
    cases f with
    | next =>
      obtain ⟨σ3, H3, I3, n3⟩ := q3
      obtain ⟨m', hm, w3⟩ := hN σ3 H3 n3
      exact ⟨m', hm, σ3, H3, I3, w3⟩
    | cont =>
      obtain ⟨σ3, H3, I3, n3⟩ := q3
      obtain ⟨m', hm, w3⟩ := hN σ3 H3 n3
      exact ⟨m', hm, σ3, H3, I3, w3⟩
    | brk => exact q3
    | ret v => exact q3
  | false =>
    rw [if_neg Bool.false_ne_true]
    exact wpAny_execs_nil ⟨σ1, H2, I2, q2⟩
end

/-! ### what a loop or a comprehension walks -/
/-- at turn i: it yields x (the heap may grow), or it stops -/
structure It where
  go : Nat → Hp → Prop
  yld : Nat → Hp → V → Hp → Prop
  stop : Nat → Hp → Prop
/-- the iterator's own objects may turn: they are not the frame's, not pinned, younger than the entry (or a comprehension's own) -/
def FpOk (X : Cx) (pins : List (Addr × Obj)) (H : Hp) (b : Addr) : Prop :=
  H b = none ∧ b ≠ X.env.locals ∧ b ∉ X.fs ∧ (b ∈ X.ex ∨ X.s₀.heap.objs.size ≤ b) ∧ (∀ x c, X.env.cells.lookup x = some c → c ≠ b) ∧ ∀ p ∈ X.pn ++ pins, p.1 ≠ b
theorem Inv.fpOk {X : Cx} {pins : List (Addr × Obj)} {σ : St} {H H' : Hp} {s : Shared} {b : Addr} (I : Inv X pins σ H s) (hb : s.heap.objs.size ≤ b) (hn : H' b = none) : FpOk X pins H' b := by
  refine ⟨hn, Nat.ne_of_gt (Nat.lt_of_lt_of_le I.lt hb), I.nofs hb, .inr (Nat.le_trans I.sz hb), fun x c e z => ?_, fun p hp z => ?_⟩
  · obtain ⟨v, q⟩ := I.cell x c e
    exact absurd (Nat.lt_of_lt_of_le q.lt (by rw [z]; exact hb)) (Nat.lt_irrefl _)
  · exact absurd (Nat.lt_of_lt_of_le (Heap.lt_size (I.pin p hp).1) (by rw [z]; exact hb)) (Nat.lt_irrefl _)
structure Turn (P : Program) (w : World) (K : PySem.W.Frag) (tg : Expr) (J : It) (fp : List Addr) (it : Addr) (tn : Nat → Heap → Prop) : Prop where
  mem : it ∈ fp
  obj : ∀ i h, tn i h → ∀ b ∈ fp, ∃ o, h.get? b = some o ∧ ∀ v, o.data ≠ .cell v
  keep : ∀ i h h', tn i h → (∀ b ∈ fp, ∀ o, h.get? b = some o → h'.get? b = some o) → tn i h'
  item : ∀ (X : Cx), X.prog = P → X.w = w → X.K = K → X.calm = true → ∀ (i : Nat) (pins : List (Addr × Obj)) (s : Shared) (σ : St) (H : Hp) (E : Value → Shared → Prop), Inv X pins σ H s → (∀ b ∈ fp, FpOk X pins H b) → tn i s.heap → J.go i H →
    wpAny (model P w) X.A (pyNext (.ref it)) (fun r s1 => ∃ u, r = some u ∧
      wpAny (model P w) X.A (letOwnedTupleGo tg (.ref it) u) (fun _ s2 => ∃ x H', Inv X pins σ H' s2 ∧ RelV x u ∧ J.yld i H x H' ∧ tn (i + 1) s2.heap ∧ ∀ b ∈ fp, H' b = none) E s1) E s
  done : ∀ (X : Cx), X.prog = P → X.w = w → X.K = K → X.calm = true → ∀ (i : Nat) (pins : List (Addr × Obj)) (s : Shared) (σ : St) (H : Hp) (E : Value → Shared → Prop), Inv X pins σ H s → (∀ b ∈ fp, FpOk X pins H b) → tn i s.heap → J.stop i H →
    wpAny (model P w) X.A (pyNext (.ref it)) (fun r s1 => r = none ∧ Inv X pins σ H s1) E s
  self : ∀ (A : Around) (i : Nat) (s : Shared) (Q : Value → Shared → Prop) (E : Value → Shared → Prop), tn i s.heap → Q (.ref it) s → wpAny (model P w) A (pyIter (.ref it)) Q E s
abbrev TI := St → Hp → (It → Hp → Prop) → Prop
/-- an iterator has come -/
def PIE (X : Cx) (pins : List (Addr × Obj)) (σ : St) (tg : Expr) (R : It → Hp → Prop) (itv : Value) (s2 : Shared) : Prop :=
  ∃ (it : Addr) (fp : List Addr) (tn : Nat → Heap → Prop) (J : It) (H' : Hp), itv = .ref it ∧ Inv X pins σ H' s2 ∧ Turn X.prog X.w X.K tg J fp it tn ∧ tn 0 s2.heap ∧ (∀ b ∈ fp, FpOk X pins H' b) ∧ R J H'
def PI (X : Cx) (tg iter : Expr) (wi : TI) : Prop :=
  ∀ (pins : List (Addr × Obj)) (s : Shared) (σ : St) (H : Hp) (R : It → Hp → Prop), Inv X pins σ H s → wi σ H R →
    wpAny (model X.prog X.w) X.A (eval iter X.env) (fun v s1 => wpAny (model X.prog X.w) X.A (pyIter v) (PIE X pins σ tg R) X.xe s1) X.xe s

/-- the step ahead of the store is nothing for an iterator that keeps no tuple -/
theorem go_of {M : Model} {A : Around} {E : Value → Shared → Prop} {s : Shared} {tg : Expr} {it : Addr} {u : Value} {o : Obj} {n : String} {vs : Array Value} {Q : Unit → Shared → Prop} (ho : s.heap.get? it = some o) (hc : o.cls = .type n) (hd : o.data = .fields vs)
    (hn : ["enumerate", "zip", "dict_itemiterator", "dict_reverseitemiterator", "odict_iterator", "itertools.zip_longest", "itertools.pairwise"].contains n = false) (hQ : Q () s) : wpAny M A (letOwnedTupleGo tg (.ref it) u) Q E s := by
  unfold letOwnedTupleGo
  cases tg <;> first
    | exact wpAny_pure hQ
    | (cases u <;> first
        | exact wpAny_pure hQ
        | (refine wpAny_bind (wpAny_load ho ?_)
           rw [hc, hd]
           show wpAny M A (if (["enumerate", "zip", "dict_itemiterator", "dict_reverseitemiterator", "odict_iterator", "itertools.zip_longest", "itertools.pairwise"].contains n && vs[0]? == some (rawInt _)) = true then _ else _) Q E s
           rw [if_neg (by intro h; rw [hn, Bool.false_and] at h; cases h)]
           exact wpAny_pure hQ))

/-- the list at a, as it stands at each turn (a loop may append to it) -/
def Itl (K : PySem.W.Frag) (a : Addr) : It :=
  ⟨fun i H => ∃ xs x, SqL K H a xs ∧ xs[i]? = some x, fun i H x H' => H' = H ∧ ∀ xs, SqL K H a xs → xs[i]? = some x, fun i H => ∃ xs, SqL K H a xs ∧ xs.length ≤ i⟩
def Itt (K : PySem.W.Frag) (a : Addr) : It :=
  ⟨fun i H => ∃ xs x, SqT K H a xs ∧ xs[i]? = some x, fun i H x H' => H' = H ∧ ∀ xs, SqT K H a xs → xs[i]? = some x, fun i H => ∃ xs, SqT K H a xs ∧ xs.length ≤ i⟩
/-- lo, lo + 1, .. (n of them) -/
def Itr (lo : Int) (n : Nat) : It := ⟨fun i _ => i < n, fun i H x H' => H' = H ∧ x = .int (lo + i), fun i _ => n ≤ i⟩
theorem turn_list {P : Program} {w : World} {K : PySem.W.Frag} {tg : Expr} (a it : Addr) : Turn P w K tg (Itl K a) [it] it (fun i h => h.IsListIter it a i) where
  mem := by simp
  obj := fun i h st b hb => by
    have e : b = it := by simpa using hb
    subst e
    obtain ⟨o, e, c, d⟩ := st
    exact ⟨o, e, fun v z => by rw [d] at z; cases z⟩
  keep := fun i h h' st k => st.at fun o e => k it (by simp) o e
  item := by
    intro X hP hw hK hc i pins s σ H E I hf st hg
    subst hP hw hK
    obtain ⟨xs, x, hq, hx⟩ := hg
    obtain ⟨its, rv, p, hz⟩ := I.list hq
    obtain ⟨u, hu, ru⟩ := rv.get hx
    obtain ⟨f0, f1, f2, f3, f4, f5⟩ := hf it (by simp)
    refine wpAny_pyNext_list_item st p.isList (x := u) (by simpa using hu) fun h' st' sb => ?_
    have I1 : Inv X pins σ H { s with heap := h' } := I.turned (t' := s.toks) (fun b o hb e => (sb.2 b hb).trans e) f0 f1 f3 f4 f5
    obtain ⟨o, e, c, d⟩ := id st'
    exact ⟨u, rfl, go_of (s := { s with heap := h' }) e c d (by decide) ⟨x, H, I1, ru, ⟨rfl, fun ys hy => by rw [I.list_inj hy hq]; exact hx⟩, st', fun b hb => (hf b hb).1⟩⟩
  done := by
    intro X hP hw hK hc i pins s σ H E I hf st hg
    subst hP hw hK
    obtain ⟨xs, hq, hx⟩ := hg
    obtain ⟨its, rv, p, hz⟩ := I.list hq
    obtain ⟨f0, f1, f2, f3, f4, f5⟩ := hf it (by simp)
    have hl := rv.length
    exact wpAny_pyNext_list_end (I.ok.hd hc) st p.isList (by simp; omega) fun h' eb => ⟨rfl, I.turned (t' := s.toks) (fun b o hb e => eb b o hb e) f0 f1 f3 f4 f5⟩
  self := fun _ _ _ _ _ st h => wpAny_pyIter_listiter st h
theorem turn_tuple {P : Program} {w : World} {K : PySem.W.Frag} {tg : Expr} (a it : Addr) : Turn P w K tg (Itt K a) [it] it (fun i h => h.IsTupleIter it a i) where
  mem := by simp
  obj := fun i h st b hb => by
    have e : b = it := by simpa using hb
    subst e
    obtain ⟨o, e, c, d⟩ := st
    exact ⟨o, e, fun v z => by rw [d] at z; cases z⟩
  keep := fun i h h' st k => st.at fun o e => k it (by simp) o e
  item := by
    intro X hP hw hK hc i pins s σ H E I hf st hg
    subst hP hw hK
    obtain ⟨xs, x, hq, hx⟩ := hg
    obtain ⟨its, rv, p, hz⟩ := I.tuple hq
    obtain ⟨u, hu, ru⟩ := rv.get hx
    obtain ⟨f0, f1, f2, f3, f4, f5⟩ := hf it (by simp)
    refine wpAny_pyNext_tuple_item st (show s.heap.IsTuple a its.toArray from p) (x := u) (by simpa using hu) fun h' st' sb => ?_
    have I1 : Inv X pins σ H { s with heap := h' } := I.turned (t' := s.toks) (fun b o hb e => (sb.2 b hb).trans e) f0 f1 f3 f4 f5
    obtain ⟨o, e, c, d⟩ := id st'
    exact ⟨u, rfl, go_of (s := { s with heap := h' }) e c d (by decide) ⟨x, H, I1, ru, ⟨rfl, fun ys hy => by rw [I.tuple_inj hy hq]; exact hx⟩, st', fun b hb => (hf b hb).1⟩⟩
  done := by
    intro X hP hw hK hc i pins s σ H E I hf st hg
    subst hP hw hK
    obtain ⟨xs, hq, hx⟩ := hg
    obtain ⟨its, rv, p, hz⟩ := I.tuple hq
    obtain ⟨f0, f1, f2, f3, f4, f5⟩ := hf it (by simp)
    have hl := rv.length
    exact wpAny_pyNext_tuple_end (I.ok.hd hc) st (show s.heap.IsTuple a its.toArray from p) (by simp; omega) fun h' eb => ⟨rfl, I.turned (t' := s.toks) (fun b o hb e => eb b o hb e) f0 f1 f3 f4 f5⟩
  self := fun _ _ _ _ _ st h => wpAny_pyIter_tupleiter st h
theorem turn_range {P : Program} {w : World} {K : PySem.W.Frag} {tg : Expr} (it : Addr) (lo : Int) (n : Nat) : Turn P w K tg (Itr lo n) [it] it (fun i h => IsRangeIter h it (lo + (i : Nat) * 1) ((n : Int) - (i : Nat)) 1) where
  mem := by simp
  obj := fun i h st b hb => by
    have e : b = it := by simpa using hb
    subst e
    exact ⟨_, st, fun v z => by
      have z' : Data.fields _ = Data.cell v := z
      cases z'⟩
  keep := fun i h h' st k => k it (by simp) _ st
  item := by
    intro X hP hw hK hc i pins s σ H E I hf st hg
    subst hP hw hK
    obtain ⟨f0, f1, f2, f3, f4, f5⟩ := hf it (by simp)
    have W := Walks.range (prog := X.prog) (w := X.w) (I.ok.hd hc) it lo 1 n
    refine wpAny_with_toks (n := 1) I.tk (W.item i s _ _ hg st fun v h' tk hv st' kk htk => ?_)
    obtain ⟨t, rfl⟩ := hv
    have htk : 0 < tk := htk
    have I1 : Inv X pins σ H { s with heap := h', toks := tk } := I.turned (fun b o hb e => kk b o (by simpa using hb) e) f0 f1 f3 f4 f5
    refine ⟨_, rfl, go_of (s := { s with heap := h', toks := tk }) (n := "range_iterator") st' rfl rfl (by decide) ⟨.int (lo + i), H, I1, ⟨t, ?_⟩, ⟨rfl, rfl⟩, st', fun b hb => (hf b hb).1⟩⟩
    rw [Int.mul_one]
  done := by
    intro X hP hw hK hc i pins s σ H E I hf st hg
    subst hP hw hK
    obtain ⟨f0, f1, f2, f3, f4, f5⟩ := hf it (by simp)
    exact wpAny_pyNext_range_end (I.ok.hd hc) st (by have : n ≤ i := hg; omega) fun h' eb => ⟨rfl, I.turned (t' := s.toks) (fun b o hb e => eb b o hb e) f0 f1 f3 f4 f5⟩
  self := fun _ _ _ _ _ st h => wpAny_pyIter_rangeiter st h
end L2

namespace L2
open PySem PySem.Spec PyProof.Rows
section
variable {X : Cx} {tg : Expr}
def iList (K : PySem.W.Frag) (tl : TE) : TI := fun σ H R => tl σ H fun x H1 => ∃ a, x = .ref a ∧ (∃ xs, SqL K H1 a xs) ∧ R (Itl K a) H1
def iTup (K : PySem.W.Frag) (tl : TE) : TI := fun σ H R => tl σ H fun x H1 => ∃ a, x = .ref a ∧ (∃ xs, SqT K H1 a xs) ∧ R (Itt K a) H1
theorem pi_list {l : Expr} {tl : TE} (hl : PE X l tl) : PI X tg l (iList X.K tl) := by
  intro pins s σ H R I h
  refine thn (hl pins s σ H _ I h) fun v s1 ⟨x, H1, I1, r1, q1⟩ => ?_
  obtain ⟨a, e, ⟨xs, hq⟩, q⟩ := q1
  subst e
  cases r1
  obtain ⟨its, rv, p, hz⟩ := I1.list hq
  refine wpAny_pyIter_list p.isList ?_
  refine ⟨s1.heap.objs.size, [s1.heap.objs.size], _, _, H1, rfl, I1.kept (t' := s1.toks) fun b o e => Heap.get?_push_of_some _ e, turn_list a _, ⟨_, Heap.get?_push_size _ rfl, rfl, rfl⟩, fun b hb => ?_, q⟩
  have e : b = s1.heap.objs.size := by simpa using hb
  subst e
  exact I1.fpOk (Nat.le_refl _) (I1.hok.fresh (Nat.le_refl _))
theorem pi_tup {l : Expr} {tl : TE} (hl : PE X l tl) : PI X tg l (iTup X.K tl) := by
  intro pins s σ H R I h
  refine thn (hl pins s σ H _ I h) fun v s1 ⟨x, H1, I1, r1, q1⟩ => ?_
  obtain ⟨a, e, ⟨xs, hq⟩, q⟩ := q1
  subst e
  cases r1
  obtain ⟨its, rv, p, hz⟩ := I1.tuple hq
  refine wpAny_pyIter_tuple (show s1.heap.IsTuple a its.toArray from p) ?_
  refine ⟨s1.heap.objs.size, [s1.heap.objs.size], _, _, H1, rfl, I1.kept (t' := s1.toks) fun b o e => Heap.get?_push_of_some _ e, turn_tuple a _, ⟨_, Heap.get?_push_size _ rfl, rfl, rfl⟩, fun b hb => ?_, q⟩
  have e : b = s1.heap.objs.size := by simpa using hb
  subst e
  exact I1.fpOk (Nat.le_refl _) (I1.hok.fresh (Nat.le_refl _))
/-- a range object just made, walked -/
theorem range_it {pins : List (Addr × Obj)} {σ : St} {H : Hp} {s : Shared} {R : It → Hp → Prop} {E : Value → Shared → Prop} {lo hi : Int} {t u v : Tok} {tk : Nat} (htk : 0 < tk) (I : Inv X pins σ H s) (h1 : -(2 ^ 62) ≤ lo) (h2 : lo < 2 ^ 62) (h3 : -(2 ^ 62) ≤ hi) (h4 : hi < 2 ^ 62)
    (q : R (Itr lo (hi - lo).toNat) H) : wpAny (model X.prog X.w) X.A (pyIter (.ref s.heap.objs.size)) (PIE X pins σ tg R) E { s with heap := s.heap.push { cls := .type "range", data := .fields #[.int lo t, .int hi u, .int 1 v] }, toks := tk } := by
  refine wpAny_pyIter_range (IsRange.new ..) (small_one h1 h2 h3 h4) ?_
  have I1 : Inv X pins σ H { s with heap := s.heap.push { cls := .type "range", data := .fields #[.int lo t, .int hi u, .int 1 v] }, toks := tk } := I.kept fun b o e => Heap.get?_push_of_some _ e
  refine ⟨(s.heap.push { cls := .type "range", data := .fields #[.int lo t, .int hi u, .int 1 v] }).objs.size, [(s.heap.push { cls := .type "range", data := .fields #[.int lo t, .int hi u, .int 1 v] }).objs.size], _, _, H, rfl,
    I1.kept (t' := tk) fun b o e => Heap.get?_push_of_some _ e, turn_range _ lo (hi - lo).toNat, ?_, fun b hb => ?_, q⟩
  · have e1 : lo + ((0 : Nat) : Int) * 1 = lo := by simp
    have e2 : (((hi - lo).toNat : Nat) : Int) - ((0 : Nat) : Int) = Builtin.Range.rangeSize lo hi 1 := by rw [rangeSize_one]; split <;> omega
    show IsRangeIter _ _ (lo + ((0 : Nat) : Int) * 1) ((((hi - lo).toNat : Nat) : Int) - ((0 : Nat) : Int)) 1
    rw [e1, e2]
    exact Heap.get?_push_size _ rfl
  · have e : b = (s.heap.push { cls := .type "range", data := .fields #[.int lo t, .int hi u, .int 1 v] }).objs.size := by simpa using hb
    subst e
    exact I1.fpOk (Nat.le_refl _) (I1.hok.fresh (Nat.le_refl _))
def iRng1 (ta : TA) : TI := fun σ H R => ta σ H fun vs H1 => ∃ j : Int, vs = [.int j] ∧ -(2 ^ 62) ≤ j ∧ j < 2 ^ 62 ∧ R (Itr 0 j.toNat) H1
def iRng2 (ta : TA) : TI := fun σ H R => ta σ H fun vs H1 => ∃ i j : Int, vs = [.int i, .int j] ∧ (-(2 ^ 62) ≤ i ∧ i < 2 ^ 62 ∧ -(2 ^ 62) ≤ j ∧ j < 2 ^ 62) ∧ R (Itr i (j - i).toNat) H1
theorem pi_range1 {a : Expr} {ta : TA} {p pos : Pos} (hg : Gl X "range") (hm : X.mg "range" = none) (ha : PA X [a] ta) (hs : starEach [a] X.env = [(false, eval a X.env)] := by rfl) : PI X tg (.Call (.Name "range" p) [a] [] pos) (iRng1 ta) := by
  intro pins s σ H R I h
  refine Call_ (ld_blt I hg hm boot_range (PyProof.Rows.callWith_type1 (thn (ha pos pins s σ H _ I h) fun us s1 ⟨vs, H1, I1, r1, q1⟩ => ?_) hs rfl))
  obtain ⟨j, e, q1, q2, q⟩ := q1
  subst e
  cases r1 with
  | cons r rr =>
    cases rr
    obtain ⟨t, rfl⟩ := r
    exact call_range_1 (range_it (by first | exact I1.tk | exact Nat.succ_pos _) I1 (by omega) (by omega) q1 q2 (by simpa using q))
theorem pi_range2 {a b : Expr} {ta : TA} {p pos : Pos} (hg : Gl X "range") (hm : X.mg "range" = none) (ha : PA X [a, b] ta) (hs : starEach [a, b] X.env = [(false, eval a X.env), (false, eval b X.env)] := by rfl) (hs2 : starEach [b] X.env = [(false, eval b X.env)] := by rfl) :
    PI X tg (.Call (.Name "range" p) [a, b] [] pos) (iRng2 ta) := by
  intro pins s σ H R I h
  refine Call_ (ld_blt I hg hm boot_range (PyProof.Rows.callWith_type1 (thn (ha pos pins s σ H _ I h) fun us s1 ⟨vs, H1, I1, r1, q1⟩ => ?_) (by rw [hs, hs2]) (by rw [hs2]; rfl)))
  obtain ⟨i, j, e, ⟨q1, q2, q3, q4⟩, q⟩ := q1
  subst e
  cases r1 with
  | cons r rr =>
    cases rr with
    | cons r' rr =>
      cases rr
      obtain ⟨t, rfl⟩ := r
      obtain ⟨t', rfl⟩ := r'
      exact call_range_2 (range_it (by first | exact I1.tk | exact Nat.succ_pos _) I1 q1 q2 q3 q4 q)

/-! ### for -/
/-- W: the invariant by the turn and a measure; N: what the body is to reach -/
def tFor (wi : TI) (g : TG) (tb : TS) : TS := fun D σ H => wi σ H fun J H1 => ∃ W : Nat → Nat → St → Hp → Prop, (∃ m, W 0 m σ H1) ∧ ∀ i m σ H, W i m σ H →
  (J.stop i H ∧ D.nx σ H) ∨ (J.go i H ∧ ∃ N : St → Hp → Prop, (∀ σ' H', N σ' H' → ∃ m', m' < m ∧ W (i + 1) m' σ' H') ∧ ∀ x H', J.yld i H x H' → g x σ H' fun σ2 H2 => tb { D with nx := N, ct := N, bk := D.nx } σ2 H2)
/-- the records at fp as they stand -/
def pinsAt (fp : List Addr) (h : Heap) : List (Addr × Obj) := fp.filterMap fun b => (h.get? b).map fun o => (b, o)
theorem mem_pinsAt {fp : List Addr} {h : Heap} {b : Addr} {o : Obj} (hb : b ∈ fp) (e : h.get? b = some o) : (b, o) ∈ pinsAt fp h := List.mem_filterMap.mpr ⟨b, hb, by rw [e]; rfl⟩
theorem of_pinsAt {fp : List Addr} {h : Heap} {p : Addr × Obj} (hp : p ∈ pinsAt fp h) : p.1 ∈ fp ∧ h.get? p.1 = some p.2 := by
  obtain ⟨b, hb, e⟩ := List.mem_filterMap.mp hp
  cases q : h.get? b with
  | none => rw [q] at e; cases e
  | some o =>
    rw [q] at e
    have e' : (b, o) = p := Option.some.inj e
    subst e'
    exact ⟨hb, q⟩
theorem Inv.pinned {pins : List (Addr × Obj)} {σ : St} {H : Hp} {s : Shared} {fp : List Addr} (I : Inv X pins σ H s) (hf : ∀ b ∈ fp, FpOk X pins H b) (ho : ∀ b ∈ fp, ∃ o, s.heap.get? b = some o ∧ ∀ v, o.data ≠ .cell v) : Inv X (pins ++ pinsAt fp s.heap) σ H s :=
  I.pins_of fun p hp => (List.mem_append.mp hp).elim (fun z => I.pin p (List.mem_append_right _ z)) fun z => by
    obtain ⟨hb, e⟩ := of_pinsAt z
    obtain ⟨f0, f1, f2, _⟩ := hf p.1 hb
    obtain ⟨o, e', d⟩ := ho p.1 hb
    rw [e] at e'; cases e'
    exact ⟨e, f0, f1, f2, d⟩
theorem Inv.unpinned {pins pl : List (Addr × Obj)} {σ : St} {H : Hp} {s : Shared} (I : Inv X (pins ++ pl) σ H s) : Inv X pins σ H s := I.pins_of fun p hp => I.pin p (List.mem_append_right _ (List.mem_append_left _ hp))
theorem ps_for {iter : Expr} {body : List Stmt} {wi : TI} {g : TG} {tb : TS} {pos : Pos} (hp : PassesOwn (model X.prog X.w) X.A X.env X.xe) (hc : X.calm = true) (hi : PI X tg iter wi) (hg : PG X tg g) (hb : PSs X body tb)
    (hs : ∀ x, foldedSetIterable iter X.env x = pure x := by intro _; rfl) : PS X (.For tg iter body [] pos) (tFor wi g tb) := by
  intro pins s σ H D I h
  refine wpAny_For (thn (hi pins s σ H _ I h) fun v s1 h1 => thn h1 fun itv s2 h2 => ?_) hs
  obtain ⟨it, fp, tn, J, H2, e, I2, T, st2, f2, W, ⟨m0, w0⟩, turn⟩ := h2
  subst e
  -- what stays true of the iterator's objects through the loop
  have stat : ∀ {H' : Hp}, (∀ b ∈ fp, H' b = none) → ∀ b ∈ fp, FpOk X pins H' b := fun hn b hb => ⟨hn b hb, (f2 b hb).2⟩
  refine codeAny_forLoop_any (fun n s' => ∃ i σ' H', Inv X pins σ' H' s' ∧ tn i s'.heap ∧ (∀ b ∈ fp, H' b = none) ∧ W i n σ' H') ?_ m0 ⟨0, σ, H2, I2, st2, fun b hb => (f2 b hb).1, w0⟩
  rintro n s3 ⟨i, σ3, H3, I3, st3, fr3, w3⟩
  rcases turn i n σ3 H3 w3 with ⟨stop, qn⟩ | ⟨go, N, hN, step⟩
  · refine wpAny_passesOwn hp (thn (T.done X rfl rfl rfl hc i pins s3 σ3 H3 X.xe I3 (stat fr3) st3 stop) fun r s4 ⟨hr, I4⟩ => ?_)
    subst hr
    exact wpAny_execs_nil ⟨σ3, H3, I4, qn⟩
  · refine wpAny_passesOwn hp (thn (T.item X rfl rfl rfl hc i pins s3 σ3 H3 X.xe I3 (stat fr3) st3 go) fun r s4 ⟨u, hr, h4⟩ => ?_)
    subst hr
    refine wpAny_passesOwn hp (thn h4 fun _ s5 ⟨x, H5, I5, r5, y5, st5, fr5⟩ => ?_)
    have I5' := I5.pinned (stat fr5) (T.obj _ _ st5)
    refine wpAny_passesOwn hp (thn (hg _ s5 σ3 H5 x u _ I5' r5 (step x H5 y5)) fun _ s6 ⟨σ6, H6, I6, q6⟩ => ?_)
    refine wpAny_passesOwn hp (thn (hb _ s6 σ6 H6 _ I6 q6) fun f s7 q7 => ?_)
    have again : ∀ {σ7 : St} {H7 : Hp}, Inv X (pins ++ pinsAt fp s5.heap) σ7 H7 s7 → N σ7 H7 → ∃ m, m < n ∧ ∃ i σ' H', Inv X pins σ' H' s7 ∧ tn i s7.heap ∧ (∀ b ∈ fp, H' b = none) ∧ W i m σ' H' := fun {σ7 H7} I7 n7 => by
      obtain ⟨m', hm, w7⟩ := hN σ7 H7 n7
      refine ⟨m', hm, i + 1, σ7, H7, I7.unpinned, T.keep _ _ _ st5 fun b hb o e => (I7.pin (b, o) (List.mem_append_right _ (List.mem_append_right _ (mem_pinsAt hb e)))).1, fun b hb => ?_, w7⟩
      obtain ⟨o, e, d⟩ := T.obj _ _ st5 b hb
      exact (I7.pin (b, o) (List.mem_append_right _ (List.mem_append_right _ (mem_pinsAt hb e)))).2.1
    cases f with
    | next => obtain ⟨σ7, H7, I7, n7⟩ := q7; exact again I7 n7
    | cont => obtain ⟨σ7, H7, I7, n7⟩ := q7; exact again I7 n7
    | brk => obtain ⟨σ7, H7, I7, q7⟩ := q7; exact ⟨σ7, H7, I7.unpinned, q7⟩
    | ret v => obtain ⟨x7, σ7, H7, I7, r7, q7⟩ := q7; exact ⟨x7, σ7, H7, I7.unpinned, r7, q7⟩
end

/-! ### the forms one uses -/
/-- over a list that the body leaves as it is -/
theorem for_list {K : PySem.W.Frag} {a : Addr} {xs : List V} {g : TG} {tb : TS} {D : Ends} {σ : St} {H : Hp} (Pv : Nat → St → Hp → Prop) (h0 : Pv 0 σ H) (hl : ∀ i σ H, i ≤ xs.length → Pv i σ H → SqL K H a xs)
    (hs : ∀ i x σ H, xs[i]? = some x → Pv i σ H → g x σ H fun σ2 H2 => tb { D with nx := Pv (i + 1), ct := Pv (i + 1), bk := D.nx } σ2 H2) (hd : ∀ σ H, Pv xs.length σ H → D.nx σ H) :
    ∃ W : Nat → Nat → St → Hp → Prop, (∃ m, W 0 m σ H) ∧ ∀ i m σ H, W i m σ H →
      ((Itl K a).stop i H ∧ D.nx σ H) ∨ ((Itl K a).go i H ∧ ∃ N : St → Hp → Prop, (∀ σ' H', N σ' H' → ∃ m', m' < m ∧ W (i + 1) m' σ' H') ∧ ∀ x H', (Itl K a).yld i H x H' → g x σ H' fun σ2 H2 => tb { D with nx := N, ct := N, bk := D.nx } σ2 H2) := by
  refine ⟨fun i m σ H => m = xs.length - i ∧ i ≤ xs.length ∧ Pv i σ H, ⟨xs.length, by simp, Nat.zero_le _, h0⟩, ?_⟩
  rintro i m σ H ⟨rfl, hi, p⟩
  have q := hl i σ H hi p
  by_cases hlt : i < xs.length
  · refine .inr ⟨⟨xs, xs[i], q, by simp [hlt]⟩, Pv (i + 1), fun σ' H' p' => ⟨xs.length - (i + 1), by omega, rfl, hlt, p'⟩, fun x H' y => ?_⟩
    obtain ⟨e, y⟩ := y
    subst e
    exact hs i x σ _ (y xs q) p
  · have e : i = xs.length := by omega
    subst e
    exact .inl ⟨⟨xs, q, Nat.le_refl _⟩, hd σ H p⟩
theorem for_tup {K : PySem.W.Frag} {a : Addr} {xs : List V} {g : TG} {tb : TS} {D : Ends} {σ : St} {H : Hp} (Pv : Nat → St → Hp → Prop) (h0 : Pv 0 σ H) (hl : ∀ i σ H, i ≤ xs.length → Pv i σ H → SqT K H a xs)
    (hs : ∀ i x σ H, xs[i]? = some x → Pv i σ H → g x σ H fun σ2 H2 => tb { D with nx := Pv (i + 1), ct := Pv (i + 1), bk := D.nx } σ2 H2) (hd : ∀ σ H, Pv xs.length σ H → D.nx σ H) :
    ∃ W : Nat → Nat → St → Hp → Prop, (∃ m, W 0 m σ H) ∧ ∀ i m σ H, W i m σ H →
      ((Itt K a).stop i H ∧ D.nx σ H) ∨ ((Itt K a).go i H ∧ ∃ N : St → Hp → Prop, (∀ σ' H', N σ' H' → ∃ m', m' < m ∧ W (i + 1) m' σ' H') ∧ ∀ x H', (Itt K a).yld i H x H' → g x σ H' fun σ2 H2 => tb { D with nx := N, ct := N, bk := D.nx } σ2 H2) := by
  refine ⟨fun i m σ H => m = xs.length - i ∧ i ≤ xs.length ∧ Pv i σ H, ⟨xs.length, by simp, Nat.zero_le _, h0⟩, ?_⟩
  rintro i m σ H ⟨rfl, hi, p⟩
  have q := hl i σ H hi p
  by_cases hlt : i < xs.length
  · refine .inr ⟨⟨xs, xs[i], q, by simp [hlt]⟩, Pv (i + 1), fun σ' H' p' => ⟨xs.length - (i + 1), by omega, rfl, hlt, p'⟩, fun x H' y => ?_⟩
    obtain ⟨e, y⟩ := y
    subst e
    exact hs i x σ _ (y xs q) p
  · have e : i = xs.length := by omega
    subst e
    exact .inl ⟨⟨xs, q, Nat.le_refl _⟩, hd σ H p⟩
theorem for_range {lo : Int} {n : Nat} {g : TG} {tb : TS} {D : Ends} {σ : St} {H : Hp} (Pv : Nat → St → Hp → Prop) (h0 : Pv 0 σ H)
    (hs : ∀ i σ H, i < n → Pv i σ H → g (.int (lo + i)) σ H fun σ2 H2 => tb { D with nx := Pv (i + 1), ct := Pv (i + 1), bk := D.nx } σ2 H2) (hd : ∀ σ H, Pv n σ H → D.nx σ H) :
    ∃ W : Nat → Nat → St → Hp → Prop, (∃ m, W 0 m σ H) ∧ ∀ i m σ H, W i m σ H →
      ((Itr lo n).stop i H ∧ D.nx σ H) ∨ ((Itr lo n).go i H ∧ ∃ N : St → Hp → Prop, (∀ σ' H', N σ' H' → ∃ m', m' < m ∧ W (i + 1) m' σ' H') ∧ ∀ x H', (Itr lo n).yld i H x H' → g x σ H' fun σ2 H2 => tb { D with nx := N, ct := N, bk := D.nx } σ2 H2) := by
  refine ⟨fun i m σ H => m = n - i ∧ i ≤ n ∧ Pv i σ H, ⟨n, by simp, Nat.zero_le _, h0⟩, ?_⟩
  rintro i m σ H ⟨rfl, hi, p⟩
  by_cases hlt : i < n
  · refine .inr ⟨hlt, Pv (i + 1), fun σ' H' p' => ⟨n - (i + 1), by omega, rfl, hlt, p'⟩, fun x H' y => ?_⟩
    obtain ⟨e, y⟩ := y
    subst e y
    exact hs i σ _ hlt p
  · have e : i = n := by omega
    subst e
    exact .inl ⟨Nat.le_refl _, hd σ H p⟩
/-- while, by a word and a measure of the state -/
theorem while_by {c : TT} {tb : TS} {D : Ends} {σ : St} {H : Hp} (Pv : St → Hp → Prop) (μ : St → Hp → Nat) (h0 : Pv σ H)
    (hs : ∀ σ H, Pv σ H → c σ H fun b H1 => if b = true then tb { D with nx := fun σ' H' => Pv σ' H' ∧ μ σ' H' < μ σ H, ct := fun σ' H' => Pv σ' H' ∧ μ σ' H' < μ σ H, bk := D.nx } σ H1 else D.nx σ H1)
    (mono : ∀ σ H Q Q', (∀ b H1, Q b H1 → Q' b H1) → c σ H Q → c σ H Q') : tWhile c tb D σ H := by
  refine ⟨fun m σ H => m = μ σ H ∧ Pv σ H, ⟨_, rfl, h0⟩, ?_⟩
  rintro m σ H ⟨rfl, p⟩
  refine mono σ H _ _ (fun b H1 q => ?_) (hs σ H p)
  cases b with
  | true => exact ⟨_, fun σ' H' ⟨p', l⟩ => ⟨_, l, rfl, p'⟩, q⟩
  | false => exact q
end L2

namespace L2
open PySem PySem.Spec PyProof.Rows

abbrev R2 := V → V → Hp → VK → Prop
/-- a two-place operation on values: f is binaryOp op, inplaceOp op or compareOp op -/
def OpR (X : Cx) (f : Value → Value → Sem Value) (r : R2) : Prop :=
  ∀ (pins : List (Addr × Obj)) (s : Shared) (σ : St) (H : Hp) (x y : V) (v u : Value) (Q : VK), Inv X pins σ H s → RelV x v → RelV y u → r x y H Q →
    wpAny (model X.prog X.w) X.A (f v u) (EP X pins σ Q) X.xe s
/-- a one-place operation -/
def UnR (X : Cx) (f : Value → Sem Value) (r : V → Hp → VK → Prop) : Prop :=
  ∀ (pins : List (Addr × Obj)) (s : Shared) (σ : St) (H : Hp) (x : V) (v : Value) (Q : VK), Inv X pins σ H s → RelV x v → r x H Q →
    wpAny (model X.prog X.w) X.A (f v) (EP X pins σ Q) X.xe s
/-- a call of a value that is known (a builtin, a type) with values -/
def CallR (X : Cx) (f : Value) (r : List V → Hp → VK → Prop) : Prop :=
  ∀ (pins : List (Addr × Obj)) (s : Shared) (σ : St) (H : Hp) (xs : List V) (us : List Value) (Q : VK), Inv X pins σ H s → Vals xs us → r xs H Q →
    wpAny (model X.prog X.w) X.A (call f us) (EP X pins σ Q) X.xe s
/-- a value's truth -/
def TruR (X : Cx) (r : V → Hp → (Bool → Hp → Prop) → Prop) : Prop :=
  ∀ (pins : List (Addr × Obj)) (s : Shared) (σ : St) (H : Hp) (x : V) (v : Value) (Q : Bool → Hp → Prop), Inv X pins σ H s → RelV x v → r x H Q →
    wpAny (model X.prog X.w) X.A (truthy v) (TP X pins σ Q) X.xe s

def tOp (r : R2) (ta tb : TE) : TE := fun σ H Q => ta σ H fun x H1 => tb σ H1 fun y H2 => r x y H2 Q
def tUn (r : V → Hp → VK → Prop) (ta : TE) : TE := fun σ H Q => ta σ H fun x H1 => r x H1 Q
/-- ints in, under C, and a value out -/
def rI (C : Int → Int → Prop) (g : Int → Int → V) : R2 := fun x y H Q => ∃ i j, x = .int i ∧ y = .int j ∧ C i j ∧ Q (g i j) H
def rI0 (g : Int → Int → V) : R2 := fun x y H Q => ∃ i j, x = .int i ∧ y = .int j ∧ Q (g i j) H
def rU (g : Int → V) : V → Hp → VK → Prop := fun x H Q => ∃ i, x = .int i ∧ Q (g i) H

section
variable {X : Cx} {a b c : Expr} {ta tb tc : TE} {pos : Pos}

theorem binT (ha : PE X a ta) (hb : PE X b tb) {pins : List (Addr × Obj)} {s : Shared} {σ : St} {H : Hp} {R : V → V → Hp → Prop} (I : Inv X pins σ H s)
    (h : ta σ H fun x H1 => tb σ H1 fun y H2 => R x y H2) {Q : Value → Shared → Prop} {f : Value → Value → Sem Value}
    (hf : ∀ v u s2 x y H2, Inv X pins σ H2 s2 → RelV x v → RelV y u → R x y H2 → wpAny (model X.prog X.w) X.A (f v u) Q X.xe s2) :
    wpAny (model X.prog X.w) X.A (eval a X.env) (fun v s₁ => wpAny (model X.prog X.w) X.A (eval b X.env) (fun u s₂ => wpAny (model X.prog X.w) X.A (f v u) Q X.xe s₂) X.xe s₁) X.xe s := by
  refine thn (ha pins s σ H _ I h) fun v s1 ⟨x, H1, I1, r1, q1⟩ => ?_
  refine thn (hb pins s1 σ H1 _ I1 q1) fun u s2 ⟨y, H2, I2, r2, q2⟩ => ?_
  exact hf v u s2 x y H2 I2 r1 r2 q2

theorem pe_op {op : Operator} {r : R2} (ho : OpR X (binaryOp op) r) (ha : PE X a ta) (hb : PE X b tb) : PE X (.BinOp a op b pos) (tOp r ta tb) := by
  intro pins s σ H Q I h
  exact wpAny_BinOp (binT ha hb I h fun v u s2 x y H2 I2 rx ry q => ho pins s2 σ H2 x y v u Q I2 rx ry q)
theorem pe_un {op : UnaryOp} {r : V → Hp → VK → Prop} (ho : UnR X (unaryOp op) r) (ha : PE X a ta) : PE X (.UnaryOp op a pos) (tUn r ta) := by
  intro pins s σ H Q I h
  exact UnaryOp_ (thn (ha pins s σ H _ I h) fun v s1 ⟨x, H1, I1, r1, q1⟩ => ho pins s1 σ H1 x v Q I1 r1 q1)
/-- a op= e at a name: the name's slot i -/
theorem augR {op : Operator} {r : R2} (ho : OpR X (inplaceOp op) r) {pins : List (Addr × Obj)} {s : Shared} {σ : St} {H : Hp} {x y : V} {v u : Value} {Q : VK} (I : Inv X pins σ H s)
    (rx : RelV x v) (ry : RelV y u) (q : r x y H Q) : wpAny (model X.prog X.w) X.A (inplaceOp op v u) (EP X pins σ Q) X.xe s := ho pins s σ H x y v u Q I rx ry q

/-! ### ints -/
theorem opI {f : Value → Value → Sem Value} {C : Int → Int → Prop} {g : Int → Int → Int}
    (rule : ∀ (i j : Int) (t u : Tok) (s : Shared) (Q : Value → Shared → Prop) (E : Value → Shared → Prop), C i j → Q (.int (g i j) s.toks) { s with toks := s.toks + 1 } → wpAny (model X.prog X.w) X.A (f (.int i t) (.int j u)) Q E s) :
    OpR X f (rI C fun i j => .int (g i j)) := by
  intro pins s σ H x y v u Q I rx ry h
  obtain ⟨i, j, rfl, rfl, hc, q⟩ := h
  obtain ⟨t, rfl⟩ := rx
  obtain ⟨t', rfl⟩ := ry
  exact rule i j t t' s _ _ hc ⟨.int (g i j), H, I.tok _, ⟨_, rfl⟩, q⟩
theorem opI0 {f : Value → Value → Sem Value} {g : Int → Int → Int}
    (rule : ∀ (i j : Int) (t u : Tok) (s : Shared) (Q : Value → Shared → Prop) (E : Value → Shared → Prop), Q (.int (g i j) s.toks) { s with toks := s.toks + 1 } → wpAny (model X.prog X.w) X.A (f (.int i t) (.int j u)) Q E s) :
    OpR X f (rI0 fun i j => .int (g i j)) := by
  intro pins s σ H x y v u Q I rx ry h
  obtain ⟨i, j, rfl, rfl, q⟩ := h
  obtain ⟨t, rfl⟩ := rx
  obtain ⟨t', rfl⟩ := ry
  exact rule i j t t' s _ _ ⟨.int (g i j), H, I.tok _, ⟨_, rfl⟩, q⟩
theorem opB0 {f : Value → Value → Sem Value} {g : Int → Int → Bool}
    (rule : ∀ (i j : Int) (t u : Tok) (s : Shared) (Q : Value → Shared → Prop) (E : Value → Shared → Prop), Q (.bool (g i j)) s → wpAny (model X.prog X.w) X.A (f (.int i t) (.int j u)) Q E s) :
    OpR X f (rI0 fun i j => .bl (g i j)) := by
  intro pins s σ H x y v u Q I rx ry h
  obtain ⟨i, j, rfl, rfl, q⟩ := h
  obtain ⟨t, rfl⟩ := rx
  obtain ⟨t', rfl⟩ := ry
  exact rule i j t t' s _ _ ⟨.bl (g i j), H, I, rfl, q⟩

def CDiv (i j : Int) : Prop := 0 < j ∧ j < 1073741824
def CDivN (i j : Int) : Prop := j ≠ 0 ∧ j.natAbs < 1073741824
def CPow (i j : Int) : Prop := 0 ≤ j ∧ j ≤ 1000000 ∧ i.natAbs < 2 ^ 64
def CMul (i j : Int) : Prop := (-(2 ^ 64) < i ∧ i < 2 ^ 64) ∨ (-(2 ^ 64) < j ∧ j < 2 ^ 64)
theorem CMul.ok {i j : Int} (h : CMul i j) : IntMulOk i j := by
  rcases h with ⟨h1, h2⟩ | ⟨h1, h2⟩
  · exact .of_left (intBits_le_64 h1 h2)
  · exact .of_right (intBits_le_64 h1 h2)
theorem two_pow_nn (k : Nat) : (0 : Int) ≤ 2 ^ k := by
  rw [two_pow_cast]
  exact Int.natCast_nonneg _

theorem op_add : OpR X (binaryOp .Add) (rI0 fun i j => .int (i + j)) := opI0 fun _ _ _ _ _ _ _ q => add_int q
theorem op_sub : OpR X (binaryOp .Sub) (rI0 fun i j => .int (i - j)) := opI0 fun _ _ _ _ _ _ _ q => sub_int q
theorem op_mul : OpR X (binaryOp .Mult) (rI CMul fun i j => .int (i * j)) := opI fun _ _ _ _ _ _ _ hc q => mul_int q hc.ok
/-- // by a positive divisor -/
theorem op_fdiv : OpR X (binaryOp .FloorDiv) (rI CDiv fun i j => .int (i / j)) := opI fun i j _ _ _ _ _ hc q => by
  have h1 : (0 : Int) < j := hc.1
  have h2 : j < 1073741824 := hc.2
  exact floordiv_int (by omega) (by rw [Int.fdiv_eq_ediv_of_nonneg i (by omega)]; exact q) (.inl (PyProof.noPylong_small (by omega)))
theorem op_fdivN : OpR X (binaryOp .FloorDiv) (rI CDivN fun i j => .int (i.fdiv j)) := opI fun _ _ _ _ _ _ _ hc q => floordiv_int hc.1 q (.inl (PyProof.noPylong_small hc.2))
/-- % by a positive divisor of any size -/
theorem op_mod : OpR X (binaryOp .Mod) (rI (fun _ j => 0 < j) fun i j => .int (i % j)) := opI fun i j _ _ _ _ _ hc q => by
  have h1 : (0 : Int) < j := hc
  exact mod_int' (by omega) (by rw [Int.fmod_eq_emod_of_nonneg i (by omega)]; exact q)
theorem op_modN : OpR X (binaryOp .Mod) (rI (fun _ j => j ≠ 0) fun i j => .int (i.fmod j)) := opI fun _ _ _ _ _ _ _ hc q => mod_int' hc q
theorem op_pow : OpR X (binaryOp .Pow) (rI CPow fun i j => .int (i ^ j.toNat)) := opI fun _ _ _ _ _ _ _ hc q => pow_int_small hc.1 hc.2.1 hc.2.2 q
theorem op_shl : OpR X (binaryOp .LShift) (rI CPow fun i j => .int (i * 2 ^ j.toNat)) := opI fun _ _ _ _ _ _ _ hc q => lshift_int_small hc.1 hc.2.1 hc.2.2 q
theorem op_shr : OpR X (binaryOp .RShift) (rI (fun _ j => 0 ≤ j) fun i j => .int (i / 2 ^ j.toNat)) := opI fun i j _ _ _ _ _ hc q =>
  rshift_int hc (by rw [Int.fdiv_eq_ediv_of_nonneg i (two_pow_nn _)]; exact q)
theorem op_and : OpR X (binaryOp .BitAnd) (rI0 fun i j => .int (Builtin.bitAnd i j)) := opI0 fun _ _ _ _ _ _ _ q => and_int q
theorem op_or : OpR X (binaryOp .BitOr) (rI0 fun i j => .int (Builtin.bitOr i j)) := opI0 fun _ _ _ _ _ _ _ q => or_int q
theorem op_xor : OpR X (binaryOp .BitXor) (rI0 fun i j => .int (Builtin.bitXor i j)) := opI0 fun _ _ _ _ _ _ _ q => xor_int q

theorem iop_add : OpR X (inplaceOp .Add) (rI0 fun i j => .int (i + j)) := opI0 fun _ _ _ _ _ _ _ q => iadd_int q
theorem iop_sub : OpR X (inplaceOp .Sub) (rI0 fun i j => .int (i - j)) := opI0 fun _ _ _ _ _ _ _ q => isub_int q
theorem iop_mul : OpR X (inplaceOp .Mult) (rI CMul fun i j => .int (i * j)) := opI fun _ _ _ _ _ _ _ hc q => imul_int q hc.ok
theorem iop_fdiv : OpR X (inplaceOp .FloorDiv) (rI CDiv fun i j => .int (i / j)) := opI fun i j _ _ _ _ _ hc q => by
  have h1 : (0 : Int) < j := hc.1
  have h2 : j < 1073741824 := hc.2
  exact ifloordiv_int (by omega) (by rw [Int.fdiv_eq_ediv_of_nonneg i (by omega)]; exact q) (.inl (PyProof.noPylong_small (by omega)))
theorem iop_mod : OpR X (inplaceOp .Mod) (rI (fun _ j => 0 < j) fun i j => .int (i % j)) := opI fun i j _ _ _ _ _ hc q => by
  have h1 : (0 : Int) < j := hc
  exact imod_int (by omega) (by rw [Int.fmod_eq_emod_of_nonneg i (by omega)]; exact q)
theorem iop_shl : OpR X (inplaceOp .LShift) (rI CPow fun i j => .int (i * 2 ^ j.toNat)) := opI fun _ _ _ _ _ _ _ hc q => ilshift_int_small hc.1 hc.2.1 hc.2.2 q
theorem iop_shr : OpR X (inplaceOp .RShift) (rI (fun _ j => 0 ≤ j) fun i j => .int (i / 2 ^ j.toNat)) := opI fun i j _ _ _ _ _ hc q =>
  irshift_int hc (by rw [Int.fdiv_eq_ediv_of_nonneg i (two_pow_nn _)]; exact q)
theorem iop_and : OpR X (inplaceOp .BitAnd) (rI0 fun i j => .int (Builtin.bitAnd i j)) := opI0 fun _ _ _ _ _ _ _ q => iand_int q
theorem iop_or : OpR X (inplaceOp .BitOr) (rI0 fun i j => .int (Builtin.bitOr i j)) := opI0 fun _ _ _ _ _ _ _ q => ior_int q
theorem iop_xor : OpR X (inplaceOp .BitXor) (rI0 fun i j => .int (Builtin.bitXor i j)) := opI0 fun _ _ _ _ _ _ _ q => ixor_int q

theorem unI {f : Value → Sem Value} {g : Int → Int}
    (rule : ∀ (i : Int) (t : Tok) (s : Shared) (Q : Value → Shared → Prop) (E : Value → Shared → Prop), Q (.int (g i) s.toks) { s with toks := s.toks + 1 } → wpAny (model X.prog X.w) X.A (f (.int i t)) Q E s) :
    UnR X f (rU fun i => .int (g i)) := by
  intro pins s σ H x v Q I rx h
  obtain ⟨i, rfl, q⟩ := h
  obtain ⟨t, rfl⟩ := rx
  exact rule i t s _ _ ⟨.int (g i), H, I.tok _, ⟨_, rfl⟩, q⟩
theorem un_neg : UnR X (unaryOp .USub) (rU fun i => .int (-i)) := unI fun _ _ _ _ _ q => neg_int q
theorem un_inv : UnR X (unaryOp .Invert) (rU fun i => .int (Builtin.bitNot i)) := unI fun _ _ _ _ _ q => invert_int q

/-! ### bools among ints: n += (a < b) -/
theorem op_add_ib : OpR X (binaryOp .Add) (fun x y H Q => ∃ i k, x = .int i ∧ y = .bl k ∧ Q (.int (i + b2i k)) H) := by
  intro pins s σ H x y v u Q I rx ry h
  obtain ⟨i, k, rfl, rfl, q⟩ := h
  obtain ⟨t, rfl⟩ := rx
  cases ry
  exact add_int_bool ⟨.int (i + b2i k), H, I.tok _, ⟨_, rfl⟩, q⟩
end

/-! ### comparisons -/
/-- the scalars that == tells apart as data does -/
def scal : V → V → Bool
  | .non, .non => true | .non, .int _ => true | .int _, .non => true | .non, .bl _ => true | .bl _, .non => true | .non, .str _ => true | .str _, .non => true
  | .int _, .int _ => true | .bl _, .bl _ => true | .str _, .str _ => true | .byt _, .byt _ => true
  | .int _, .str _ => true | .str _, .int _ => true | .bl _, .str _ => true | .str _, .bl _ => true
  | _, _ => false
def rEq : R2 := fun x y H Q => scal x y = true ∧ Q (.bl (decide (x = y))) H
def rNe : R2 := fun x y H Q => scal x y = true ∧ Q (.bl (!decide (x = y))) H

theorem dec_int {i j : Int} : decide (V.int i = V.int j) = (i == j) := by
  rw [Bool.eq_iff_iff]
  simp
theorem dec_bl {i j : Bool} : decide (V.bl i = V.bl j) = (i == j) := by
  rw [Bool.eq_iff_iff]
  simp
theorem dec_str {i j : Str} : decide (V.str i = V.str j) = (i == j) := by
  rw [Bool.eq_iff_iff]
  simp
theorem dec_byt {i j : Array UInt8} : decide (V.byt i = V.byt j) = (i.toList == j.toList) := by
  rw [Bool.eq_iff_iff]
  cases i
  cases j
  simp

section
variable {X : Cx} {a b c : Expr} {ta tb tc : TE} {pos : Pos}
theorem fin_bl {pins : List (Addr × Obj)} {σ : St} {H : Hp} {s : Shared} {Q : VK} {k k' : Bool} (I : Inv X pins σ H s) (q : Q (.bl k) H) (e : k = k') : EP X pins σ Q (.bool k') s := by
  subst e
  exact ⟨.bl k, H, I, rfl, q⟩
theorem op_eq : OpR X (compareOp .Eq) rEq := by
  intro pins s σ H x y v u Q I rx ry h
  obtain ⟨hs, q⟩ := h
  cases x with
  | non =>
    cases rx
    cases y with
    | non => cases ry; exact PySem.EqNone.eq_none_none (fin_bl I q (by simp))
    | bl j => cases ry; exact PySem.EqNone.eq_none_bool (fin_bl I q (by simp))
    | int j => obtain ⟨t', rfl⟩ := ry; exact PySem.EqNone.eq_none_int (fin_bl I q (by simp))
    | str j => obtain ⟨t', rfl⟩ := ry; exact PySem.EqNone.eq_none_str (fin_bl I q (by simp))
    | _ => exact absurd (show false = true from hs) Bool.false_ne_true
  | bl i =>
    cases rx
    cases y with
    | non => cases ry; exact PySem.EqNone.eq_bool_none (fin_bl I q (by simp))
    | bl j => cases ry; exact eq_bool (fin_bl I q dec_bl)
    | str j => obtain ⟨t', rfl⟩ := ry; exact PySem.EqMixed.eq_bool_str (fin_bl I q (by simp))
    | _ => exact absurd (show false = true from hs) Bool.false_ne_true
  | int i =>
    obtain ⟨t, rfl⟩ := rx
    cases y with
    | non => cases ry; exact PySem.EqNone.eq_int_none (fin_bl I q (by simp))
    | int j => obtain ⟨t', rfl⟩ := ry; exact eq_int (fin_bl I q dec_int)
    | str j => obtain ⟨t', rfl⟩ := ry; exact PySem.EqMixed.eq_int_str (fin_bl I q (by simp))
    | _ => exact absurd (show false = true from hs) Bool.false_ne_true
  | str i =>
    obtain ⟨t, rfl⟩ := rx
    cases y with
    | non => cases ry; exact PySem.EqNone.eq_str_none (fin_bl I q (by simp))
    | bl j => cases ry; exact PySem.EqMixed.eq_str_bool (fin_bl I q (by simp))
    | int j => obtain ⟨t', rfl⟩ := ry; exact PySem.EqMixed.eq_str_int (fin_bl I q (by simp))
    | str j => obtain ⟨t', rfl⟩ := ry; exact eq_str (fin_bl I q dec_str)
    | _ => exact absurd (show false = true from hs) Bool.false_ne_true
  | byt i =>
    obtain ⟨t, rfl⟩ := rx
    cases y with
    | byt j => obtain ⟨t', rfl⟩ := ry; exact PySem.W.eq_bytes (fin_bl I q dec_byt)
    | _ => exact absurd (show false = true from hs) Bool.false_ne_true
  | _ => cases y <;> exact absurd (show false = true from hs) Bool.false_ne_true
theorem op_ne : OpR X (compareOp .NotEq) rNe := by
  intro pins s σ H x y v u Q I rx ry h
  obtain ⟨hs, q⟩ := h
  cases x with
  | non =>
    cases rx
    cases y with
    | non => cases ry; exact PySem.EqNone.ne_none_none (fin_bl I q (by simp))
    | bl j => cases ry; exact PySem.EqNone.ne_none_bool (fin_bl I q (by simp))
    | int j => obtain ⟨t', rfl⟩ := ry; exact PySem.EqNone.ne_none_int (fin_bl I q (by simp))
    | str j => obtain ⟨t', rfl⟩ := ry; exact PySem.EqNone.ne_none_str (fin_bl I q (by simp))
    | _ => exact absurd (show false = true from hs) Bool.false_ne_true
  | bl i =>
    cases rx
    cases y with
    | non => cases ry; exact PySem.EqNone.ne_bool_none (fin_bl I q (by simp))
    | bl j => cases ry; exact ne_bool (fin_bl I q (congrArg not dec_bl))
    | str j => obtain ⟨t', rfl⟩ := ry; exact PySem.EqMixed.ne_bool_str (fin_bl I q (by simp))
    | _ => exact absurd (show false = true from hs) Bool.false_ne_true
  | int i =>
    obtain ⟨t, rfl⟩ := rx
    cases y with
    | non => cases ry; exact PySem.EqNone.ne_int_none (fin_bl I q (by simp))
    | int j => obtain ⟨t', rfl⟩ := ry; exact ne_int (fin_bl I q (congrArg not dec_int))
    | str j => obtain ⟨t', rfl⟩ := ry; exact PySem.EqMixed.ne_int_str (fin_bl I q (by simp))
    | _ => exact absurd (show false = true from hs) Bool.false_ne_true
  | str i =>
    obtain ⟨t, rfl⟩ := rx
    cases y with
    | non => cases ry; exact PySem.EqNone.ne_str_none (fin_bl I q (by simp))
    | bl j => cases ry; exact PySem.EqMixed.ne_str_bool (fin_bl I q (by simp))
    | int j => obtain ⟨t', rfl⟩ := ry; exact PySem.EqMixed.ne_str_int (fin_bl I q (by simp))
    | str j => obtain ⟨t', rfl⟩ := ry; exact ne_str (fin_bl I q (congrArg not dec_str))
    | _ => exact absurd (show false = true from hs) Bool.false_ne_true
  | byt i =>
    obtain ⟨t, rfl⟩ := rx
    cases y with
    | byt j => obtain ⟨t', rfl⟩ := ry; exact PySem.W.ne_bytes (fin_bl I q (congrArg not dec_byt))
    | _ => exact absurd (show false = true from hs) Bool.false_ne_true
  | _ => cases y <;> exact absurd (show false = true from hs) Bool.false_ne_true

theorem op_lt : OpR X (compareOp .Lt) (rI0 fun i j => .bl (decide (i < j))) := opB0 fun _ _ _ _ _ _ _ q => lt_int q
theorem op_le : OpR X (compareOp .LtE) (rI0 fun i j => .bl (decide (i ≤ j))) := opB0 fun _ _ _ _ _ _ _ q => le_int q
theorem op_gt : OpR X (compareOp .Gt) (rI0 fun i j => .bl (decide (j < i))) := opB0 fun _ _ _ _ _ _ _ q => gt_int q
theorem op_ge : OpR X (compareOp .GtE) (rI0 fun i j => .bl (decide (j ≤ i))) := opB0 fun _ _ _ _ _ _ _ q => ge_int q
theorem op_lt_str : OpR X (compareOp .Lt) (fun x y H Q => ∃ i j, x = .str i ∧ y = .str j ∧ Q (.bl (decide (i.cps.toList < j.cps.toList))) H) := by
  intro pins s σ H x y v u Q I rx ry h
  obtain ⟨i, j, rfl, rfl, q⟩ := h
  obtain ⟨t, rfl⟩ := rx
  obtain ⟨t', rfl⟩ := ry
  exact lt_str (fin_bl I q rfl)
/-- the one string within the other -/
theorem op_in_str : OpR X (compareOp .In) (fun x y H Q => ∃ i j, x = .str i ∧ y = .str j ∧ Q (.bl (!(Builtin.Str.occurrences j i 0 j.length 1).isEmpty)) H) := by
  intro pins s σ H x y v u Q I rx ry h
  obtain ⟨i, j, rfl, rfl, q⟩ := h
  obtain ⟨t, rfl⟩ := rx
  obtain ⟨t', rfl⟩ := ry
  exact in_str (fin_bl I q rfl)

/-- is None, is not None: the right side a value none -/
theorem op_isN : OpR X (compareOp .Is) (fun x y H Q => y = .non ∧ Q (.bl (decide (x = .non))) H) := by
  intro pins s σ H x y v u Q I rx ry h
  obtain ⟨rfl, q⟩ := h
  cases ry
  refine is_none_gen (fin_bl I q ?_)
  cases x <;> first
    | (cases rx; rfl)
    | (obtain ⟨t, rfl⟩ := rx; rfl)
theorem op_notN : OpR X (compareOp .IsNot) (fun x y H Q => y = .non ∧ Q (.bl (!decide (x = .non))) H) := by
  intro pins s σ H x y v u Q I rx ry h
  obtain ⟨rfl, q⟩ := h
  cases ry
  refine isnot_none_gen (fin_bl I q ?_)
  cases x <;> first
    | (cases rx; rfl)
    | (obtain ⟨t, rfl⟩ := rx; rfl)

theorem op_notin_str : OpR X (compareOp .NotIn) (fun x y H Q => ∃ i j, x = .str i ∧ y = .str j ∧ Q (.bl (!(!(Builtin.Str.occurrences j i 0 j.length 1).isEmpty))) H) := by
  intro pins s σ H x y v u Q I rx ry h
  obtain ⟨i, j, rfl, rfl, q⟩ := h
  obtain ⟨t, rfl⟩ := rx
  obtain ⟨t', rfl⟩ := ry
  exact notIn_str (fin_bl I q rfl)
/-- is, is not of two objects that are tracked lists or instances -/
def isObj : HO → Bool
  | .lst _ => true
  | .ins _ _ _ => true
  | _ => false
theorem obj_there {pins : List (Addr × Obj)} {s : Shared} {σ : St} {H : Hp} {a : Addr} {o : HO} (I : Inv X pins σ H s) (h : H a = some o) (p : isObj o = true) : ∃ ob, s.heap.get? a = some ob ∧ ob.cls ≠ .type "tuple" := by
  cases o with
  | lst xs =>
    obtain ⟨_, its, n, _, e⟩ : xs.length ≤ sizeLine ∧ ∃ (its : List Value) (n : Nat), Vals xs its ∧ s.heap.get? a = some { cls := .type "list", data := .seq its.toArray n } := I.hok a _ h
    exact ⟨_, e, (by show Value.type "list" ≠ .type "tuple"; decide +kernel)⟩
  | ins C dx fs =>
    have x := I.hok a _ h
    obtain ⟨_, _, _, e, _⟩ := x
    exact ⟨_, e, (by show Value.ref C ≠ .type "tuple"; exact fun z => by cases z)⟩
  | _ => exact absurd (show false = true from p) Bool.false_ne_true
theorem op_is_ref : OpR X (compareOp .Is) (fun x y H Q => ∃ a b oa ob, x = .ref a ∧ y = .ref b ∧ H a = some oa ∧ isObj oa = true ∧ H b = some ob ∧ isObj ob = true ∧ Q (.bl (decide (a = b))) H) := by
  intro pins s σ H x y v u Q I rx ry h
  obtain ⟨a, b, oa, ob, rfl, rfl, ha, pa, hb, pb, q⟩ := h
  cases rx
  cases ry
  obtain ⟨o1, e1, n1⟩ := obj_there I ha pa
  obtain ⟨o2, e2, _⟩ := obj_there I hb pb
  by_cases z : a = b
  · subst z
    exact wpAny_is_ref_self (fin_bl I q (by simp))
  · exact wpAny_is_ref_other z e1 e2 n1 (fin_bl I q (by simp [z]))
theorem op_isnot_ref : OpR X (compareOp .IsNot) (fun x y H Q => ∃ a b oa ob, x = .ref a ∧ y = .ref b ∧ H a = some oa ∧ isObj oa = true ∧ H b = some ob ∧ isObj ob = true ∧ Q (.bl (!decide (a = b))) H) := by
  intro pins s σ H x y v u Q I rx ry h
  obtain ⟨a, b, oa, ob, rfl, rfl, ha, pa, hb, pb, q⟩ := h
  cases rx
  cases ry
  obtain ⟨o1, e1, n1⟩ := obj_there I ha pa
  obtain ⟨o2, e2, _⟩ := obj_there I hb pb
  by_cases z : a = b
  · subst z
    exact wpAny_isNot_ref_self (fin_bl I q (by simp))
  · exact wpAny_isNot_ref_other z e1 e2 n1 (fin_bl I q (by simp [z]))

/-- two rules for one operation: by cases -/
theorem OpR.or {f : Value → Value → Sem Value} {r r' : R2} (h : OpR X f r) (h' : OpR X f r') : OpR X f (fun x y H Q => r x y H Q ∨ r' x y H Q) := by
  intro pins s σ H x y v u Q I rx ry q
  rcases q with q | q
  · exact h pins s σ H x y v u Q I rx ry q
  · exact h' pins s σ H x y v u Q I rx ry q

theorem nomark (b : Expr) {op : CmpOp} (h : op ≠ .In := by decide) (h2 : op ≠ .NotIn := by decide) : behindInMarks op b = false := by
  have e1 : (op == CmpOp.In) = false := by cases op <;> first | rfl | exact absurd rfl h
  have e2 : (op == CmpOp.NotIn) = false := by cases op <;> first | rfl | exact absurd rfl h2
  cases b <;> simp [behindInMarks, e1, e2]
/-- a comparison as a value; hm: nomark b, or (for in, not in) by with_unfolding_all rfl -/
theorem pe_cmpR {op : CmpOp} {r : R2} (ho : OpR X (compareOp op) r) (ha : PE X a ta) (hb : PE X b tb) (hm : behindInMarks op b = false) : PE X (.Compare a [op] [b] pos) (tOp r ta tb) := by
  intro pins s σ H Q I h
  exact wpAny_Compare1 (binT ha hb I h fun v u s2 x y H2 I2 rx ry q => ho pins s2 σ H2 x y v u Q I2 rx ry q) hm
/-- a reading of a value as a test -/
def tTest (t : TE) : TT := fun σ H Q => t σ H fun x H' => ∃ k, x = .bl k ∧ Q k H'
theorem pt_cmpR {op : CmpOp} {r : R2} (ho : OpR X (compareOp op) r) (ha : PE X a ta) (hb : PE X b tb) (hm : behindInMarks op b = false) : PT X (.Compare a [op] [b] pos) (tTest (tOp r ta tb)) := by
  intro pins s σ H Q I h
  refine wpAny_isTrue_Compare1 (thn (ha pins s σ H _ I h) fun v s1 ⟨x, H1, I1, r1, q1⟩ => thn (hb pins s1 σ H1 _ I1 q1) fun u s2 ⟨y, H2, I2, r2, q2⟩ =>
    thn (ho pins s2 σ H2 x y v u _ I2 r1 r2 q2) fun c s3 ⟨z, H3, I3, r3, k, e, q3⟩ => ?_) hm
  subst e
  cases r3
  exact wpAny_truthy_bool ⟨H3, I3, q3⟩
/-- a op1 b op2 c -/
def tChain (r r' : R2) (ta tb tc : TE) : TE := fun σ H Q => ta σ H fun x H1 => tb σ H1 fun y H2 => r x y H2 fun z H3 => ∃ k, z = .bl k ∧
  (if k = true then tc σ H3 fun w' H4 => r' y w' H4 Q else Q (.bl false) H3)
theorem pe_chain {op op' : CmpOp} {r r' : R2} (ho : OpR X (compareOp op) r) (ho' : OpR X (compareOp op') r') (ha : PE X a ta) (hb : PE X b tb) (hc : PE X c tc)
    (hm : lastMarks [op, op'] [b, c] = false := by with_unfolding_all rfl) : PE X (.Compare a [op, op'] [b, c] pos) (tChain r r' ta tb tc) := by
  intro pins s σ H Q I h
  refine Compare_chain (thn (ha pins s σ H _ I h) fun v s1 ⟨x, H1, I1, r1, q1⟩ => chain_link (thn (hb pins s1 σ H1 _ I1 q1) fun u s2 ⟨y, H2, I2, r2, q2⟩ =>
    thn (ho pins s2 σ H2 x y v u _ I2 r1 r2 q2) fun d s3 ⟨z, H3, I3, r3, k, e, q3⟩ => ?_)) hm
  subst e
  cases r3
  refine wpAny_truthy_bool ?_
  cases k with
  | false => exact ite_ff ⟨.bl false, H3, I3, rfl, q3⟩
  | true => exact ite_tt (chain_last (thn (hc pins s3 σ H3 _ I3 q3) fun w' s4 ⟨z', H4, I4, r4, q4⟩ => ho' pins s4 σ H4 y z' u w' Q I4 r2 r4 q4))
theorem pt_chain {op op' : CmpOp} {r r' : R2} (ho : OpR X (compareOp op) r) (ho' : OpR X (compareOp op') r') (ha : PE X a ta) (hb : PE X b tb) (hc : PE X c tc)
    (hm : lastMarks [op, op'] [b, c] = false := by with_unfolding_all rfl) : PT X (.Compare a [op, op'] [b, c] pos) (tTest (tChain r r' ta tb tc)) := by
  intro pins s σ H Q I h
  refine isTrue_chain (thn (ha pins s σ H _ I h) fun v s1 ⟨x, H1, I1, r1, q1⟩ => test_link (thn (hb pins s1 σ H1 _ I1 q1) fun u s2 ⟨y, H2, I2, r2, q2⟩ =>
    thn (ho pins s2 σ H2 x y v u _ I2 r1 r2 q2) fun d s3 ⟨z, H3, I3, r3, k, e, q3⟩ => ?_)) hm
  subst e
  cases r3
  refine wpAny_truthy_bool ?_
  cases k with
  | false =>
    obtain ⟨k', e', q'⟩ := q3
    cases e'
    exact ite_ff ⟨H3, I3, q'⟩
  | true =>
    refine ite_tt (test_last (thn (hc pins s3 σ H3 _ I3 q3) fun w' s4 ⟨z', H4, I4, r4, q4⟩ => thn (ho' pins s4 σ H4 y z' u w' _ I4 r2 r4 q4) fun d' s5 ⟨z2, H5, I5, r5, k2, e2, q5⟩ => ?_))
    subst e2
    cases r5
    exact wpAny_truthy_bool ⟨H5, I5, q5⟩

/-! ### truth -/
/-- a value's truth by the abstract heap -/
def TruV (K : PySem.W.Frag) (x : V) (H : Hp) (k : Bool) : Prop :=
  match x with
  | .non => k = false
  | .bl b => k = b
  | .int i => k = (i != 0)
  | .str y => y.length ≤ sizeLine ∧ k = ((y.length : Int) != 0)
  | .byt y => y.size ≤ sizeLine ∧ k = ((y.size : Int) != 0)
  | .ref p => (∃ xs, SqL K H p xs ∧ k = !xs.isEmpty) ∨ (∃ xs, SqT K H p xs ∧ k = !xs.isEmpty) ∨ ∃ kvs, H p = some (.dK kvs) ∧ k = !kvs.isEmpty
  | _ => False
theorem isEmpty_kv {κ : Type} {kvs : List (κ × V)} {vs : List (κ × Value)} (r : KV kvs vs) : (!vs.isEmpty) = !kvs.isEmpty := by
  cases r <;> rfl
theorem isEmpty_of {xs : List V} {its : List Value} (r : Vals xs its) : (!its.toArray.isEmpty) = !xs.isEmpty := by
  cases r <;> simp
theorem line63 : (sizeLine : Nat) < 2 ^ 63 := by rw [sizeLine_eq]; decide
theorem tru_ok : TruR X (fun x H Q => ∃ k, TruV X.K x H k ∧ Q k H) := by
  intro pins s σ H x v Q I rx h
  obtain ⟨k, e, q⟩ := h
  have hl := line63
  have hs : sizeLine = 16777216 := sizeLine_eq
  cases x with
  | non =>
    cases rx
    have e' : k = false := e
    subst e'
    exact truthy_none ⟨H, I, q⟩
  | bl b =>
    cases rx
    have e' : k = b := e
    subst e'
    exact wpAny_truthy_bool ⟨H, I, q⟩
  | int i =>
    obtain ⟨t, rfl⟩ := rx
    have e' : k = (i != 0) := e
    subst e'
    exact PySem.P.truthy_int ⟨H, I, q⟩
  | str y =>
    obtain ⟨t, rfl⟩ := rx
    obtain ⟨hy, e'⟩ : y.length ≤ sizeLine ∧ k = ((y.length : Int) != 0) := e
    subst e'
    exact PySem.P.truthy_str (by omega) ⟨H, I.tok _, q⟩
  | byt y =>
    obtain ⟨t, rfl⟩ := rx
    obtain ⟨hy, e'⟩ : y.size ≤ sizeLine ∧ k = ((y.size : Int) != 0) := e
    subst e'
    exact PySem.W.truthy_bytes (by omega) ⟨H, I.tok _, q⟩
  | ref p =>
    cases rx
    have e' : (∃ xs, SqL X.K H p xs ∧ k = !xs.isEmpty) ∨ (∃ xs, SqT X.K H p xs ∧ k = !xs.isEmpty) ∨ ∃ kvs, H p = some (.dK kvs) ∧ k = !kvs.isEmpty := e
    rcases e' with ⟨xs, hx, e'⟩ | ⟨xs, hx, e'⟩ | ⟨kvs, hx, e'⟩
    · subst e'
      obtain ⟨its, r, pl, hz⟩ := I.list hx
      have hlen := r.length
      exact wpAny_truthy_list pl.isList (by simp only [List.size_toArray]; omega) ⟨H, I.tok _, by rw [isEmpty_of r]; exact q⟩
    · subst e'
      obtain ⟨its, r, pl, hz⟩ := I.tuple hx
      have hlen := r.length
      exact truthy_tuple pl (by simp only [List.size_toArray]; omega) ⟨H, I.tok _, by rw [isEmpty_of r]; exact q⟩
    · subst e'
      obtain ⟨hz, hS, vs, r, m⟩ : kvs.length ≤ sizeLine ∧ (p == sysModules) = false ∧ ∃ vs, KV kvs vs ∧ s.heap.DictOf (mixKind X.prog X.w) p vs := I.hok p _ hx
      have hlen : kvs.length = vs.length := Paired.length r
      exact wpAny_truthy_dict hS m (by omega) ⟨H, I.tok _, by rw [isEmpty_kv r]; exact q⟩
  | _ => exact (show False from e).elim
/-- any expression whose test is its value's truth (a name, a call, a subscript, a field ..: he by fun _ => rfl) -/
theorem pt_truth (ha : PE X a ta) (he : ∀ whole, isTrue a X.env whole = (do let v ← whole; standAt a.pos; holding [v] (truthy v))) :
    PT X a (fun σ H Q => ta σ H fun x H' => ∃ k, TruV X.K x H' k ∧ Q k H') := by
  intro pins s σ H Q I h
  exact isTrue_plain (thn (ha pins s σ H _ I h) fun v s1 ⟨x, H1, I1, r1, q1⟩ => tru_ok pins s1 σ H1 x v Q I1 r1 q1) (he _)

/-! ### strs and bytes -/
theorem pe_byt {x : List UInt8} {k : Nat} : PE X (.Constant (.bytes x) k pos) (fun _ H Q => Q (.byt x.toArray) H) := fun _ _ _ H _ I h => PySem.W.Constant_bytes ⟨.byt x.toArray, H, I.tok _, ⟨_, rfl⟩, h⟩
theorem op_add_str : OpR X (binaryOp .Add) (fun x y H Q => ∃ i j, x = .str i ∧ y = .str j ∧ i.length + j.length ≤ sizeLine ∧ Q (.str (i ++ j)) H) := by
  intro pins s σ H x y v u Q I rx ry h
  obtain ⟨i, j, rfl, rfl, hz, q⟩ := h
  obtain ⟨t, rfl⟩ := rx
  obtain ⟨t', rfl⟩ := ry
  exact wpAny_with_toks (n := 1) I.tk (add_str (fun t' tk htk => ⟨.str (i ++ j), H, I.tok _ htk, ⟨_, rfl⟩, q⟩) hz)
theorem iop_add_str : OpR X (inplaceOp .Add) (fun x y H Q => ∃ i j, x = .str i ∧ y = .str j ∧ i.length + j.length ≤ sizeLine ∧ Q (.str (i ++ j)) H) := by
  intro pins s σ H x y v u Q I rx ry h
  obtain ⟨i, j, rfl, rfl, hz, q⟩ := h
  obtain ⟨t, rfl⟩ := rx
  obtain ⟨t', rfl⟩ := ry
  exact wpAny_with_toks (n := 1) I.tk (iadd_str (fun t' tk htk => ⟨.str (i ++ j), H, I.tok _ htk, ⟨_, rfl⟩, q⟩) hz)
theorem op_add_byt : OpR X (binaryOp .Add) (fun x y H Q => ∃ i j, x = .byt i ∧ y = .byt j ∧ i.size + j.size ≤ 16777216 ∧ Q (.byt (i ++ j)) H) := by
  intro pins s σ H x y v u Q I rx ry h
  obtain ⟨i, j, rfl, rfl, hz, q⟩ := h
  obtain ⟨t, rfl⟩ := rx
  obtain ⟨t', rfl⟩ := ry
  exact wpAny_with_toks (n := 1) I.tk (PySem.W.KBy.add_bytes hz (fun t' tk htk => ⟨.byt (i ++ j), H, I.tok _ htk, ⟨_, rfl⟩, q⟩))

def PlainIxT (b : Expr) : Prop := ∀ o i, subscripted b false o i = operate [o, i] (getItem o i)
/-- s[i], 0 ≤ i < len -/
theorem pe_item_str (ha : PE X a ta) (hb : PE X b tb) (hs : PlainIxT b) :
    PE X (.Subscript a b pos) (tOp (fun x y H Q => ∃ z i c, x = .str z ∧ y = .int i ∧ 0 ≤ i ∧ i < 2 ^ 63 ∧ i < z.length ∧ z.cps[i.toNat]? = some c ∧ Q (.str ⟨#[c]⟩) H) ta tb) := by
  intro pins s σ H Q I h
  refine Subscript_ (binT ha hb I h fun v u s2 x y H2 I2 rx ry q => ?_)
  obtain ⟨z, i, c, rfl, rfl, h0, h63, h1, hc, q⟩ := q
  obtain ⟨t, rfl⟩ := rx
  obtain ⟨t', rfl⟩ := ry
  have e : seqIndex? i z.length = some i.toNat := PySem.StrLaws.seqIndex_nonneg h0 h1
  exact tail_any (typeIs_str s2 z t) slot_str_getitem.lookup (getItem_str (c := c) (by
    have e1 : decide (i < -(2 ^ 63 : Int)) = false := decide_eq_false (by omega)
    have e2 : decide (i ≥ 2 ^ 63) = false := decide_eq_false (by omega)
    rw [e1, e2] <;> rfl) (by rw [e]; exact hc) ⟨.str ⟨#[c]⟩, H2, I2.tok _, ⟨_, rfl⟩, q⟩) (hs _ _)
/-- b[i], 0 ≤ i < len -/
theorem pe_item_byt (ha : PE X a ta) (hb : PE X b tb) (hs : PlainIxT b) :
    PE X (.Subscript a b pos) (tOp (fun x y H Q => ∃ (z : List UInt8) (i : Int), x = .byt z.toArray ∧ y = .int i ∧ z.length ≤ sizeLine ∧ 0 ≤ i ∧ i < z.length ∧ Q (.int ((z.getD i.toNat 0).toNat : Nat)) H) ta tb) := by
  intro pins s σ H Q I h
  refine Subscript_ (binT ha hb I h fun v u s2 x y H2 I2 rx ry q => ?_)
  obtain ⟨z, i, rfl, rfl, hz, h0, h1, q⟩ := q
  obtain ⟨t, rfl⟩ := rx
  obtain ⟨t', rfl⟩ := ry
  have hl : sizeLine = 16777216 := sizeLine_eq
  exact tail_any (PySem.W.typeIs_bytes s2 z.toArray t) PySem.W.FB.slot_bytes_getitem.lookup (PySem.W.getItem_bytes (by omega) h0 h1 ⟨.int ((z.getD i.toNat 0).toNat : Nat), H2, I2.tok _, ⟨_, rfl⟩, q⟩) (hs _ _)

/-! ### scalar builtins, by CallR -/
theorem vals1 {x : V} {us : List Value} (r : Vals [x] us) : ∃ u, us = [u] ∧ RelV x u := by
  cases r with
  | cons r1 r2 => cases r2; exact ⟨_, rfl, r1⟩
theorem vals2 {x y : V} {us : List Value} (r : Vals [x, y] us) : ∃ u w', us = [u, w'] ∧ RelV x u ∧ RelV y w' := by
  cases r with
  | cons r1 r2 =>
    cases r2 with
    | cons r3 r4 => cases r4; exact ⟨_, _, rfl, r1, r3⟩
theorem call_abs : CallR X (.builtin "abs") (fun xs H Q => ∃ i, xs = [.int i] ∧ Q (.int (if i < 0 then -i else i)) H) := by
  intro pins s σ H xs us Q I r h
  obtain ⟨i, rfl, q⟩ := h
  obtain ⟨u, rfl, t, rfl⟩ := vals1 r
  exact wpAny_with_toks (n := 1) I.tk (call_abs_int fun u tk htk => ⟨.int (if i < 0 then -i else i), H, I.tok _ htk, ⟨_, rfl⟩, q⟩)
theorem call_max2 (hc : X.calm = true) : CallR X (.builtin "max") (fun xs H Q => ∃ i j, xs = [.int i, .int j] ∧ Q (.int (if j > i then j else i)) H) := by
  intro pins s σ H xs us Q I r h
  obtain ⟨i, j, rfl, q⟩ := h
  obtain ⟨u, w', rfl, ⟨t, rfl⟩, ⟨t', rfl⟩⟩ := vals2 r
  refine wpAny_with_toks (n := 1) I.tk (max_two_ints (I.ok.hd hc) fun h' tk k htk => ⟨_, H, I.kept k htk, ?_, q⟩)
  by_cases hj : j > i
  · rw [if_pos hj, if_pos hj]; exact ⟨_, rfl⟩
  · rw [if_neg hj, if_neg hj]; exact ⟨_, rfl⟩
theorem call_min2 (hc : X.calm = true) : CallR X (.builtin "min") (fun xs H Q => ∃ i j, xs = [.int i, .int j] ∧ Q (.int (if j < i then j else i)) H) := by
  intro pins s σ H xs us Q I r h
  obtain ⟨i, j, rfl, q⟩ := h
  obtain ⟨u, w', rfl, ⟨t, rfl⟩, ⟨t', rfl⟩⟩ := vals2 r
  refine wpAny_with_toks (n := 1) I.tk (min_two_ints (I.ok.hd hc) fun h' tk k htk => ⟨_, H, I.kept k htk, ?_, q⟩)
  by_cases hj : j < i
  · rw [if_pos hj, if_pos hj]; exact ⟨_, rfl⟩
  · rw [if_neg hj, if_neg hj]; exact ⟨_, rfl⟩
theorem call_int1 : CallR X (.type "int") (fun xs H Q => (∃ i, xs = [.int i] ∧ Q (.int i) H) ∨ ∃ k, xs = [.bl k] ∧ Q (.int (if k then 1 else 0)) H) := by
  intro pins s σ H xs us Q I r h
  rcases h with ⟨i, rfl, q⟩ | ⟨k, rfl, q⟩
  · obtain ⟨u, rfl, t, rfl⟩ := vals1 r
    exact call_int_int ⟨.int i, H, I, ⟨_, rfl⟩, q⟩
  · obtain ⟨u, rfl, r1⟩ := vals1 r
    cases r1
    exact call_int_bool ⟨.int (if k then 1 else 0), H, I.tok _, ⟨_, rfl⟩, q⟩
theorem call_bool1 : CallR X (.type "bool") (fun xs H Q => (∃ i, xs = [.int i] ∧ Q (.bl (i != 0)) H) ∨ ∃ k, xs = [.bl k] ∧ Q (.bl k) H) := by
  intro pins s σ H xs us Q I r h
  rcases h with ⟨i, rfl, q⟩ | ⟨k, rfl, q⟩
  · obtain ⟨u, rfl, t, rfl⟩ := vals1 r
    exact call_bool_int ⟨.bl (i != 0), H, I, rfl, q⟩
  · obtain ⟨u, rfl, r1⟩ := vals1 r
    cases r1
    exact call_bool_bool ⟨.bl k, H, I, rfl, q⟩
theorem call_str_int : CallR X (.type "str") (fun xs H Q => ∃ i, xs = [.int i] ∧ i.natAbs.log2 < 1920 ∧ Q (.str (toString i)) H) := by
  intro pins s σ H xs us Q I r h
  obtain ⟨i, rfl, hz, q⟩ := h
  obtain ⟨u, rfl, t, rfl⟩ := vals1 r
  exact PySem.P.str_of_int hz ⟨.str _, H, I.tok _, ⟨_, rfl⟩, q⟩
theorem call_ord : CallR X (.builtin "ord") (fun xs H Q => ∃ x, xs = [.str x] ∧ x.length = 1 ∧ Q (.int (x.cps.getD 0 0 : Nat)) H) := by
  intro pins s σ H xs us Q I r h
  obtain ⟨x, rfl, hz, q⟩ := h
  obtain ⟨u, rfl, t, rfl⟩ := vals1 r
  exact ord_of_one hz ⟨.int _, H, I.tok _, ⟨_, rfl⟩, q⟩
theorem call_chr : CallR X (.builtin "chr") (fun xs H Q => ∃ i, xs = [.int i] ∧ 0 ≤ i ∧ i ≤ 1114111 ∧ Q (.str ⟨#[i.toNat]⟩) H) := by
  intro pins s σ H xs us Q I r h
  obtain ⟨i, rfl, h0, h1, q⟩ := h
  obtain ⟨u, rfl, t, rfl⟩ := vals1 r
  exact chr_of_range h0 h1 ⟨.str _, H, I.tok _, ⟨_, rfl⟩, q⟩
/-- len of a str, a bytes, a list, a tuple -/
def LenV (K : PySem.W.Frag) (x : V) (H : Hp) (n : Nat) : Prop :=
  match x with
  | .str y => y.length ≤ sizeLine ∧ n = y.length
  | .byt y => y.size ≤ sizeLine ∧ n = y.size
  | .ref p => (∃ xs, SqL K H p xs ∧ n = xs.length) ∨ ∃ xs, SqT K H p xs ∧ n = xs.length
  | _ => False
theorem call_len : CallR X (.builtin "len") (fun xs H Q => ∃ x n, xs = [x] ∧ LenV X.K x H n ∧ Q (.int n) H) := by
  intro pins s σ H xs us Q I r h
  obtain ⟨x, n, rfl, e, q⟩ := h
  obtain ⟨u, rfl, rx⟩ := vals1 r
  have hl := line63
  have hs : sizeLine = 16777216 := sizeLine_eq
  cases x with
  | str y =>
    obtain ⟨t, rfl⟩ := rx
    obtain ⟨hy, e'⟩ : y.length ≤ sizeLine ∧ n = y.length := e
    subst e'
    exact len_str (by omega) ⟨.int _, H, I.tok _, ⟨_, rfl⟩, q⟩
  | byt y =>
    obtain ⟨t, rfl⟩ := rx
    obtain ⟨hy, e'⟩ : y.size ≤ sizeLine ∧ n = y.size := e
    subst e'
    exact PySem.W.len_bytes (by omega) ⟨.int _, H, I.tok _, ⟨_, rfl⟩, q⟩
  | ref p =>
    cases rx
    have e' : (∃ xs, SqL X.K H p xs ∧ n = xs.length) ∨ ∃ xs, SqT X.K H p xs ∧ n = xs.length := e
    rcases e' with ⟨xs, hx, e'⟩ | ⟨xs, hx, e'⟩
    · subst e'
      obtain ⟨its, r', pl, hz⟩ := I.list hx
      have hlen := r'.length
      exact Calls.call_len_list pl.isList (by simp only [List.size_toArray]; omega) ⟨.int xs.length, H, I.tok _, ⟨_, by simp only [List.size_toArray]; rw [hlen]⟩, q⟩
    · subst e'
      obtain ⟨its, r', pl, hz⟩ := I.tuple hx
      have hlen := r'.length
      exact len_tuple pl (by simp only [List.size_toArray]; omega) ⟨.int xs.length, H, I.tok _, ⟨_, by simp only [List.size_toArray]; rw [hlen]⟩, q⟩
  | _ => exact (show False from e).elim
/-- divmod: a new tuple -/
theorem call_divmod : CallR X (.builtin "divmod") (fun xs H Q => ∃ i j, xs = [.int i, .int j] ∧ CDiv i j ∧ ∀ p, H p = none → Q (.ref p) (upd H p (.tup [.int (i / j), .int (i % j)]))) := by
  intro pins s σ H xs us Q I r h
  obtain ⟨i, j, rfl, ⟨h1, h2⟩, q⟩ := h
  obtain ⟨u, w', rfl, ⟨t, rfl⟩, ⟨t', rfl⟩⟩ := vals2 r
  refine divmod_int (by omega) ?_ (.inl (PyProof.noPylong_small (by omega)))
  rw [Int.fdiv_eq_ediv_of_nonneg i (by omega), Int.fmod_eq_emod_of_nonneg i (by omega)]
  have hn : H s.heap.objs.size = none := I.hok.fresh (Nat.le_refl _)
  refine ⟨.ref s.heap.objs.size, _, ?_, rfl, q _ hn⟩
  refine I.laid (fun b o e => Heap.get?_push_of_some _ e) (Nat.le_refl _) ⟨by simp only [List.length_cons, List.length_nil]; rw [sizeLine_eq]; decide, [.int (i / j) s.toks, .int (i % j) (s.toks + 1)], .cons ⟨_, rfl⟩ (.cons ⟨_, rfl⟩ .nil), ?_⟩
  exact ⟨_, Heap.get?_push_size s.heap rfl, rfl, 0, rfl⟩
end
end L2

namespace L2
open PySem PySem.Spec PyProof.Rows

/-! ### an instance, its attributes a map -/
structure ObjM (h : Heap) (x dx C : Addr) (mA : Str → Option Value) : Prop where
  obj : h.get? x = some (PySem.W.instObj C dx)
  ns : h.Ns1 dx mA
  ne : dx ≠ x

theorem lookIn_ns {h : Heap} {dx : Addr} {mA : Str → Option Value} (n : h.Ns1 dx mA) : ∃ od, h.get? dx = some od ∧ ∀ name, PySem.W.lookIn name od = some (mA name) := by
  obtain ⟨o, es, ep, ho, hd, hk, _, hm⟩ := n
  refine ⟨o, ho, fun name => ?_⟩
  have e := hm name
  unfold nsFind findBy at e
  rw [← Array.find?_toList] at e
  unfold PySem.W.lookIn
  rw [hd]
  dsimp only
  split
  · rename_i y q
    rw [q] at e
    exact congrArg some e
  · rename_i q
    rw [q] at e
    have a : es.toList.any (·.refKey) = false := by
      rw [List.any_eq_false]
      intro y hy
      obtain ⟨z, t, hkey⟩ := hk y (Array.mem_toList_iff.mp hy)
      simp [DictEntry.refKey, hkey]
    have a' : ¬ es.toList.any (·.refKey) = true := by rw [a]; exact Bool.false_ne_true
    rw [if_neg a']
    exact congrArg some e

theorem ObjM.look {h : Heap} {x dx C : Addr} {mA : Str → Option Value} (I : ObjM h x dx C mA) : ∃ od, PySem.W.InstAt h x (PySem.W.instObj C dx) C (some od) ∧ ∀ name, PySem.W.lookIn name od = some (mA name) :=
  let ⟨od, ho, hl⟩ := lookIn_ns I.ns
  ⟨od, ⟨I.obj, rfl, rfl, ho⟩, hl⟩

section
variable {prog : Program} {w : World} {A : Around} {E : Value → Shared → Prop} {s : Shared} {K : PySem.W.Frag} {x dx C f : Addr} {mA : Str → Option Value} {name : Str} {v : Value}

theorem get_map {expr : Bool} {Q : Value → Shared → Prop} (X : K.In s.heap) (I : ObjM s.heap x dx C mA) (hg : PySem.W.plainGet K C name = true) (hh : PySem.W.hasDictIn K C = true)
    (ha : PySem.W.findIn K (.ref C) name = some none) (hv : mA name = some v) (hv' : PySem.W.handedIn v = true) (h : Q v { s with toks := s.toks + 1 }) :
    wpAny (model prog w) A (getAttr (.ref x) name expr) Q E s := by
  obtain ⟨od, J, hl⟩ := I.look
  exact PySem.W.get_value X J (PySem.W.plainGet_of hg).1 (PySem.W.findObj_own hh ha rfl (by rw [hl, hv])) hv' h

theorem get_const {expr : Bool} {a : Value} {Q : Value → Shared → Prop} (X : K.In s.heap) (I : ObjM s.heap x dx C mA) (hg : PySem.W.plainGet K C name = true) (hh : PySem.W.hasDictIn K C = true)
    (ha : PySem.W.findIn K (.ref C) name = some (some a)) (hn : PySem.W.specialIn K a "__get__" = some none) (hc : PySem.W.copiedNames.contains name = false) (hv : mA name = none) (hv' : PySem.W.handedIn a = true)
    (h : Q a { s with toks := s.toks + 1 }) : wpAny (model prog w) A (getAttr (.ref x) name expr) Q E s := by
  obtain ⟨od, J, hl⟩ := I.look
  exact PySem.W.get_value X J (PySem.W.plainGet_of hg).1 (PySem.W.findObj_cls hh ha hn hv' hc (by rw [hl, hv])) hv' h

theorem get_meth {pl : Sem Bool} {Q : Value × List Value → Shared → Prop} (X : K.In s.heap) (I : ObjM s.heap x dx C mA) (hg : PySem.W.plainGet K C name = true)
    (hf : PySem.W.findIn K (.ref C) name = some (some (.ref f))) (ht : PySem.W.isFn K (.ref f) = true) (hv : mA name = none) (h : Q (.ref f, [.ref x]) s) :
    wpAny (model prog w) A (getMethod (.ref x) name pl) Q E s := by
  obtain ⟨od, J, hl⟩ := I.look
  exact PySem.W.method_fn X J (PySem.W.plainGet_of hg).1 (PySem.W.plainGet_of hg).2 hf (beq_iff_eq.mp ht) (by show (PySem.W.lookIn name od).map (·.isSome) = some false; rw [hl, hv]; rfl) h

theorem set_map {ns : List Str} {Q : Unit → Shared → Prop} (X : K.In s.heap) (I : ObjM s.heap x dx C mA)
    (hs : PySem.W.findIn K (.ref C) "__setattr__" = some (some (.builtin "object.__setattr__"))) (hp : PySem.W.plainOver K C = true) (ht : PySem.W.takerIn K C name = some none) (hh : PySem.W.hasDictIn K C = true)
    (hw : PySem.Within mA ns) (hsz : ns.length ≤ sizeLine)
    (h : ∀ h', ObjM h' x dx C (fun y => if y = name then some v else mA y) → Heap.SameBut dx s.heap h' → Q () { s with heap := h', toks := s.toks + 2 }) :
    wpAny (model prog w) A (setAttr (.ref x) name v) Q E s := by
  obtain ⟨od, J, hl⟩ := I.look
  refine PySem.W.set_plain X J hs (PySem.W.osa_open (s := { s with toks := s.toks + 1 }) (r := none) X J hp ht fun b => ?_)
  obtain ⟨cd, hc, hd'⟩ := PySem.W.any_some hh
  have hx : s.heap.get? x = some ⟨.ref C, some dx, .plain, #[]⟩ := I.obj
  refine wpAny_bind (wpAny_pure (wpAny_bind (wpAny_bind (wpAny_loadPart hx (wpAny_bind (PySem.W.Looks.here (s := { s with toks := s.toks + 1 }) (PySem.W.looks_clsIn X hc) ?_))))))
  rw [hd']
  refine wpAny_pure (a := some dx) (wpAny_bind (wpAny_pure (wpAny_bind ?_)))
  refine wpAny_nsSet1 (s := { s with toks := s.toks + 1 }) I.ns fun h' hn2 hs2 => ?_
  obtain ⟨oD, esD, epD, hoD, hdD, hcD⟩ := hn2.count (PySem.Within.cons name v hw)
  refine wpAny_bind (wpAny_lookBehind hoD (by rw [hdD]; exact pastItsLine_dict (Nat.le_trans hcD (by rw [List.length_cons]; omega))) ?_)
  exact wpAny_pure (h _ ⟨(hs2.2 _ (Ne.symm I.ne)).trans I.obj, hn2, I.ne⟩ hs2)

/-- C(..): the dict at the heap's end, the instance behind it; then its __init__ -/
theorem make_map {R : Result → Shared → Prop} {vs : List Value} {kw : List (Str × Value)} (X : K.In s.heap) (hm : PySem.W.makesIn K C = true)
    (hi : PySem.W.findIn K (.ref C) "__init__" = some (some (.ref f))) (hf : PySem.W.typeIn K (.ref f) = some (.type "function"))
    (h : codeAny (model prog w) (A.under (.builtin "type.__call__" ⟨.ref C :: vs, kw⟩)) (.call (.ref f) ⟨.ref (s.heap.objs.size + 1) :: vs, kw⟩) (PySem.W.InitBack (s.heap.objs.size + 1) R)
      { s with heap := (s.heap.push PySem.W.emptyDict).push (PySem.W.instObj C s.heap.objs.size) }) :
    codeAny (model prog w) A (.call (.ref C) ⟨vs, kw⟩) R s := by
  obtain ⟨hh, g, d, t, os⟩ := s
  exact PySem.W.make_core (PySem.W.makes_of X hm) (PySem.W.looks_findIn X hi) (fun self => PySem.W.bind_fn X self hf) (.inl rfl) h
/-- C() where there is no __init__ but object's -/
theorem make_map0 {R : Result → Shared → Prop} (X : K.In s.heap) (hm : PySem.W.makesIn K C = true)
    (hi : PySem.W.findIn K (.ref C) "__init__" = some (some (.builtin "object.__init__")))
    (hb : ∀ self, PySem.W.Looks (model prog w) s.heap (bindSpecial (.builtin "object.__init__") self) (.builtin "object.__init__", [self]))
    (h : codeAny (model prog w) (A.under (.builtin "type.__call__" ⟨[.ref C], []⟩)) (.call (.builtin "object.__init__") ⟨[.ref (s.heap.objs.size + 1)], []⟩) (PySem.W.InitBack (s.heap.objs.size + 1) R)
      { s with heap := (s.heap.push PySem.W.emptyDict).push (PySem.W.instObj C s.heap.objs.size) }) :
    codeAny (model prog w) A (.call (.ref C) ⟨[], []⟩) R s := by
  obtain ⟨hh, g, d, t, os⟩ := s
  exact PySem.W.make_core (PySem.W.makes_of X hm) (PySem.W.looks_findIn X hi) hb (.inr ⟨rfl, rfl⟩) h
end

/-! ### the attributes as a list of pairs -/
def putF (f : Str) (v : V) : List (Str × V) → List (Str × V)
  | [] => [(f, v)]
  | (g, x) :: r => if g = f then (g, v) :: r else (g, x) :: putF f v r
theorem lookup_putF (f g : Str) (v : V) : ∀ fs : List (Str × V), (putF f v fs).lookup g = if g = f then some v else fs.lookup g
  | [] => by
    show List.lookup g [(f, v)] = _
    by_cases h : g = f
    · have hb : (g == f) = true := beq_iff_eq.mpr h
      simp only [List.lookup, hb, if_pos h]
    · have hb : (g == f) = false := beq_eq_false_iff_ne.mpr h
      simp only [List.lookup, hb, if_neg h]
  | (k, x) :: r => by
    have ih := lookup_putF f g v r
    rw [show putF f v ((k, x) :: r) = (if k = f then (k, v) :: r else (k, x) :: putF f v r) from rfl]
    by_cases hk : k = f
    · rw [if_pos hk]
      by_cases h : g = k
      · have hb : (g == k) = true := beq_iff_eq.mpr h
        simp only [List.lookup, hb, if_pos (h.trans hk)]
      · have hb : (g == k) = false := beq_eq_false_iff_ne.mpr h
        simp only [List.lookup, hb, if_neg (fun e : g = f => h (e.trans hk.symm))]
    · rw [if_neg hk]
      by_cases h : g = k
      · have hb : (g == k) = true := beq_iff_eq.mpr h
        simp only [List.lookup, hb, if_neg (fun e : g = f => hk (h.symm.trans e))]
      · have hb : (g == k) = false := beq_eq_false_iff_ne.mpr h
        simp only [List.lookup, hb]
        exact ih
theorem keys_putF (f : Str) (v : V) : ∀ fs : List (Str × V), f ∈ (putF f v fs).map (·.1) ∧ ∀ g, g ∈ fs.map (·.1) → g ∈ (putF f v fs).map (·.1)
  | [] => ⟨by simp [putF], fun g h => by simp at h⟩
  | (k, x) :: r => by
    obtain ⟨i1, i2⟩ := keys_putF f v r
    rw [show putF f v ((k, x) :: r) = (if k = f then (k, v) :: r else (k, x) :: putF f v r) from rfl]
    by_cases hk : k = f
    · rw [if_pos hk]
      subst hk
      exact ⟨by simp, fun g h => by simpa using h⟩
    · rw [if_neg hk]
      refine ⟨?_, fun g h => ?_⟩
      · rw [List.map_cons]
        exact List.mem_cons_of_mem _ i1
      · rw [List.map_cons] at h ⊢
        rcases List.mem_cons.mp h with e | e
        · exact List.mem_cons.mpr (.inl e)
        · exact List.mem_cons_of_mem _ (i2 g e)
theorem length_putF (f : Str) (v : V) : ∀ fs : List (Str × V), (putF f v fs).length ≤ fs.length + 1
  | [] => by simp [putF]
  | (k, x) :: r => by
    have ih := length_putF f v r
    rw [show putF f v ((k, x) :: r) = (if k = f then (k, v) :: r else (k, x) :: putF f v r) from rfl]
    by_cases hk : k = f
    · rw [if_pos hk, List.length_cons, List.length_cons]; omega
    · rw [if_neg hk, List.length_cons, List.length_cons]; omega

theorem RelO.some_of {v : V} {o : Option Value} (r : RelO (some v) o) : ∃ u, o = some u ∧ RelV v u := by
  cases o with
  | none => exact (show False from r).elim
  | some u => exact ⟨u, rfl, r⟩
theorem RelO.none_of {o : Option Value} (r : RelO none o) : o = none := by
  cases o with
  | none => rfl
  | some u => exact (show False from r).elim
theorem handed_of {v : V} {u : Value} (r : RelV v u) : PySem.W.handedIn u = true := by
  cases v with
  | non => cases (show u = Value.none from r); rfl
  | bl b => cases (show u = Value.bool b from r); rfl
  | int i => obtain ⟨t, e⟩ := (show ∃ t, u = Value.int i t from r); cases e; rfl
  | str x => obtain ⟨t, e⟩ := (show ∃ t, u = Value.str x t from r); cases e; rfl
  | byt b => obtain ⟨t, e⟩ := (show ∃ t, u = Value.bytes b t from r); cases e; rfl
  | flt b => obtain ⟨t, e⟩ := (show ∃ t, u = Value.float b t from r); cases e; rfl
  | ref a => cases (show u = Value.ref a from r); rfl
  | ty n => cases (show u = Value.type n from r); rfl

section
variable {P : Program} {w : World} {H H' : Hp} {h h' : Heap} {a C dx : Addr} {fs fs' : List (Str × V)}
theorem ins_get (hok : HOk P w H h) (e : H a = some (.ins C dx fs)) : ∃ mA, ObjM h a dx C mA ∧ (∀ f, RelO (fs.lookup f) (mA f)) ∧ PySem.Within mA (fs.map (·.1)) ∧ fs.length ≤ 1000 ∧ H dx = some (.own a) := by
  obtain ⟨d, z, ne, ob, mA, n, r, q⟩ := (show ObjOk P w H h a (.ins C dx fs) from hok a _ e)
  exact ⟨mA, ⟨ob, n, ne⟩, r, q, z, d⟩
end

/-! ### what of the text a class must have -/
structure Cls (K : PySem.W.Frag) (C : Addr) : Prop where
  pg : PySem.W.plainGet K C Str.empty = true
  hd : PySem.W.hasDictIn K C = true
  po : PySem.W.plainOver K C = true
  sa : PySem.W.findIn K (.ref C) "__setattr__" = some (some (.builtin "object.__setattr__"))
theorem Cls.get {K : PySem.W.Frag} {C : Addr} (c : Cls K C) (f : Str) : PySem.W.plainGet K C f = true := c.pg
/-- no class of it has the name -/
def NoAttr (K : PySem.W.Frag) (C : Addr) (f : Str) : Prop := PySem.W.findIn K (.ref C) f = some none
theorem NoAttr.taker {K : PySem.W.Frag} {C : Addr} {f : Str} (n : NoAttr K C f) : PySem.W.takerIn K C f = some none := by
  unfold PySem.W.takerIn
  rw [show PySem.W.findIn K (.ref C) f = some none from n]
  rfl
/-- a constant of the class -/
structure Con (K : PySem.W.Frag) (C : Addr) (f : Str) (v : V) (u : Value) : Prop where
  at_ : PySem.W.findIn K (.ref C) f = some (some u)
  rel : RelV v u
  get : PySem.W.specialIn K u "__get__" = some none
  cp : PySem.W.copiedNames.contains f = false
/-- a method: a plain def of the class or of one above it -/
structure Meth (K : PySem.W.Frag) (C : Addr) (m : Str) (f : Addr) : Prop where
  at_ : PySem.W.findIn K (.ref C) m = some (some (.ref f))
  fn : PySem.W.isFn K (.ref f) = true
  kp : PySem.W.keepIn K (.ref f) = true

section
variable {X : Cx} {pins : List (Addr × Obj)} {σ : St} {H : Hp} {s : Shared} {a C dx : Addr} {fs : List (Str × V)} {f : Str} {v : V} {A : Around} {E : Value → Shared → Prop}

theorem getattr_ok {b : Bool} {Q : Value → Shared → Prop} (I : Inv X pins σ H s) (e : H a = some (.ins C dx fs)) (c : Cls X.K C) (n : NoAttr X.K C f) (l : fs.lookup f = some v)
    (h : ∀ u s', Inv X pins σ H s' → RelV v u → Q u s') : wpAny (model X.prog X.w) A (getAttr (.ref a) f b) Q E s := by
  obtain ⟨mA, O, r, _, _, _⟩ := ins_get I.hok e
  obtain ⟨u, hu, ru⟩ := RelO.some_of (v := v) (o := mA f) (by rw [← l]; exact r f)
  exact get_map I.kIn O (c.get f) c.hd n hu (handed_of ru) (h u _ (I.tok _) ru)

theorem getcon_ok {b : Bool} {u : Value} {Q : Value → Shared → Prop} (I : Inv X pins σ H s) (e : H a = some (.ins C dx fs)) (c : Cls X.K C) (k : Con X.K C f v u) (l : fs.lookup f = none)
    (h : ∀ s', Inv X pins σ H s' → Q u s') : wpAny (model X.prog X.w) A (getAttr (.ref a) f b) Q E s := by
  obtain ⟨mA, O, r, _, _, _⟩ := ins_get I.hok e
  have hn : mA f = none := RelO.none_of (by rw [← l]; exact r f)
  exact get_const I.kIn O (c.get f) c.hd k.at_ k.get k.cp hn (handed_of k.rel) (h _ (I.tok _))

theorem getmeth_ok {m : Str} {g : Addr} {pl : Sem Bool} {Q : Value × List Value → Shared → Prop} (I : Inv X pins σ H s) (e : H a = some (.ins C dx fs)) (c : Cls X.K C) (k : Meth X.K C m g) (l : fs.lookup m = none)
    (h : Q (.ref g, [.ref a]) s) : wpAny (model X.prog X.w) A (getMethod (.ref a) m pl) Q E s := by
  obtain ⟨mA, O, r, _, _, _⟩ := ins_get I.hok e
  have hn : mA m = none := RelO.none_of (by rw [← l]; exact r m)
  exact get_meth I.kIn O (c.get m) k.at_ k.fn hn h

theorem setattr_ok {y : V} {u : Value} {Q : Unit → Shared → Prop} (I : Inv X pins σ H s) (e : H a = some (.ins C dx fs)) (c : Cls X.K C) (n : NoAttr X.K C f) (hl : fs.length < 1000) (ry : RelV y u)
    (h : ∀ s', Inv X pins σ (upd H a (.ins C dx (putF f y fs))) s' → Q () s') : wpAny (model X.prog X.w) A (setAttr (.ref a) f u) Q E s := by
  obtain ⟨mA, O, r, wi, _, ho⟩ := ins_get I.hok e
  have hz : (fs.map (·.1)).length ≤ sizeLine := by rw [List.length_map, sizeLine_eq]; omega
  refine set_map I.kIn O c.sa c.po n.taker c.hd wi hz fun h' O' sb => h _ ?_
  have hd : ∃ o, h'.get? dx = some o := let ⟨o, _, _, e', _⟩ := O'.ns; ⟨o, e'⟩
  refine I.write (x := a) (e := dx) (by rw [e]; exact True.intro) (.inr ho) (fun b q hb z => (sb.2 b hb).trans z) hd ?_
  refine ⟨by rw [upd_ne O.ne]; exact ho, ?_, O.ne, O'.obj, _, O'.ns, fun g => ?_, fun g hg => ?_⟩
  · have := length_putF f y fs; omega
  · show RelO ((putF f y fs).lookup g) (if g = f then some u else mA g)
    rw [lookup_putF]
    by_cases q : g = f
    · rw [if_pos q, if_pos q]; exact ry
    · rw [if_neg q, if_neg q]; exact r g
  · by_cases q : g = f
    · rw [q]; exact (keys_putF f y fs).1
    · refine (keys_putF f y fs).2 g (wi g fun z => hg ?_)
      show (if g = f then some u else mA g) = none
      rw [if_neg q]; exact z

/-- a new instance, tracked, without attributes -/
theorem Inv.made (I : Inv X pins σ H s) : Inv X pins σ (upd (upd H s.heap.objs.size (.own (s.heap.objs.size + 1))) (s.heap.objs.size + 1) (.ins C s.heap.objs.size []))
    { s with heap := (s.heap.push PySem.W.emptyDict).push (PySem.W.instObj C s.heap.objs.size) } := by
  have e1 : (s.heap.push PySem.W.emptyDict).get? s.heap.objs.size = some PySem.W.emptyDict := Heap.get?_push_size s.heap rfl
  have e2 : ((s.heap.push PySem.W.emptyDict).push (PySem.W.instObj C s.heap.objs.size)).get? (s.heap.objs.size + 1) = some (PySem.W.instObj C s.heap.objs.size) := by
    have := Heap.get?_push_size (s.heap.push PySem.W.emptyDict) (o := PySem.W.instObj C s.heap.objs.size) rfl
    rwa [Heap.size_push] at this
  have e3 : (s.heap.push PySem.W.emptyDict).Ns s.heap.objs.size (fun _ => none) := ⟨PySem.W.emptyDict, #[], _, e1, rfl, (fun e he => absurd he (by simp)), fun _ => rfl⟩
  have I1 := I.laid (a := s.heap.objs.size) (o := .own (s.heap.objs.size + 1)) (h' := s.heap.push PySem.W.emptyDict) (t' := s.toks) (fun b u q => Heap.get?_push_of_some _ q) (Nat.le_refl _) ⟨_, e1⟩
  refine I1.laid (a := s.heap.objs.size + 1) (o := .ins C s.heap.objs.size []) (t' := s.toks) (fun b u q => Heap.get?_push_of_some _ q) (Nat.le_of_eq (Heap.size_push _ _)) ?_
  have ne : s.heap.objs.size ≠ s.heap.objs.size + 1 := Nat.ne_of_lt (Nat.lt_succ_self _)
  refine ⟨by rw [upd_ne ne, upd_same], Nat.zero_le _, ne, e2, fun _ => none, (Heap.Ns1.of_empty e3).at fun o q => Heap.get?_push_of_some _ q, fun _ => True.intro, fun y hy => absurd rfl hy⟩

/-- e.f where nothing but the object is asked: through attributeBase (super) and the last hold -/
theorem attr_of {prog : Program} {w : World} {env : Env} {e : Expr} {f : Str} {pos : Pos} {s : Shared} {Q : Value → Shared → Prop} (hb : attributeBase e f env (eval e env) = eval e env)
    (h : wpAny (model prog w) A (eval e env) (fun o s₁ => wpAny (model prog w) A (getAttr o f true) Q E s₁) E s) : wpAny (model prog w) A (eval (.Attribute e f pos) env) Q E s :=
  Attribute_any_ h (by rw [arm_eval_Attribute, hb])
end

/-! ### readings and rules -/
/-- e.f, an attribute of the instance -/
def tFld (K : PySem.W.Frag) (ta : TE) (f : Str) : TE := fun σ H Q => ta σ H fun x H1 => ∃ a C dx fs v, x = .ref a ∧ H1 a = some (.ins C dx fs) ∧ Cls K C ∧ NoAttr K C f ∧ fs.lookup f = some v ∧ Q v H1
/-- e.f, a constant of the class -/
def tCon (K : PySem.W.Frag) (ta : TE) (f : Str) : TE := fun σ H Q => ta σ H fun x H1 => ∃ a C dx fs v u, x = .ref a ∧ H1 a = some (.ins C dx fs) ∧ Cls K C ∧ Con K C f v u ∧ fs.lookup f = none ∧ Q v H1
/-- e.f = value -/
def sFld (K : PySem.W.Frag) (ta tv : TE) (f : Str) : TS := fun D σ H => tv σ H fun y H1 => ta σ H1 fun x H2 => ∃ a C dx fs, x = .ref a ∧ H2 a = some (.ins C dx fs) ∧ Cls K C ∧ NoAttr K C f ∧ fs.length < 1000 ∧
  D.nx σ (upd H2 a (.ins C dx (putF f y fs)))
/-- an augmented operator on two values -/
def InOp (X : Cx) (op : Operator) (rd : V → V → Hp → VK → Prop) : Prop :=
  ∀ (pins : List (Addr × Obj)) (s : Shared) (σ : St) (H : Hp) (x y : V) (u v : Value) (Q : VK), Inv X pins σ H s → RelV x u → RelV y v → rd x y H Q → wpAny (model X.prog X.w) X.A (inplaceOp op u v) (EP X pins σ Q) X.xe s
/-- e.f op= value -/
def sFldAug (K : PySem.W.Frag) (ta tv : TE) (rd : V → V → Hp → VK → Prop) (f : Str) : TS := fun D σ H => ta σ H fun x H1 => ∃ a C dx fs v, x = .ref a ∧ H1 a = some (.ins C dx fs) ∧ Cls K C ∧ NoAttr K C f ∧ fs.lookup f = some v ∧
  tv σ H1 fun y H2 => rd v y H2 fun z H3 => ∃ dx' fs', H3 a = some (.ins C dx' fs') ∧ fs'.length < 1000 ∧ D.nx σ (upd H3 a (.ins C dx' (putF f z fs')))

section
variable {X : Cx} {o e value : Expr} {f : Str} {pos pos' tpos : Pos} {ta tv : TE}
theorem pe_fld (he : PE X e ta) (hb : attributeBase e f X.env (eval e X.env) = eval e X.env) : PE X (.Attribute e f pos) (tFld X.K ta f) := by
  intro pins s σ H Q I h
  refine attr_of hb (thn (he pins s σ H _ I h) fun u s1 ⟨x, H1, I1, rx, a, C, dx, fs, v, ex, ea, c, n, l, q⟩ => ?_)
  subst ex
  obtain rfl : u = Value.ref a := rx
  exact getattr_ok I1 ea c n l fun u' s2 I2 ru => ⟨v, H1, I2, ru, q⟩
theorem pe_con (he : PE X e ta) (hb : attributeBase e f X.env (eval e X.env) = eval e X.env) : PE X (.Attribute e f pos) (tCon X.K ta f) := by
  intro pins s σ H Q I h
  refine attr_of hb (thn (he pins s σ H _ I h) fun u s1 ⟨x, H1, I1, rx, a, C, dx, fs, v, u0, ex, ea, c, k, l, q⟩ => ?_)
  subst ex
  obtain rfl : u = Value.ref a := rx
  exact getcon_ok I1 ea c k l fun s2 I2 => ⟨v, H1, I2, k.rel, q⟩
theorem ps_fld (ha : PE X o ta) (hv : PE X value tv) (hs : swapsWith value (some (.Attribute o f pos')) pos.line X.env = pure false) : PS X (.Assign [.Attribute o f pos'] value pos) (sFld X.K ta tv f) := by
  intro pins s σ H D I h
  refine plainObj_wpAny_Assign_Attribute (thn (hv pins s σ H _ I h) fun u s1 ⟨y, H1, I1, ry, q⟩ => thn (ha pins s1 σ H1 _ I1 q) fun ov s2 ⟨x, H2, I2, rx, a, C, dx, fs, ex, ea, c, n, l, q2⟩ => ?_) hs
  subst ex
  obtain rfl : ov = Value.ref a := rx
  exact setattr_ok I2 ea c n l ry fun s3 I3 => ⟨σ, _, I3, q2⟩
theorem ps_fldaug {op : Operator} {rd : V → V → Hp → VK → Prop} (ha : PE X o ta) (hv : PE X value tv) (hop : InOp X op rd) : PS X (.AugAssign (.Attribute o f tpos) op value pos) (sFldAug X.K ta tv rd f) := by
  intro pins s σ H D I h
  refine wpAny_AugAssign_AttributeAny (thn (ha pins s σ H _ I h) fun ov s1 ⟨x, H1, I1, rx, a, C, dx, fs, v, ex, ea, c, n, l, q⟩ => ?_)
  subst ex
  obtain rfl : ov = Value.ref a := rx
  refine getattr_ok I1 ea c n l fun u s2 I2 ru => thn (hv pins s2 σ H1 _ I2 q) fun w3 s3 ⟨y, H2, I3, ry, q3⟩ => thn (hop pins s3 σ H2 v y u w3 _ I3 ru ry q3) fun w4 s4 ⟨z, H3, I4, rz, dx', fs', ea', l', q4⟩ => ?_
  exact setattr_ok I4 ea' c n l' rz fun s5 I5 => ⟨σ, _, I5, q4⟩
def rAdd : V → V → Hp → VK → Prop := fun x y H Q => ∃ i j, x = .int i ∧ y = .int j ∧ Q (.int (i + j)) H
def rSub : V → V → Hp → VK → Prop := fun x y H Q => ∃ i j, x = .int i ∧ y = .int j ∧ Q (.int (i - j)) H
theorem in_add : InOp X .Add rAdd := by
  rintro pins s σ H x y u v Q I rx ry ⟨i, j, rfl, rfl, q⟩
  obtain ⟨t, rfl⟩ := (show ∃ t, u = Value.int i t from rx)
  obtain ⟨t', rfl⟩ := (show ∃ t', v = Value.int j t' from ry)
  exact PyProof.Rows.iadd_int ⟨.int (i + j), H, I.tok _, ⟨_, rfl⟩, q⟩
theorem in_sub : InOp X .Sub rSub := by
  rintro pins s σ H x y u v Q I rx ry ⟨i, j, rfl, rfl, q⟩
  obtain ⟨t, rfl⟩ := (show ∃ t, u = Value.int i t from rx)
  obtain ⟨t', rfl⟩ := (show ∃ t', v = Value.int j t' from ry)
  exact PyProof.Rows.isub_int ⟨.int (i - j), H, I.tok _, ⟨_, rfl⟩, q⟩

/-- what is between an instance and its method: the tree of a method call -/
theorem methcall_of {pl : Sem Bool} {m : Str} {apos : Pos} {args : List Expr} {pins : List (Addr × Obj)} {s : Shared} {σ : St} {H : Hp} {Q : Value → Shared → Prop} {te : TE} (he : PE X e te) (I : Inv X pins σ H s)
    (h : te σ H fun x H1 => ∃ a C dx fs g, x = .ref a ∧ H1 a = some (.ins C dx fs) ∧ Cls X.K C ∧ Meth X.K C m g ∧ fs.lookup m = none ∧
      ∀ s1, Inv X pins σ H1 s1 → wpAny (model X.prog X.w) X.A (callWith pos (.ref g) [.ref a] (backTo pos (starEach args X.env)) (backToKw pos (keywordEach [] X.env))) Q X.xe s1)
    (ht : eval (.Call (.Attribute e m apos) args [] pos) X.env = (do
      let ov ← eval e X.env
      standAt apos.atName
      let (f, first) ← holding [ov] (getMethod ov m pl)
      callWith pos f first (backTo pos (starEach args X.env)) (backToKw pos (keywordEach [] X.env)))) :
    wpAny (model X.prog X.w) X.A (eval (.Call (.Attribute e m apos) args [] pos) X.env) Q X.xe s := by
  refine PySem.W.methodCall_KW (pl := pl) (thn (he pins s σ H _ I h) fun u s1 ⟨x, H1, I1, rx, a, C, dx, fs, g, ex, ea, c, k, l, q⟩ => ?_) ht
  subst ex
  obtain rfl : u = Value.ref a := rx
  exact getmeth_ok I1 ea c k l (q s1 I1)
end

/-! ### isinstance -/
section
variable {X : Cx} {pins : List (Addr × Obj)} {σ : St} {H : Hp} {s : Shared} {A : Around} {E : Value → Shared → Prop} {Q : Value → Shared → Prop} {c : Value} {b : Bool}
/-- the type of a value, as the fragment's deciders take it; for an instance its class -/
inductive TyOf (K : PySem.W.Frag) (H : Hp) : V → Value → Prop where
  | non : TyOf K H .non (.type "NoneType")
  | bl (x : Bool) : TyOf K H (.bl x) (.type "bool")
  | int (i : Int) : TyOf K H (.int i) (.type "int")
  | str (x : Str) : TyOf K H (.str x) (.type "str")
  | flt (x : UInt64) : TyOf K H (.flt x) (.type "float")
  | lst {a : Addr} {xs : List V} (e : H a = some (.lst xs)) : TyOf K H (.ref a) (.type "list")
  | frz {a : Addr} {o : Obj} {xs : List V} (e : H a = some (.frz o (.lst xs))) : TyOf K H (.ref a) (.type "list")
  | tup {a : Addr} {xs : List V} (e : H a = some (.tup xs)) : TyOf K H (.ref a) (.type "tuple")
  | dK {a : Addr} {kvs : List (Key × V)} (e : H a = some (.dK kvs)) : TyOf K H (.ref a) (.type "dict")
  | dT {a : Addr} {kvs : List (List Key × V)} (e : H a = some (.dT kvs)) : TyOf K H (.ref a) (.type "dict")
  | ins {a C dx : Addr} {fs : List (Str × V)} (e : H a = some (.ins C dx fs)) (cl : Cls K C) (ha : PySem.W.findIn K (.ref C) "__class__" = some (some (.builtin "object.__class__")))
      (hn : PySem.W.specialIn K (.builtin "object.__class__") "__get__" = some (some (.builtin "getset_descriptor.__get__"))) (htk : PySem.W.takesIn K (.builtin "object.__class__") = some true)
      (hm : PySem.W.mroIn K C (.type "object") = some true) : TyOf K H (.ref a) (.ref C)
/-- isinstance(x, c) for one class c, a built-in or an own one: kitOne's answer -/
theorem isinst_ok {x : V} {u t : Value} (I : Inv X pins σ H s) (rx : RelV x u) (ty : TyOf X.K H x t) (e : PySem.W.kitOne X.K t c = some b) (h : ∀ tk, Q (.bool b) { s with toks := tk }) :
    wpAny (model X.prog X.w) A (call (.builtin "isinstance") [u, c]) Q E s := by
  cases ty with
  | non => cases (show u = Value.none from rx); exact PySem.W.kia_one PySem.W.kitx_none I.kIn True.intro e (fun z => nomatch z) h
  | bl y => cases (show u = Value.bool y from rx); exact PySem.W.kia_one PySem.W.kitx_bool I.kIn True.intro e (fun z => nomatch z) h
  | int i => obtain ⟨t, q⟩ := (show ∃ t, u = Value.int i t from rx); cases q; exact PySem.W.kia_one PySem.W.kitx_int I.kIn True.intro e (fun z => nomatch z) h
  | str y => obtain ⟨t, q⟩ := (show ∃ t, u = Value.str y t from rx); cases q; exact PySem.W.kia_one PySem.W.kitx_str I.kIn True.intro e (fun z => nomatch z) h
  | flt y => obtain ⟨t, q⟩ := (show ∃ t, u = Value.float y t from rx); cases q; exact PySem.W.kia_one PySem.W.kitx_float I.kIn True.intro e (fun z => nomatch z) h
  | @lst a xs ea =>
    cases (show u = Value.ref a from rx)
    obtain ⟨_, _, n, _, h1⟩ := (show ObjOk X.prog X.w H s.heap a (.lst xs) from I.hok a _ ea)
    exact PySem.W.kia_one PySem.W.kitx_list I.kIn ⟨_, h1, rfl⟩ e (fun z => nomatch z) h
  | @frz a ob xs ea =>
    cases (show u = Value.ref a from rx)
    obtain ⟨_, _, _, n, _, h1⟩ := (show ObjOk X.prog X.w H s.heap a (.frz ob (.lst xs)) from I.hok a _ ea)
    exact PySem.W.kia_one PySem.W.kitx_list I.kIn ⟨_, h1, rfl⟩ e (fun z => nomatch z) h
  | @tup a xs ea =>
    cases (show u = Value.ref a from rx)
    obtain ⟨_, _, _, p⟩ := (show ObjOk X.prog X.w H s.heap a (.tup xs) from I.hok a _ ea)
    obtain ⟨o, h1, h2, _⟩ := p
    exact PySem.W.kia_one PySem.W.kitx_tuple I.kIn ⟨o, h1, h2⟩ e (fun z => nomatch z) h
  | @dK a kvs ea =>
    cases (show u = Value.ref a from rx)
    obtain ⟨_, _, vs, _, p⟩ := (show ObjOk X.prog X.w H s.heap a (.dK kvs) from I.hok a _ ea)
    obtain ⟨o, es, ep, h1, h2, _⟩ := p
    exact PySem.W.kia_one PySem.W.kitx_dict I.kIn ⟨o, h1, h2.1⟩ e (fun z => nomatch z) h
  | @dT a kvs ea =>
    cases (show u = Value.ref a from rx)
    obtain ⟨_, _, xs, _, o, es, ep, h1, h2, _⟩ := (show ObjOk X.prog X.w H s.heap a (.dT kvs) from I.hok a _ ea)
    exact PySem.W.kia_one PySem.W.kitx_dict I.kIn ⟨o, h1, h2.1⟩ e (fun z => nomatch z) h
  | @ins a C dx fs ea cl ha hn htk hm =>
    cases (show u = Value.ref a from rx)
    obtain ⟨mA, O, _⟩ := ins_get I.hok ea
    obtain ⟨od, J, _⟩ := O.look
    exact PySem.W.kia_one (PySem.W.kitx_own (cl.get _) cl.hd ha hn htk hm) I.kIn J e (fun z => nomatch z) h
end
end L2

namespace L2
open PySem PySem.Spec PyProof.Rows

/-! ### room -/
structure Room (k : Nat) (A : Around) : Prop where
  hd : A.handled = none
  dp : A.depth + 3 * k + 5 < recursionLimit
  un : A.units + 16 * k + 200 < cLine
theorem Room.mono {j k : Nat} {A : Around} (r : Room k A) (h : j ≤ k) : Room j A := ⟨r.hd, by have := r.dp; omega, by have := r.un; omega⟩
theorem Room.deeper {k : Nat} {A : Around} (r : Room (k + 1) A) (env : Env) : Room k (A.deeper env) :=
  ⟨r.hd, by have := r.dp; show A.depth + 1 + 3 * k + 5 < _; omega, by have := r.un; show A.units + 3 + 16 * k + 200 < _; omega⟩
theorem Room.in1 {k : Nat} {A : Around} (r : Room (k + 1) A) : Room k A.in1 :=
  ⟨r.hd, by have := r.dp; show A.depth + 3 * k + 5 < _; omega, by have := r.un; show A.units + 1 + 16 * k + 200 < _; omega⟩
theorem make_depth {A : Around} {C : Addr} {us : List Value} {kw : List (Str × Value)} : (A.under (.builtin "type.__call__" ⟨.ref C :: us, kw⟩)).depth = A.depth + 1 := by
  first | rfl | simp [Around.under, Code.weight, Code.isCreation, Code.isGuard, Code.isCaller, Code.frames, Code.isFrame, guardIds]
theorem make_units {A : Around} {C : Addr} {us : List Value} {kw : List (Str × Value)} : (A.under (.builtin "type.__call__" ⟨.ref C :: us, kw⟩)).units = A.units + 1 := by
  first | rfl | simp [Around.under, Code.cUnits, Code.frames, Code.isFrame]
theorem Room.make {k : Nat} {A : Around} (r : Room (k + 1) A) (C : Addr) (us : List Value) (kw : List (Str × Value)) : Room k (A.under (.builtin "type.__call__" ⟨.ref C :: us, kw⟩)) :=
  ⟨r.hd, by have := r.dp; rw [make_depth]; omega, by have := r.un; rw [make_units]; omega⟩
theorem Room.depth {k : Nat} {A : Around} (r : Room k A) : A.depth < recursionLimit := by have := r.dp; omega
theorem Room.units {k : Nat} {A : Around} (r : Room k A) : A.units + 64 < cLine := by have := r.un; omega
theorem Room.units0 {k : Nat} {A : Around} (r : Room k A) : A.units < cLine := by have := r.un; omega

/-! ### argument lists and displays -/
def tNil : TA := fun _ H Q => Q [] H
def tCons (ta : TE) (tr : TA) : TA := fun σ H Q => ta σ H fun x H1 => tr σ H1 fun xs H2 => Q (x :: xs) H2
section
variable {X : Cx} {e : Expr} {es : List Expr} {te : TE} {t : TA} {pos : Pos}
theorem pa_nil : PA X [] tNil := fun _ _ _ _ H Q I h => Calls.spliced_nil ⟨[], H, I, .nil, h⟩
theorem pa_cons (ha : PE X e te) (hr : PA X es t) (hs : starEach (e :: es) X.env = (false, eval e X.env) :: starEach es X.env := by rfl) : PA X (e :: es) (tCons te t) := by
  intro pos pins s σ H Q I h
  rw [hs]
  show wpAny _ _ (spliced ((false, eval e X.env) :: backTo pos (starEach es X.env))) _ _ s
  refine Calls.spliced_cons (thn (ha pins s σ H _ I h) fun u s1 ⟨x, H1, I1, r1, q1⟩ => ?_)
  exact thn (hr pos pins s1 σ H1 _ I1 q1) fun us s2 ⟨xs, H2, I2, r2, q2⟩ => ⟨x :: xs, H2, I2, .cons r1 r2, q2⟩

/-- a tuple, a list of written items -/
def tTup (t : TA) : TE := fun σ H Q => t σ H fun xs H1 => xs.length ≤ sizeLine ∧ ∀ p, H1 p = none → Q (.ref p) (upd H1 p (.tup xs))
def tLst (t : TA) : TE := fun σ H Q => t σ H fun xs H1 => xs.length ≤ sizeLine ∧ ∀ p, H1 p = none → Q (.ref p) (upd H1 p (.lst xs))
theorem pe_tup {x1} (h : PA X es t) : PE X (.Tuple es x1 pos) (tTup t) := by
  intro pins s σ H Q I hq
  refine wpAny_Tuple_spliced (thn (h pos pins s σ H _ I hq) fun us s1 ⟨xs, H1, I1, r, z, q⟩ => ⟨by rw [← r.length]; exact z, ?_⟩)
  have hf : H1 s1.heap.objs.size = none := I1.hok.fresh (Nat.le_refl _)
  refine ⟨.ref s1.heap.objs.size, upd H1 s1.heap.objs.size (.tup xs), I1.laid (t' := s1.toks) (fun b u e => Heap.get?_push_of_some _ e) (Nat.le_refl _) ?_, rfl, q _ hf⟩
  exact ⟨z, us, r, ⟨_, Heap.get?_push_size _ rfl, rfl, _, rfl⟩⟩
theorem pe_lst (h : PA X es t) : PE X (.List es pos) (tLst t) := by
  intro pins s σ H Q I hq
  refine wpAny_List_spliced (thn (h pos pins s σ H _ I hq) fun us s1 ⟨xs, H1, I1, r, z, q⟩ => ⟨by rw [← r.length]; exact z, ?_⟩)
  have hf : H1 s1.heap.objs.size = none := I1.hok.fresh (Nat.le_refl _)
  refine ⟨.ref s1.heap.objs.size, upd H1 s1.heap.objs.size (.lst xs), I1.laid (t' := s1.toks) (fun b u e => Heap.get?_push_of_some _ e) (Nat.le_refl _) ?_, rfl, q _ hf⟩
  exact ⟨z, us, 0, r, Heap.get?_push_size _ rfl⟩
end

/-! ### what a def promises -/
/-- a def's promise: the bound arguments in the parameters' order, the heap, the wanted end, the wanted exception -/
abbrev Sp := List V → Hp → VK → XK → Prop
/-- how an exception lies behind a call (file 08 gives it): the callers' frames, abstract heap and state ahead of the call, the wish, the exception, the state -/
abbrev CXT := List Env → Hp → Shared → XK → Value → Shared → Prop

/-- the state at a call -/
structure Env0 (P : Program) (w : World) (K : PySem.W.Frag) (mg : Str → Option Value) (base : Heap) (A : Around) (outer : List Env) (s : Shared) (H : Hp) : Prop where
  frames : A.frames = some outer
  mod : Mod K mg base
  bs : ∀ b o, base.get? b = some o → s.heap.get? b = some o ∧ H b = none
  bsz : base.objs.size ≤ s.heap.objs.size
  funs : s.heap.FunFrames base outer
  frf : ∀ b ∈ frs outer, H b = none
  hok : HOk P w H s.heap
  bare : AllBare s.gens
  tk : 0 < s.toks
/-- a call's end -/
def CE (outer : List Env) (P : Program) (w : World) (H : Hp) (s : Shared) (Q : VK) (u : Value) (s' : Shared) : Prop :=
  ∃ v H', s'.os = s.os ∧ AllBare s'.gens ∧ Un (frs outer) [] H H' s.heap s'.heap ∧ HOk P w H' s'.heap ∧ 0 < s'.toks ∧ RelV v u ∧ Q v H'
def CR (CX : CXT) (outer : List Env) (P : Program) (w : World) (H : Hp) (s : Shared) (Q : VK) (E : XK) (r : Result) (s' : Shared) : Prop :=
  match r with
  | .ok (.ret u) => CE outer P w H s Q u s'
  | .ok _ => False
  | .error e => CX outer H s E e s'
structure FnOk (P : Program) (w : World) (K : PySem.W.Frag) (mg : Str → Option Value) (base : Heap) (CX : CXT) (k : Nat) (f : Addr) (fd : FuncData) (ps : List Str) (sp : Sp) : Prop where
  len : ∀ vs H Q E, sp vs H Q E → vs.length = ps.length
  run : ∀ (A : Around) (outer : List Env) (s : Shared) (H : Hp) (args : Args) (us : List Value) (vs : List V) (Q : VK) (E : XK), Room k A → Env0 P w K mg base A outer s H → BindsTo s fd args (ps.zip us) → Vals vs us → sp vs H Q E →
    codeAny (model P w) A (.call (.ref f) args) (CR CX outer P w H s Q E) s
theorem FnOk.mono {P : Program} {w : World} {K : PySem.W.Frag} {mg : Str → Option Value} {base : Heap} {CX : CXT} {j k : Nat} {f : Addr} {fd : FuncData} {ps : List Str} {sp : Sp} (F : FnOk P w K mg base CX j f fd ps sp) (h : j ≤ k) :
    FnOk P w K mg base CX k f fd ps sp := ⟨F.len, fun A outer s H args us vs Q E hr => F.run A outer s H args us vs Q E (hr.mono h)⟩
/-- a weaker promise -/
theorem FnOk.imp {P : Program} {w : World} {K : PySem.W.Frag} {mg : Str → Option Value} {base : Heap} {CX : CXT} {k : Nat} {f : Addr} {fd : FuncData} {ps : List Str} {sp sp' : Sp} (F : FnOk P w K mg base CX k f fd ps sp)
    (h : ∀ vs H Q E, sp' vs H Q E → sp vs H Q E) : FnOk P w K mg base CX k f fd ps sp' :=
  ⟨fun vs H Q E q => F.len vs H Q E (h _ _ _ _ q), fun A outer s H args us vs Q E hr he hb hv hs => F.run A outer s H args us vs Q E hr he hb hv (h _ _ _ _ hs)⟩

theorem Env0.make {P : Program} {w : World} {K : PySem.W.Frag} {mg : Str → Option Value} {base : Heap} {A : Around} {outer : List Env} {s : Shared} {H : Hp} (e : Env0 P w K mg base A outer s H) (C : Addr) (us : List Value) (kw : List (Str × Value)) :
    Env0 P w K mg base (A.under (.builtin "type.__call__" ⟨.ref C :: us, kw⟩)) outer s H := ⟨by first | exact e.frames | (simpa [Around.under, Code.envs, Code.isFrame, pushEnvs] using e.frames), e.mod, e.bs, e.bsz, e.funs, e.frf, e.hok, e.bare, e.tk⟩
theorem Env0.in1 {P : Program} {w : World} {K : PySem.W.Frag} {mg : Str → Option Value} {base : Heap} {A : Around} {outer : List Env} {s : Shared} {H : Hp} (e : Env0 P w K mg base A outer s H) :
    Env0 P w K mg base A.in1 outer s H := ⟨e.frames, e.mod, e.bs, e.bsz, e.funs, e.frf, e.hok, e.bare, e.tk⟩

section
variable {X : Cx} {pins : List (Addr × Obj)} {σ : St} {H : Hp} {s s' : Shared}
/-- from a body: what a callee wants -/
theorem Inv.env0 (I : Inv X pins σ H s) : Env0 X.prog X.w X.K X.mg X.base X.A X.stack s H :=
  ⟨I.ok.frames, I.ok.mod, I.bs, Nat.le_trans I.ok.bsz I.sz, I.stack, I.stkFree, I.hok, I.bare, I.tk⟩
/-- behind a call -/
theorem Inv.after {Q : VK} {u : Value} (I : Inv X pins σ H s) (h : CE X.stack X.prog X.w H s Q u s') : EP X pins σ Q u s' := by
  obtain ⟨v, H', os, bare, un, hok, tk', r, q⟩ := h
  obtain ⟨hh, g, d, t, os'⟩ := s'
  obtain rfl : os' = s.os := os
  exact ⟨v, H', I.call (h' := hh) (g' := g) (d' := d) (t' := t) (ch := []) un hok bare (fun b z => absurd z (by simp)) tk', r, q⟩
end

/-! ### calls -/
/-- f(..): the written arguments, then the defaults dvs; E: what is wanted of an exception -/
def tCall (sp : Sp) (dvs : List V) (E : XK) (t : TA) : TE := fun σ H Q => t σ H fun vs H1 => sp (vs ++ dvs) H1 Q E
/-- o.m(..) of an instance of the class at C -/
def tMeth (C : Addr) (m : Str) (sp : Sp) (dvs : List V) (E : XK) (ta : TE) (t : TA) : TE := fun σ H Q => ta σ H fun x H1 => ∃ a dx fs, x = .ref a ∧ H1 a = some (.ins C dx fs) ∧ fs.lookup m = none ∧
  t σ H1 fun vs H2 => sp (x :: (vs ++ dvs)) H2 Q E
/-- C(..): a new instance and its dict, then __init__ -/
def tMake (C : Addr) (sp : Sp) (dvs : List V) (E : XK) (t : TA) : TE := fun σ H Q => t σ H fun vs H1 => ∀ x dx, H1 x = none → H1 dx = none → dx ≠ x →
  sp (.ref x :: (vs ++ dvs)) (upd (upd H1 dx (.own x)) x (.ins C dx [])) (fun v H2 => v = .non ∧ Q (.ref x) H2) E

/-- how the parameters are bound: us the positional arguments, kw the keywords' values by name, ds the defaults that fill up -/
def Binds (K : PySem.W.Frag) (fd : FuncData) (ps : List Str) (ds : List Value) : Prop :=
  ∀ (s : Shared) (us : List Value), K.In s.heap → (us ++ ds).length = ps.length → BindsTo s fd ⟨us, []⟩ (ps.zip (us ++ ds))
/-- every parameter is given -/
theorem Binds.all {K : PySem.W.Frag} {fd : FuncData} {ps : List Str} (h : ∀ us : List Value, us.length = ps.length → bindArgs fd ⟨us, []⟩ = pure (ps.zip us)) : Binds K fd ps [] := fun s us _ hl => by
  rw [List.append_nil] at hl ⊢
  exact .of_eq (h us hl)

/-- an exception of a callee reaches what this body wants of exceptions -/
def Passes (CX : CXT) (X : Cx) (E : XK) : Prop := ∀ (pins : List (Addr × Obj)) (σ : St) (H : Hp) (s : Shared) (e : Value) (s' : Shared), Inv X pins σ H s → CX X.stack H s E e s' → X.xe e s'

section
variable {X : Cx} {CX : CXT} {k : Nat} {f C : Addr} {fd : FuncData} {ps : List Str} {sp : Sp} {dvs : List V} {ds : List Value} {E : XK} {x m : Str} {p pos apos : Pos} {e o : Expr} {es : List Expr} {ta : TE} {t : TA}

/-- the callee runs -/
theorem run_fn {pins : List (Addr × Obj)} {σ : St} {H : Hp} {s : Shared} {Q : VK} {us : List Value} {vs : List V} (F : FnOk X.prog X.w X.K X.mg X.base CX k f fd ps sp) (hr : Room k X.A) (hb : Binds X.K fd ps ds) (hd : Vals dvs ds) (hx : Passes CX X E)
    (I : Inv X pins σ H s) (r : Vals vs us) (h : sp (vs ++ dvs) H Q E) : wpAny (model X.prog X.w) X.A (call (.ref f) us) (EP X pins σ Q) X.xe s := by
  have r2 : Vals (vs ++ dvs) (us ++ ds) := r.append hd
  have hl : (us ++ ds).length = ps.length := by rw [← r2.length]; exact F.len _ _ _ _ h
  refine wpAny_call (codeAny_mono (F.run X.A X.stack s H ⟨us, []⟩ (us ++ ds) (vs ++ dvs) Q E hr I.env0 (hb s us I.kIn hl) r2 h) fun r s' hq => ?_)
  cases r with
  | error e => exact hx pins σ H s e s' I hq
  | ok fl =>
    cases fl with
    | ret u => exact I.after hq
    | next => exact False.elim hq
    | brk => exact False.elim hq
    | cont => exact False.elim hq

theorem pe_call (F : FnOk X.prog X.w X.K X.mg X.base CX k f fd ps sp) (hr : Room k X.A) (hg : Gl X x) (hm : X.mg x = some (.ref f)) (hk : PySem.W.keepIn X.K (.ref f) = true) (hb : Binds X.K fd ps ds) (hd : Vals dvs ds) (hx : Passes CX X E)
    (ha : PA X (e :: es) t) (hdb : (x == ("__debug__" : Str)) = false := by decide) (he : starEach (e :: es) X.env = (false, eval e X.env) :: starEach es X.env := by rfl) (hpl : (backTo pos (starEach es X.env)).any (·.1) = false := by rfl) :
    PE X (.Call (.Name x p) (e :: es) [] pos) (tCall sp dvs E t) := by
  intro pins s σ H Q I h
  refine wpAny_Call_Name_kw (ld_glob I hg hm ?_ hdb)
  refine PySem.W.callWith_K (h₀ := X.base) I.ok.mod.kin hk (thn (ha pos pins s σ H _ I h) fun us s1 ⟨vs, H1, I1, r, q⟩ => ⟨I1.kIn, ?_⟩) he hpl
  exact run_fn F hr hb hd hx I1 r q
theorem pe_call0 (F : FnOk X.prog X.w X.K X.mg X.base CX k f fd ps sp) (hr : Room k X.A) (hg : Gl X x) (hm : X.mg x = some (.ref f)) (hk : PySem.W.keepIn X.K (.ref f) = true) (hb : Binds X.K fd ps ds) (hd : Vals dvs ds) (hx : Passes CX X E)
    (hdb : (x == ("__debug__" : Str)) = false := by decide) : PE X (.Call (.Name x p) [] [] pos) (tCall sp dvs E tNil) := by
  intro pins s σ H Q I h
  refine wpAny_Call_Name_kw (ld_glob I hg hm ?_ hdb)
  exact PySem.W.callWith_K0 I.kIn hk (run_fn (us := []) F hr hb hd hx I .nil h)

/-- o.m(e, ..) -/
theorem pe_meth {pl : Sem Bool} (he : PE X o ta) (c : Cls X.K C) (hm : Meth X.K C m f) (F : FnOk X.prog X.w X.K X.mg X.base CX k f fd ps sp) (hr : Room k X.A) (hb : Binds X.K fd ps ds) (hd : Vals dvs ds) (hx : Passes CX X E) (ha : PA X (e :: es) t)
    (hst : starEach (e :: es) X.env = (false, eval e X.env) :: starEach es X.env := by rfl) (hpl : (backTo pos (starEach es X.env)).any (·.1) = false := by rfl)
    (ht : eval (.Call (.Attribute o m apos) (e :: es) [] pos) X.env = (do
      let ov ← eval o X.env
      standAt apos.atName
      let (f, first) ← holding [ov] (getMethod ov m pl)
      callWith pos f first (backTo pos (starEach (e :: es) X.env)) (backToKw pos (keywordEach [] X.env))) := by rfl) :
    PE X (.Call (.Attribute o m apos) (e :: es) [] pos) (tMeth C m sp dvs E ta t) := by
  intro pins s σ H Q I h
  refine PySem.W.methodCall_KW (pl := pl) (thn (he pins s σ H _ I h) fun u s1 ⟨x, H1, I1, rx, a, dx, fs, ex, ea, l, q⟩ => ?_) ht
  subst ex
  obtain rfl : u = Value.ref a := rx
  refine getmeth_ok I1 ea c hm l ?_
  refine PySem.W.callWith_K (first := [.ref a]) (h₀ := X.base) I.ok.mod.kin hm.kp (thn (ha pos pins s1 σ H1 _ I1 q) fun us s2 ⟨vs, H2, I2, r, q2⟩ => ⟨I2.kIn, ?_⟩) hst hpl
  exact run_fn (us := .ref a :: us) (vs := .ref a :: vs) F hr hb hd hx I2 (.cons rfl r) q2
/-- o.m() -/
theorem pe_meth0 {pl : Sem Bool} (he : PE X o ta) (c : Cls X.K C) (hm : Meth X.K C m f) (F : FnOk X.prog X.w X.K X.mg X.base CX k f fd ps sp) (hr : Room k X.A) (hb : Binds X.K fd ps ds) (hd : Vals dvs ds) (hx : Passes CX X E)
    (ht : eval (.Call (.Attribute o m apos) [] [] pos) X.env = (do
      let ov ← eval o X.env
      standAt apos.atName
      let (f, first) ← holding [ov] (getMethod ov m pl)
      callWith pos f first (backTo pos (starEach [] X.env)) (backToKw pos (keywordEach [] X.env))) := by rfl) :
    PE X (.Call (.Attribute o m apos) [] [] pos) (tMeth C m sp dvs E ta tNil) := by
  intro pins s σ H Q I h
  refine PySem.W.methodCall_KW (pl := pl) (thn (he pins s σ H _ I h) fun u s1 ⟨x, H1, I1, rx, a, dx, fs, ex, ea, l, q⟩ => ?_) ht
  subst ex
  obtain rfl : u = Value.ref a := rx
  refine getmeth_ok I1 ea c hm l ?_
  exact PySem.W.callWith_K0 (first := [.ref a]) I1.kIn hm.kp (run_fn (us := [.ref a]) (vs := [.ref a]) F hr hb hd hx I1 (.cons rfl .nil) q)

/-- what a class must have to be made -/
structure Mk (K : PySem.W.Frag) (C f : Addr) : Prop where
  makes : PySem.W.makesIn K C = true
  init : PySem.W.findIn K (.ref C) "__init__" = some (some (.ref f))
  fn : PySem.W.isFn K (.ref f) = true
  kp : PySem.W.keepIn K (.ref C) = true

theorem run_make {pins : List (Addr × Obj)} {σ : St} {H : Hp} {s : Shared} {Q : VK} {us : List Value} {vs : List V} (M : Mk X.K C f) (F : FnOk X.prog X.w X.K X.mg X.base CX k f fd ps sp) (hr : Room (k + 1) X.A) (hb : Binds X.K fd ps ds) (hd : Vals dvs ds)
    (hx : Passes CX X E) (I : Inv X pins σ H s) (r : Vals vs us)
    (h : ∀ x dx, H x = none → H dx = none → dx ≠ x → sp (.ref x :: (vs ++ dvs)) (upd (upd H dx (.own x)) x (.ins C dx [])) (fun v H2 => v = .non ∧ Q (.ref x) H2) E) :
    wpAny (model X.prog X.w) X.A (call (.ref C) us) (EP X pins σ Q) X.xe s := by
  have hq := h (s.heap.objs.size + 1) s.heap.objs.size (I.hok.fresh (Nat.le_succ _)) (I.hok.fresh (Nat.le_refl _)) (Nat.ne_of_lt (Nat.lt_succ_self _))
  have I2 := Inv.made (C := C) I
  have r2 : Vals (V.ref (s.heap.objs.size + 1) :: (vs ++ dvs)) (Value.ref (s.heap.objs.size + 1) :: (us ++ ds)) := .cons rfl (r.append hd)
  have hl : (Value.ref (s.heap.objs.size + 1) :: us ++ ds).length = ps.length := by
    have e := r2.length
    rw [F.len _ _ _ _ hq] at e
    exact e.symm
  refine wpAny_call (make_map (f := f) I.kIn M.makes M.init (beq_iff_eq.mp M.fn) (codeAny_mono (F.run _ X.stack _ _ ⟨Value.ref (s.heap.objs.size + 1) :: us, []⟩ (Value.ref (s.heap.objs.size + 1) :: (us ++ ds)) _ _ E (hr.make C us [])
    (I2.env0.make C us []) (hb _ (Value.ref (s.heap.objs.size + 1) :: us) I2.kIn hl) r2 hq) fun r s' hq' => ?_))
  cases r with
  | error e => exact hx pins σ _ _ e s' I2 hq'
  | ok fl =>
    cases fl with
    | ret u =>
      obtain ⟨v, H', I3, rv, ev, q3⟩ := I2.after hq'
      subst ev
      exact ⟨rv, ⟨V.ref (s.heap.objs.size + 1), H', I3, rfl, q3⟩⟩
    | next => exact False.elim hq'
    | brk => exact False.elim hq'
    | cont => exact False.elim hq'
theorem pe_make (M : Mk X.K C f) (F : FnOk X.prog X.w X.K X.mg X.base CX k f fd ps sp) (hr : Room (k + 1) X.A) (hg : Gl X x) (hm : X.mg x = some (.ref C)) (hb : Binds X.K fd ps ds) (hd : Vals dvs ds) (hx : Passes CX X E)
    (ha : PA X (e :: es) t) (hdb : (x == ("__debug__" : Str)) = false := by decide) (he : starEach (e :: es) X.env = (false, eval e X.env) :: starEach es X.env := by rfl) (hpl : (backTo pos (starEach es X.env)).any (·.1) = false := by rfl) :
    PE X (.Call (.Name x p) (e :: es) [] pos) (tMake C sp dvs E t) := by
  intro pins s σ H Q I h
  refine wpAny_Call_Name_kw (ld_glob I hg hm ?_ hdb)
  refine PySem.W.callWith_K (h₀ := X.base) I.ok.mod.kin M.kp (thn (ha pos pins s σ H _ I h) fun us s1 ⟨vs, H1, I1, r, q⟩ => ⟨I1.kIn, ?_⟩) he hpl
  exact run_make M F hr hb hd hx I1 r q
theorem pe_make0 (M : Mk X.K C f) (F : FnOk X.prog X.w X.K X.mg X.base CX k f fd ps sp) (hr : Room (k + 1) X.A) (hg : Gl X x) (hm : X.mg x = some (.ref C)) (hb : Binds X.K fd ps ds) (hd : Vals dvs ds) (hx : Passes CX X E)
    (hdb : (x == ("__debug__" : Str)) = false := by decide) : PE X (.Call (.Name x p) [] [] pos) (tMake C sp dvs E tNil) := by
  intro pins s σ H Q I h
  refine wpAny_Call_Name_kw (ld_glob I hg hm ?_ hdb)
  exact PySem.W.callWith_K0 I.kIn M.kp (run_make (us := []) M F hr hb hd hx I .nil h)
end

/-! ### keywords -/
/-- the values of the keywords, from the left -/
def PK (X : Cx) (kws : List Keyword) (t : TA) : Prop :=
  ∀ (pos : Pos) (pins : List (Addr × Obj)) (s : Shared) (σ : St) (H : Hp) (Q : List V → Hp → Prop), Inv X pins σ H s → t σ H Q → wpAny (model X.prog X.w) X.A (evalAll ((backToKw pos (keywordEach kws X.env)).map (·.2))) (AP X pins σ Q) X.xe s
section
variable {X : Cx} {CX : CXT} {k : Nat} {f C : Addr} {fd : FuncData} {ps ks : List Str} {sp : Sp} {E : XK} {x m : Str} {p pos apos kpos : Pos} {e o : Expr} {es : List Expr} {kws : List Keyword} {te ta : TE} {t tk : TA} {nm : Option Str}
theorem pk_nil : PK X [] tNil := fun _ _ _ _ H Q I h => wpAny_evalAll_nil ⟨[], H, I, .nil, h⟩
theorem pk_cons (ha : PE X e te) (hr : PK X kws t) : PK X (⟨nm, e, kpos⟩ :: kws) (tCons te t) := by
  intro pos pins s σ H Q I h
  show wpAny _ _ (evalAll ((do let v ← eval e X.env; standAt pos; pure v) :: (backToKw pos (keywordEach kws X.env)).map (·.2))) _ _ s
  refine wpAny_evalAll_cons (wpAny_bind (thn (ha pins s σ H _ I h) fun u s1 ⟨x, H1, I1, r1, q1⟩ => wpAny_bind (wpAny_standAt (wpAny_pure ?_))))
  exact thn (hr pos pins s1 σ H1 _ I1 q1) fun us s2 ⟨xs, H2, I2, r2, q2⟩ => ⟨x :: xs, H2, I2, .cons r1 r2, q2⟩

/-- how a call with keywords binds: g puts the positional values us and the keywords' values ws (names ks) in the parameters' order, defaults among them -/
structure KBinds (K : PySem.W.Frag) (fd : FuncData) (ps ks : List Str) (g : List Value → List Value → List Value) (gV : List V → List V → List V) : Prop where
  to : ∀ (s : Shared) (us ws : List Value), K.In s.heap → (g us ws).length = ps.length → BindsTo s fd ⟨us, ks.zip ws⟩ (ps.zip (g us ws))
  rel : ∀ {vs : List V} {us : List Value} {zs : List V} {ws : List Value}, Vals vs us → Vals zs ws → Vals (gV vs zs) (g us ws)
def tCallK (sp : Sp) (gV : List V → List V → List V) (E : XK) (t tk : TA) : TE := fun σ H Q => t σ H fun vs H1 => tk σ H1 fun zs H2 => sp (gV vs zs) H2 Q E
variable {g : List Value → List Value → List Value} {gV : List V → List V → List V}
theorem run_fnk {pins : List (Addr × Obj)} {σ : St} {H : Hp} {s : Shared} {Q : VK} {us ws : List Value} {vs zs : List V} (F : FnOk X.prog X.w X.K X.mg X.base CX k f fd ps sp) (hr : Room k X.A) (hb : KBinds X.K fd ps ks g gV) (hx : Passes CX X E)
    (I : Inv X pins σ H s) (r : Vals vs us) (rz : Vals zs ws) (h : sp (gV vs zs) H Q E) : wpAny (model X.prog X.w) X.A (call (.ref f) us (ks.zip ws)) (EP X pins σ Q) X.xe s := by
  have r2 := hb.rel r rz
  have hl : (g us ws).length = ps.length := by rw [← r2.length]; exact F.len _ _ _ _ h
  refine wpAny_call (codeAny_mono (F.run X.A X.stack s H ⟨us, ks.zip ws⟩ (g us ws) (gV vs zs) Q E hr I.env0 (hb.to s us ws I.kIn hl) r2 h) fun r s' hq => ?_)
  cases r with
  | error e => exact hx pins σ H s e s' I hq
  | ok fl =>
    cases fl with
    | ret u => exact I.after hq
    | next => exact False.elim hq
    | brk => exact False.elim hq
    | cont => exact False.elim hq
/-- f(e, .., k = v, ..) -/
theorem pe_callK (F : FnOk X.prog X.w X.K X.mg X.base CX k f fd ps sp) (hr : Room k X.A) (hg : Gl X x) (hm : X.mg x = some (.ref f)) (hk : PySem.W.keepIn X.K (.ref f) = true) (hb : KBinds X.K fd ps ks g gV) (hx : Passes CX X E)
    (ha : PA X (e :: es) t) (hkw : PK X kws tk) (hall : (backToKw pos (keywordEach kws X.env)).all (·.1.isSome) = true := by rfl) (hks : (backToKw pos (keywordEach kws X.env)).filterMap (·.1) = ks := by rfl)
    (hdb : (x == ("__debug__" : Str)) = false := by decide) (he : starEach (e :: es) X.env = (false, eval e X.env) :: starEach es X.env := by rfl)
    (hpl : ((backTo pos (starEach (e :: es) X.env)).any (·.1) || (backToKw pos (keywordEach kws X.env)).any (·.1.isNone)) = false := by rfl) :
    PE X (.Call (.Name x p) (e :: es) kws pos) (tCallK sp gV E t tk) := by
  intro pins s σ H Q I h
  refine wpAny_Call_Name_kw (ld_glob I hg hm ?_ hdb)
  refine PySem.W.callWith_KW (h₀ := X.base) I.ok.mod.kin hk hall (thn (ha pos pins s σ H _ I h) fun us s1 ⟨vs, H1, I1, r, q⟩ => ?_) hpl he
  refine thn (hkw pos pins s1 σ H1 _ I1 q) fun ws s2 ⟨zs, H2, I2, rz, q2⟩ => ⟨I2.kIn, ?_⟩
  rw [hks]
  exact run_fnk F hr hb hx I2 r rz q2
end

/-! ### a def's body keeps its promise -/
/-- names: the parameters first -/
structure FnScope (N P : List Str) (sc : Scope) : Prop where
  kind : sc.kind = .function
  co : sc.isCoroutine = false
  gen : sc.isGenerator = false
  nd : N.Nodup
  pre : N.take P.length = P
  par : ∀ x ∈ P, sc.names.lookup x = some .local ∨ sc.names.lookup x = some .cell
  nofree : ∀ y ∈ sc.names, y.2 ≠ .free

theorem bindL_out {kindOf : Str → Option NameKind} {x : Str} : ∀ {binds : List (Str × Value)} {m : Str → Option Value}, (∀ v, (x, v) ∉ binds) → bindL kindOf binds m x = m x
  | [], _, _ => rfl
  | (n, v) :: r, m, h => by
    unfold bindL
    rw [bindL_out fun w hw => h w (List.mem_cons_of_mem _ hw)]
    split
    · have : x ≠ n := by rintro rfl; exact h v List.mem_cons_self
      simp [this]
    · rfl
theorem bindC_out {kindOf : Str → Option NameKind} {x : Str} : ∀ {binds : List (Str × Value)} {m : Str → Option Value}, (∀ v, (x, v) ∉ binds) → bindC kindOf binds m x = m x
  | [], _, _ => rfl
  | (n, v) :: r, m, h => by
    unfold bindC
    rw [bindC_out fun w hw => h w (List.mem_cons_of_mem _ hw)]
    split
    · rfl
    · have : x ≠ n := by rintro rfl; exact h v List.mem_cons_self
      simp [this]
theorem bindL_get {kindOf : Str → Option NameKind} {x : Str} {v : Value} : ∀ {P : List Str} {vs : List Value} {i : Nat} {m : Str → Option Value}, P.Nodup → P[i]? = some x → vs[i]? = some v → kindOf x = some .local →
    bindL kindOf (P.zip vs) m x = some v
  | [], _, _, _, _, h, _, _ => by simp at h
  | _ :: _, [], _, _, _, _, h, _ => by simp at h
  | p :: P, w :: vs, 0, m, nd, h1, h2, hk => by
    simp at h1 h2; subst h1; subst h2
    show bindL kindOf ((p, w) :: P.zip vs) m p = _
    unfold bindL
    rw [bindL_out fun v hv => (List.nodup_cons.mp nd).1 (List.of_mem_zip hv).1, if_pos hk]
    simp
  | p :: P, w :: vs, i + 1, m, nd, h1, h2, hk => by
    show bindL kindOf ((p, w) :: P.zip vs) m x = _
    unfold bindL
    exact bindL_get (i := i) (List.nodup_cons.mp nd).2 (by simpa using h1) (by simpa using h2) hk
theorem bindC_get {kindOf : Str → Option NameKind} {x : Str} {v : Value} : ∀ {P : List Str} {vs : List Value} {i : Nat} {m : Str → Option Value}, P.Nodup → P[i]? = some x → vs[i]? = some v → kindOf x ≠ some .local →
    bindC kindOf (P.zip vs) m x = some v
  | [], _, _, _, _, h, _, _ => by simp at h
  | _ :: _, [], _, _, _, _, h, _ => by simp at h
  | p :: P, w :: vs, 0, m, nd, h1, h2, hk => by
    simp at h1 h2; subst h1; subst h2
    show bindC kindOf ((p, w) :: P.zip vs) m p = _
    unfold bindC
    rw [bindC_out fun v hv => (List.nodup_cons.mp nd).1 (List.of_mem_zip hv).1, if_neg hk]
    simp
  | p :: P, w :: vs, i + 1, m, nd, h1, h2, hk => by
    show bindC kindOf ((p, w) :: P.zip vs) m x = _
    unfold bindC
    exact bindC_get (i := i) (List.nodup_cons.mp nd).2 (by simpa using h1) (by simpa using h2) hk

/-- the names' values at the entry -/
def start (N : List Str) (vs : List V) : St := vs.map some ++ List.replicate (N.length - vs.length) none

/-- the context of a def's body, at its entry; an exception leaves the frame, then lies as CX says -/
def cxOf (CX : CXT) (P : Program) (w : World) (K : PySem.W.Frag) (mg : Str → Option Value) (base : Heap) (N : List Str) (qual : Str) (scope : Scope) (f : Addr) (cd : Value) (A : Around) (outer : List Env) (s : Shared) (H : Hp) (E : XK) : Cx where
  prog := P
  w := w
  K := K
  mg := mg
  base := base
  A := A.deeper (envOfC qual scope s.heap.objs.size f cd)
  N := N
  s₀ := s
  H₀ := H
  env := envOfC qual scope s.heap.objs.size f cd
  outer := outer
  stack := envOfC qual scope s.heap.objs.size f cd :: outer
  ex := []
  calm := true
  fn := fun _ => true
  pn := []
  xe := fun e s' => wpAny (model P w) (A.deeper (envOfC qual scope s.heap.objs.size f cd)) (leaving (envOfC qual scope s.heap.objs.size f cd) e) (fun _ s'' => CX outer H s E e s'') (fun e' s'' => CX outer H s E e' s'') s'

theorem cell_has {sc : Scope} {n : Nat} {x : Str} (h : sc.names.lookup x = some .cell) : ∃ c, (cellsFrom n sc.names []).lookup x = some c := by
  have q := PySem.W.cellsFrom_some sc.names n [] (.inl h)
  exact Option.isSome_iff_exists.mp q

theorem inv_start {CX : CXT} {P : Program} {w : World} {K : PySem.W.Frag} {mg : Str → Option Value} {base : Heap} {N ps : List Str} {qual : Str} {scope : Scope} {f : Addr} {cd : Value} {A : Around} {outer : List Env} {s s1 : Shared} {H : Hp} {E : XK} {us : List Value} {vs : List V}
    (S : FnScope N ps scope) (hd : A.handled = none) (e0 : Env0 P w K mg base A outer s H) (hl : vs.length = ps.length) (r : Vals vs us) (htk : 0 < s1.toks)
    (x : InCallC s s.heap.objs.size (bindL (envOfC qual scope s.heap.objs.size f cd).kindOf (ps.zip us) fun _ => none) (cellsFrom (s.heap.objs.size + 1) scope.names []) (bindC (envOfC qual scope s.heap.objs.size f cd).kindOf (ps.zip us) fun _ => none) s1) :
    Inv (cxOf CX P w K mg base N qual scope f cd A outer s H E) [] (start N vs) H s1 := by
  have hpl : ps.length ≤ N.length := by have := congrArg List.length S.pre; rw [List.length_take] at this; omega
  obtain ⟨h1, tk, rfl, hk⟩ := x.done
  have noA : ∀ b : Addr, b ∉ (cxOf CX P w K mg base N qual scope f cd A outer s H E).ex := fun b z => absurd (show b ∈ ([] : List Addr) from z) (by simp)
  refine ⟨⟨e0.mod, S.kind, rfl, rfl, Nat.le_refl _, fun y z c h1 h2 => ?_, fun y hy => ?_, fun y c _ h => ?_, fun _ => hd, Around.frames_deeper e0.frames, .inr ⟨rfl, rfl⟩, fun b z => absurd z (noA b), e0.bs, e0.bsz, fun b _ _ => noA b, fun b z => absurd z (noA b), e0.funs, e0.frf⟩,
    rfl, e0.bare, Un.kept hk, ⟨_, x.toInCall.ns, fun i y v h1 h2 h3 => ?_⟩, fun y c h => ⟨_, x.cell y c h⟩, e0.hok.fresh (Nat.le_refl _), fun y c h => ?_, fun p hp => absurd (show p ∈ ([] : List (Addr × Obj)) from hp) (by simp), e0.hok.kept hk, ?_, htk⟩
  · exact name_of_addr x.apart (PySem.mem_of_lookup h1) (PySem.mem_of_lookup h2)
  · have hy : scope.names.lookup y = some .cell ∨ scope.names.lookup y = some .free := hy
    rcases hy with hy | hy
    · exact cell_has hy
    · exact absurd rfl (S.nofree _ (PySem.mem_of_lookup hy))
  · exact Nat.le_of_lt (x.above y c (PySem.mem_of_lookup h))
  · have hi : i < vs.length := by
      unfold start at h2
      by_cases hi : i < vs.length
      · exact hi
      · rw [List.getElem?_append_right (by simpa using hi)] at h2
        rw [List.getElem?_replicate] at h2
        split at h2 <;> cases h2
    have ha : vs[i]? = some v := by
      unfold start at h2
      rw [List.getElem?_append_left (by simpa using hi), List.getElem?_map] at h2
      cases e : vs[i]? with
      | none => rw [e] at h2; cases h2
      | some a => rw [e] at h2; cases h2; rfl
    obtain ⟨u, hu, rv⟩ := r.get ha
    have hp : ps[i]? = some y := by
      rw [← S.pre, List.getElem?_take_of_lt (by omega)]; exact h1
    have ndP : ps.Nodup := by rw [← S.pre]; exact S.nd.sublist (List.take_sublist _ _)
    refine ⟨u, rv, ?_⟩
    rcases S.par y (List.mem_of_getElem? hp) with k | k
    · exact .inl ⟨k, bindL_get ndP hp hu k⟩
    · obtain ⟨c, e⟩ := cell_has (n := s.heap.objs.size + 1) k
      refine .inr ⟨.inl k, c, e, ?_⟩
      have q := x.cell y c e
      rw [bindC_get ndP hp hu (by show scope.names.lookup y ≠ _; rw [k]; decide)] at q
      exact q
  · exact e0.hok.fresh (Nat.le_of_lt (x.above y c (PySem.mem_of_lookup h)))
  · unfold start
    show _ = N.length
    rw [List.length_append, List.length_map, List.length_replicate]
    omega

/-- THE RULE: a def (or a method) of the text, by its body. The body's reading t is chosen for each entry; it is run at the parameters' values -/
theorem fn_of {CX : CXT} {P : Program} {w : World} {K : PySem.W.Frag} {mg : Str → Option Value} {base : Heap} {k : Nat} {f : Addr} {name qual : Str} {params : Arguments} {body : List Stmt} {scope : Scope} {dV kV doc pm cdv ct oc : Value} {an od : Option Addr}
    {osl : Array (Option Value)} {N ps : List Str} {sp : Sp} (lk : K.lookup f = some ⟨oc, od, .func (PySem.W.fnOf name qual params body scope dV kV doc pm an cdv ct), osl⟩) (hcd : PySem.W.codeIn K cdv qual = true) (S : FnScope N ps scope)
    (len : ∀ vs H Q E, sp vs H Q E → vs.length = ps.length)
    (hbody : ∀ (A : Around) (outer : List Env) (s : Shared) (H : Hp) (vs : List V) (Q : VK) (E : XK), Room k (A.deeper (envOfC qual scope s.heap.objs.size f cdv)) → sp vs H Q E →
      ∃ t, PSs (cxOf CX P w K mg base N qual scope f cdv A outer s H E) body t ∧ t { nx := fun _ H' => Q .non H', rt := Q } (start N vs) H) :
    FnOk P w K mg base CX (k + 1) f (PySem.W.fnOf name qual params body scope dV kV doc pm an cdv ct) ps sp := by
  refine ⟨len, fun A outer s H args us vs Q E hr e0 hb r hsp => ?_⟩
  have hl := len _ _ _ _ hsp
  have KX : K.In s.heap := e0.mod.kin.keeps fun b o e => (e0.bs b o e).1
  have lim : s.heap.NoLimit := e0.mod.nolimit.keeps fun b o e => (e0.bs b o e).1
  have hkind : ∀ y ∈ ps.zip us, scope.names.lookup y.1 = some .local ∨ (scope.names.lookup y.1 = some .cell ∧ ((cellsFrom (s.heap.objs.size + 1) scope.names []).lookup y.1).isSome = true) := fun ⟨n, v⟩ hy => by
    rcases S.par n (List.of_mem_zip hy).1 with q | q
    · exact .inl q
    · exact .inr ⟨q, PySem.W.cellsFrom_some _ _ _ (.inl q)⟩
  refine codeAny_call_function hr.depth (KX _ _ lk) rfl S.co S.gen rfl (PySem.W.codeRec_of KX hcd) (hb _ _ _ _ ?_)
  refine wpAny_with_toks (n := 1) e0.tk (wpAny_newFunctionEnv_cells S.kind hkind fun env he s1 x htk => ?_)
  subst he
  refine ⟨lim.keeps x.toInCall.keep, codeAny_func ?_⟩
  obtain ⟨t, ht, hq⟩ := hbody A outer s H vs Q E (hr.deeper _) hsp
  have I : Inv (cxOf CX P w K mg base N qual scope f cdv A outer s H E) [] (start N vs) H s1 := inv_start S hr.hd e0 hl r htk x
  refine wpAny_mono (ht [] s1 (start N vs) H _ I hq) (fun fl s' hs => ?_) fun e s' hs => hs
  have fin : ∀ {σ' : St} {H' : Hp} {v : V} {u : Value}, Inv (cxOf CX P w K mg base N qual scope f cdv A outer s H E) [] σ' H' s' → RelV v u → Q v H' → CE outer P w H s Q u s' :=
    fun {σ' H' v u} J rv q => ⟨v, H', J.os, J.bare, J.base, J.hok, J.tk, rv, q⟩
  cases fl with
  | ret u =>
    obtain ⟨v, σ', H', J, rv, q⟩ := hs
    exact fin J rv q
  | next =>
    obtain ⟨σ', H', J, q⟩ := hs
    exact fin (v := V.non) (u := Value.none) J rfl q
  | brk =>
    obtain ⟨_, _, _, q⟩ := hs
    exact False.elim q
  | cont =>
    obtain ⟨_, _, _, q⟩ := hs
    exact False.elim q
end L2

namespace L2
open PySem PySem.Spec PyProof.Rows
section
variable {X : Cx} {x : Str} {p pos : Pos} {e : Expr} {es : List Expr} {t : TA} {id T : String} {r : List V → Hp → VK → Prop}

def tCB (r : List V → Hp → VK → Prop) (t : TA) : TE := fun σ H Q => t σ H fun vs H1 => r vs H1 Q
/-- f(e, ..), f a built-in function -/
theorem pe_callB (hc : CallR X (.builtin id) r) (hg : Gl X x) (hm : X.mg x = none) (hv : bootBuiltins x = some (.builtin id)) (ha : PA X (e :: es) t) (hn : x ≠ "__name__" := by decide) (hdb : (x == ("__debug__" : Str)) = false := by decide)
    (he : starEach (e :: es) X.env = (false, eval e X.env) :: starEach es X.env := by rfl) (hpl : (backTo pos (starEach es X.env)).any (·.1) = false := by rfl) : PE X (.Call (.Name x p) (e :: es) [] pos) (tCB r t) := by
  intro pins s σ H Q I h
  refine wpAny_Call_Name_kw (ld_blt I hg hm hv ?_ hn hdb)
  exact PyProof.Rows.callWith_builtin1 (thn (ha pos pins s σ H _ I h) fun us s1 ⟨vs, H1, I1, r1, q1⟩ => hc pins s1 σ H1 vs us Q I1 r1 q1) he hpl
/-- T(e, ..), T a built-in type -/
theorem pe_callTy (hc : CallR X (.type T) r) (hg : Gl X x) (hm : X.mg x = none) (hv : bootBuiltins x = some (.type T)) (ha : PA X (e :: es) t) (hn : x ≠ "__name__" := by decide) (hdb : (x == ("__debug__" : Str)) = false := by decide)
    (he : starEach (e :: es) X.env = (false, eval e X.env) :: starEach es X.env := by rfl) (hpl : (backTo pos (starEach es X.env)).any (·.1) = false := by rfl) : PE X (.Call (.Name x p) (e :: es) [] pos) (tCB r t) := by
  intro pins s σ H Q I h
  refine wpAny_Call_Name_kw (ld_blt I hg hm hv ?_ hn hdb)
  exact PyProof.Rows.callWith_type1 (thn (ha pos pins s σ H _ I h) fun us s1 ⟨vs, H1, I1, r1, q1⟩ => hc pins s1 σ H1 vs us Q I1 r1 q1) he hpl
/-- T() -/
theorem pe_callTy0 (hc : CallR X (.type T) r) (hg : Gl X x) (hm : X.mg x = none) (hv : bootBuiltins x = some (.type T)) (hn : x ≠ "__name__" := by decide) (hdb : (x == ("__debug__" : Str)) = false := by decide) :
    PE X (.Call (.Name x p) [] [] pos) (tCB r tNil) := by
  intro pins s σ H Q I h
  refine wpAny_Call_Name_kw (ld_blt I hg hm hv ?_ hn hdb)
  exact PyProof.Rows.callWith_type0 (hc pins s σ H [] [] Q I .nil h)
end
end L2

namespace HT
open PySem PyProof.Rows

/-- t < u of tuples of ints -/
def lexLt : List Int → List Int → Bool
  | [], [] => false
  | [], _ :: _ => true
  | _ :: _, [] => false
  | x :: xs, y :: ys => if x = y then lexLt xs ys else decide (x < y)
theorem lexLt_cons (x y : Int) (xs ys : List Int) : lexLt (x :: xs) (y :: ys) = if x = y then lexLt xs ys else decide (x < y) := rfl
theorem lexLt_nil_nil : lexLt [] [] = false := rfl
theorem lexLt_nil_cons (y : Int) (ys : List Int) : lexLt [] (y :: ys) = true := rfl
theorem lexLt_cons_nil (x : Int) (xs : List Int) : lexLt (x :: xs) [] = false := rfl

theorem eqAt_int (A : Around) (s : Shared) (a : Int) (t : Tok) (c : Int) (u : Tok) : ∃ e, SeqAt.EqAt A s (.int a t) (.int c u) e ∧ (e = true ↔ a = c) :=
  ⟨(a == c), SeqAt.EqAt.int_int a t c u, by simp⟩
theorem rcLt_int (A : Around) (s : Shared) (a : Int) (t : Tok) (c : Int) (u : Tok) (prog : Program) (w : World) (E : Value → Shared → Prop) (Q : Value → Shared → Prop) (h : Q (.bool (decide (a < c))) s) :
    wpAny (model prog w) A (richCompare .Lt (.int a t) (.int c u)) Q E s :=
  (PyProof.Rows.lt_int h : wpAny (model prog w) A (compareOp .Lt (.int a t) (.int c u)) Q E s)

section
open PySem.SeqAt
open PySem.AutoSeq1 (wpAny_loadPart')
open PySem.MeetsSeq PySem.MeetsSeq2 PySem.MeetsSeq3

theorem tuple_lt_ints (l b : Addr) (items items2 : Array Value) (n n2 : Nat) (dd dd2 : Option Addr) (sl sl2 : Array (Option Value)) (ns ms : List Int) (hi : IntsAre items.toList ns) (hj : IntsAre items2.toList ms) :
    Meets (Builtin.«tuple.__lt__» ⟨[.ref l, .ref b], []⟩)
      (fun _ R s => s.heap.get? l = some { cls := .type "tuple", dict := dd, data := .seq items n, slots := sl } ∧ s.heap.get? b = some { cls := .type "tuple", dict := dd2, data := .seq items2 n2, slots := sl2 } ∧
        R (.ok (.ret (.bool (lexLt ns ms)))) s) :=
  .of_wp fun prog w A R s h => by
    obtain ⟨hp, g, d, tk, os⟩ := s; obtain ⟨hl, hb, h⟩ := h
    have f2 := AutoSeq1.sub_tuple_tuple
    have z1 : items.size = ns.length := by rw [← hi.length]; simp
    have z2 : items2.size = ms.length := by rw [← hj.length]; simp
    wp_walk using wpAny_loadPart' hl, wpAny_loadPart' hb, wpAny_forIn_list _ (fun rest b s' => b.1 = none ∧ s' = ⟨hp, g, d, tk, os⟩ ∧ ∃ (vs ws : List Value) (ns' ms' : List Int), rest = vs.zip ws ∧
      IntsAre vs ns' ∧ IntsAre ws ms' ∧ ns'.length + items2.size = ms'.length + items.size ∧ R (.ok (.ret (.bool (lexLt ns' ms')))) ⟨hp, g, d, tk, os⟩) _
    case turn =>
      rintro ⟨y, x⟩ rest b s' ⟨hb', rfl, vs, ws, ns', ms', hz, hvi, hwi, hlen, hR⟩
      cases hvi with
      | nil => rw [List.zip_nil_left] at hz; cases hz
      | cons a t hvi' =>
        cases hwi with
        | nil => rw [List.zip_nil_right] at hz; cases hz
        | cons c u hwi' =>
          rw [List.zip_cons_cons] at hz
          injection hz with hyx hrest
          injection hyx with hy hx
          subst hy hx
          rw [lexLt_cons] at hR
          simp only [List.length_cons] at hlen
          obtain ⟨e, he, hiff⟩ := eqAt_int A.in1 ⟨hp, g, d, tk, os⟩ a t c u
          refine wpAny_bind (he prog w _ _ ?_)
          cases e with
          | true =>
            rw [if_pos (hiff.mp rfl)] at hR
            wp_walk
            exact ⟨rfl, rfl, _, _, _, _, hrest, hvi', hwi', by omega, hR⟩
          | false =>
            rw [if_neg (fun q => absurd (hiff.mpr q) Bool.false_ne_true)] at hR
            have hri := rcLt_int A.in1 ⟨hp, g, d, tk, os⟩ a t c u prog w
            wp_walk using hri
            exact ⟨_, rfl, by simpa using hR⟩
    case fin =>
      rintro ⟨b1, b2⟩ s' ⟨hb', rfl, vs, ws, ns', ms', hz, hvi, hwi, hlen, hR⟩
      simp only at hb'
      subst hb'
      have hv : lexLt ns' ms' = decide (items.size < items2.size) := by
        cases hvi with
        | nil =>
          cases hwi with
          | nil =>
            simp only [List.length_nil] at hlen
            rw [lexLt_nil_nil]
            exact (decide_eq_false (by omega)).symm
          | cons c u hw =>
            simp only [List.length_nil, List.length_cons] at hlen
            rw [lexLt_nil_cons]
            exact (decide_eq_true (by omega)).symm
        | cons a t hv =>
          cases hwi with
          | nil =>
            simp only [List.length_nil, List.length_cons] at hlen
            rw [lexLt_cons_nil]
            exact (decide_eq_false (by omega)).symm
          | cons c u hw =>
            rw [List.zip_cons_cons] at hz
            cases hz
      rw [hv] at hR
      wp_walk
      exact ⟨_, rfl, by simpa [Builtin.Tuple.tupleCompareSizes] using hR⟩
    case h =>
      exact ⟨rfl, rfl, items.toList, items2.toList, ns, ms, rfl, hi, hj, by omega, h⟩
end

section
variable {prog : Program} {w : World} {A : Around} {E : Value → Shared → Prop} {s : Shared}

theorem lt_tupInts {l b : Addr} {items items2 : Array Value} {ns ms : List Int} {Q : Value → Shared → Prop} (hl : IsTup s.heap l items) (hb : IsTup s.heap b items2) (hi : IntsAre items.toList ns) (hj : IntsAre items2.toList ms)
    (hu : A.units < cLine) (h : Q (.bool (lexLt ns ms)) s) : wpAny (model prog w) A (compareOp .Lt (.ref l) (.ref b)) Q E s := by
  obtain ⟨⟨cls, dd, data, sl⟩, ho, hc, n, hd⟩ := id hl
  obtain ⟨⟨cls2, dd2, data2, sl2⟩, ho2, hc2, n2, hd2⟩ := id hb
  simp only at hc hd hc2 hd2
  subst hc hd hc2 hd2
  exact richCompare_meets_room (op := .Lt) ⟨_, ho, rfl⟩ ⟨_, ho2, rfl⟩ PySem.F.slot_tuple_lt PySem.F.entry_tuple_lt (PySem.F.args_tuple_lt_2 _ _) (tuple_lt_ints l b items items2 n n2 dd dd2 sl sl2 ns ms hi hj)
    ⟨ho, ho2, show Value.bool (lexLt ns ms) ≠ Value.notImplemented ∧ Q (.bool (lexLt ns ms)) s from ⟨(fun x => nomatch x), h⟩⟩ hu

/-- t + u, t not empty -/
theorem cat_tup {t b : Addr} {vs ws : List Value} {Q : Value → Shared → Prop} (ht : IsTup s.heap t vs.toArray) (hb : IsTup s.heap b ws.toArray) (hv : vs ≠ [])
    (h1 : ws = [] → Q (.ref t) s) (h2 : ws ≠ [] → Q (.ref s.heap.objs.size) { s with heap := s.heap.push { cls := .type "tuple", data := .seq (vs ++ ws).toArray } })
    (hsz : vs.length + ws.length ≤ sizeLine) : wpAny (model prog w) A (binaryOp .Add (.ref t) (.ref b)) Q E s := by
  obtain ⟨⟨cls, dd, data, sl⟩, ho, hc, n, hd⟩ := id ht
  obtain ⟨⟨cls2, dd2, data2, sl2⟩, ho2, hc2, n2, hd2⟩ := id hb
  simp only at hc hd hc2 hd2
  subst hc hd hc2 hd2
  have e : vs.toArray ++ ws.toArray = (vs ++ ws).toArray := by simp
  by_cases hw : ws = []
  · exact concat_meets ⟨_, ho, rfl⟩ ⟨_, ho2, rfl⟩ noFill_tuple_add seq_tuple_add PySem.F.slot_tuple_add PySem.F.entry_tuple_add (PySem.F.args_tuple_add_2 _ _)
      (tuple_addW1 t b vs.toArray ws.toArray n n2 dd dd2 sl sl2 (by simpa using hv) (by simp [hw])) ⟨ho, ho2, h1 hw⟩
  · refine concat_meets ⟨_, ho, rfl⟩ ⟨_, ho2, rfl⟩ noFill_tuple_add seq_tuple_add PySem.F.slot_tuple_add PySem.F.entry_tuple_add (PySem.F.args_tuple_add_2 _ _)
      (tuple_addW2 t b vs.toArray ws.toArray n n2 dd dd2 sl sl2 (by simpa using hv) (by simpa using hw) (by rw [List.size_toArray, List.size_toArray]; exact hsz)) ⟨ho, ho2, ?_⟩
    rw [e]
    exact h2 hw

/-! ### t[a:b], not the whole -/
/-- a slice's bound as a place among n (d where it is left out) -/
def sIx (n d : Nat) : Option Int → Nat
  | none => d
  | some v => if v < 0 then (v + (n : Int)).toNat else min v.toNat n
theorem sIx_none (n d : Nat) : sIx n d none = d := rfl
theorem sIx_nat (n d k : Nat) : sIx n d (some (k : Int)) = min k n := by
  show (if (k : Int) < 0 then ((k : Int) + (n : Int)).toNat else min (k : Int).toNat n) = min k n
  rw [if_neg (by omega), Int.toNat_natCast]
theorem sIx_le (n d : Nat) (hd : d ≤ n) (o : Option Int) : sIx n d o ≤ n := by
  cases o with
  | none => exact hd
  | some v =>
    show (if v < 0 then (v + (n : Int)).toNat else min v.toNat n) ≤ n
    by_cases hv : v < 0
    · rw [if_pos hv]; omega
    · rw [if_neg hv]; exact Nat.min_le_right _ _
theorem clip_eq (v : Int) (n d : Nat) : (if v < 0 then max (v + (n : Int)) 0 else min v (n : Int)) = ((sIx n d (some v) : Nat) : Int) := by
  show (if v < 0 then max (v + (n : Int)) 0 else min v (n : Int)) = (((if v < 0 then (v + (n : Int)).toNat else min v.toNat n) : Nat) : Int)
  by_cases hv : v < 0
  · simp only [if_pos hv]; omega
  · simp only [if_neg hv]; omega
theorem adjust_gen (lo hi : Option Int) (n : Nat) : Builtin.Slice.sliceAdjust lo hi 1 (n : Int) = (((sIx n 0 lo : Nat) : Int), ((sIx n n hi : Nat) : Int)) := by
  have h1 : ¬ ((1 : Int) < 0) := by omega
  unfold Builtin.Slice.sliceAdjust
  simp only [h1, if_false]
  refine Prod.ext ?_ ?_
  · cases lo with
    | none => rfl
    | some v => exact clip_eq v n 0
  · cases hi with
    | none => rfl
    | some v => exact clip_eq v n n
theorem places_gen (i j : Nat) : Builtin.Slice.slicePlaces (i : Int) (j : Int) 1 = j - i := by
  unfold Builtin.Slice.slicePlaces
  have h1 : (1 : Int) > 0 := by omega
  simp only [h1, if_true, Int.ediv_one]
  split <;> omega
theorem slicePart_ {v : Value} {o : Option Int} {Q : Option Int → Shared → Prop} (p : IsPart v o) (h : Q o s) : wpAny (model prog w) A (Builtin.Slice.slicePartIndex v) Q E s := by
  cases p with
  | none => exact slicePart_none h
  | int i t => exact slicePart_int h
theorem sliceApplied_gen {sl : Addr} {vl vu : Value} {lo hi : Option Int} {n : Nat} {Q : Int × Int × Nat → Shared → Prop} (hs : s.heap.IsSliceOf sl vl vu .none) (pl : IsPart vl lo) (pu : IsPart vu hi)
    (h : Q (((sIx n 0 lo : Nat) : Int), 1, sIx n n hi - sIx n 0 lo) s) : wpAny (model prog w) A (Builtin.Slice.sliceApplied (.ref sl) (pure (n : Int))) Q E s := by
  obtain ⟨os, hos, hcs, hds⟩ := id hs
  unfold Builtin.Slice.sliceApplied Builtin.Slice.sliceFields
  refine wpAny_bind (wpAny_bind (wpAny_field hos hds (x := vl) rfl (wpAny_bind (wpAny_field hos hds (x := vu) rfl (wpAny_bind (wpAny_field hos hds (x := .none) rfl (wpAny_pure ?_)))))))
  refine wpAny_bind (slicePart_none ?_)
  show wpAny _ _ (if ((1 : Int) == 0) = true then _ else _) _ _ s
  rw [if_neg (by decide)]
  refine wpAny_bind (slicePart_ pl (wpAny_bind (slicePart_ pu (wpAny_bind (wpAny_pure ?_)))))
  show wpAny _ _ (match Builtin.Slice.sliceAdjust lo hi 1 (n : Int) with | (lo, hi) => pure (lo, (1 : Int), Builtin.Slice.slicePlaces lo hi 1)) _ _ s
  rw [adjust_gen lo hi n]
  show wpAny _ _ (pure (((sIx n 0 lo : Nat) : Int), (1 : Int), Builtin.Slice.slicePlaces ((sIx n 0 lo : Nat) : Int) ((sIx n n hi : Nat) : Int) 1)) _ _ s
  rw [places_gen]
  exact wpAny_pure h
theorem pick_gen (xs : Array Value) (i k : Nat) : ((List.range k).filterMap fun (m : Nat) => xs[((i : Int) + (m : Int) * 1).toNat]?).toArray = ((xs.toList.drop i).take k).toArray := by
  have e : (fun (m : Nat) => xs[((i : Int) + (m : Int) * 1).toNat]?) = fun m => xs[i + m]? := by
    funext m
    have : ((i : Int) + (m : Int) * 1).toNat = i + m := by omega
    rw [this]
  rw [e]
  have := pick_run xs i k
  rw [List.filterMap_map] at this
  have e2 : ((fun x => xs[x]?) ∘ fun x => i + x) = fun m => xs[i + m]? := rfl
  rw [e2] at this
  rw [this]

theorem getItem_tuple_cut {t sl : Addr} {items : Array Value} {vl vu : Value} {lo hi : Option Int} {Q : Value → Shared → Prop} (ht : IsTup s.heap t items) (hs : s.heap.IsSliceOf sl vl vu .none) (pl : IsPart vl lo) (pu : IsPart vu hi)
    (hw : ¬ (sIx items.size 0 lo = 0 ∧ sIx items.size items.size hi = items.size))
    (h : Q (.ref s.heap.objs.size) { s with heap := s.heap.push { cls := .type "tuple", data := .seq ((items.toList.drop (sIx items.size 0 lo)).take (sIx items.size items.size hi - sIx items.size 0 lo)).toArray } })
    (hsz : items.size ≤ sizeLine) : wpAny (model prog w) A (getItem (.ref t) (.ref sl)) Q E s := by
  have htake : sizeOk (.seq ((items.toList.drop (sIx items.size 0 lo)).take (sIx items.size items.size hi - sIx items.size 0 lo)).toArray) := by
    show ((items.toList.drop (sIx items.size 0 lo)).take (sIx items.size items.size hi - sIx items.size 0 lo)).toArray.size ≤ sizeLine
    rw [List.size_toArray, List.length_take, List.length_drop, Array.length_toList]
    omega
  have hj : sIx items.size items.size hi ≤ items.size := sIx_le _ _ (Nat.le_refl _) hi
  obtain ⟨os, hos, hcs, hds⟩ := id hs
  have hTs : s.TypeIs (.ref sl) "slice" := ⟨os, hos, hcs⟩
  unfold getItem
  try with_reducible refine wpAny_holding ?_
  first | refine wpAny_bind (wpAny_pure ?_) | skip
  refine wpAny_bind (wpAny_sequenceKey ht.typeIs (by decide) ?_)
  refine wpAny_bind (wpAny_callSpecial?_slot (name := Str.ofString "__getitem__") ht.typeIs PyProof.Rows.slot_tuple_getitem
    (wpAny_call_entry PyProof.Rows.slot_tuple_getitem ht.typeIs entry_tuple_getitem ?_ (args_tuple_getitem _ _)))
  show wpAny _ _ (Builtin.Tuple.tupleItemsOf (.ref t) >>= _) _ _ s
  refine wpAny_bind (tupleItemsOf_ ht ?_)
  refine wpAny_bind (wpAny_typeOf hTs ?_)
  rw [if_pos (by decide)]
  refine wpAny_bind (sliceApplied_gen hs pl pu ?_)
  have hno : ¬ ((((sIx items.size 0 lo : Nat) : Int) == 0 && (1 : Int) == 1 && (sIx items.size items.size hi - sIx items.size 0 lo) == items.size) = true) := by
    intro q
    rw [Bool.and_eq_true, Bool.and_eq_true] at q
    have q1 : ((sIx items.size 0 lo : Nat) : Int) = 0 := eq_of_beq q.1.1
    have q2 : sIx items.size items.size hi - sIx items.size 0 lo = items.size := eq_of_beq q.2
    exact hw ⟨by omega, by omega⟩
  show wpAny _ _ (if (((sIx items.size 0 lo : Nat) : Int) == 0 && (1 : Int) == 1 && (sIx items.size items.size hi - sIx items.size 0 lo) == items.size) = true then _ else _) _ _ s
  rw [if_neg hno, pick_gen]
  first
    | exact wpAny_bind (m := Builtin.Tuple.tupleExact _) (wpAny_newObj_type (wpAny_pure ⟨_, rfl, wpAny_pure h⟩) htake)
    | exact wpAny_bind (m := Builtin.Tuple.tupleExact _) (wpAny_newObj_type (wpAny_bind (wpAny_pure (wpAny_pure ⟨_, rfl, wpAny_pure h⟩))) htake)
    | exact wpAny_bind (wpAny_bind (m := Builtin.Tuple.tupleExact _) (wpAny_newObj_type (wpAny_pure (wpAny_pure ⟨_, rfl, wpAny_pure h⟩)) htake))
    | exact wpAny_bind (wpAny_bind (m := Builtin.Tuple.tupleExact _) (wpAny_newObj_type (wpAny_pure ⟨_, rfl, wpAny_pure h⟩) htake))
end
end HT

namespace L2
open PySem PySem.Spec PyProof.Rows

/-! ### the parts of a slice -/
abbrev TO := St → Hp → (Option Int → Hp → Prop) → Prop
/-- a slice's part (left out, or an int) -/
def PO (X : Cx) (e : Option Expr) (t : TO) : Prop :=
  ∀ (pins : List (Addr × Obj)) (s : Shared) (σ : St) (H : Hp) (Q : Option Int → Hp → Prop), Inv X pins σ H s → t σ H Q →
    wpAny (model X.prog X.w) X.A (evalPart e X.env) (fun u s' => ∃ o H', Inv X pins σ H' s' ∧ IsPart u o ∧ Q o H') X.xe s
def tNoPart : TO := fun _ H Q => Q none H
def tPart (t : TE) : TO := fun σ H Q => t σ H fun x H1 => ∃ i, x = .int i ∧ Q (some i) H1

theorem intsAre_of {ns : List Int} : ∀ {us : List Value}, Vals (ns.map V.int) us → IntsAre us ns := by
  induction ns with
  | nil => intro us r; rw [List.map_nil] at r; cases r; exact .nil
  | cons n ns ih =>
    intro us r
    rw [List.map_cons] at r
    cases r with
    | cons r1 r2 =>
      obtain ⟨t, e⟩ := r1
      subst e
      exact .cons n t (ih r2)

section
variable {X : Cx} {e : Expr} {te : TE} {lo hi : Option Expr} {tl th : TO} {pos p2 : Pos}

theorem po_none : PO X none tNoPart := by
  intro pins s σ H Q I h
  rw [evalPart_none]
  exact wpAny_pure ⟨none, H, I, .none, h⟩
theorem po_some (h : PE X e te) : PO X (some e) (tPart te) := by
  intro pins s σ H Q I hw
  rw [evalPart_some]
  refine thn (h pins s σ H _ I hw) fun u s1 ⟨x, H1, I1, r1, q1⟩ => ?_
  obtain ⟨i, rfl, q⟩ := q1
  obtain ⟨t, rfl⟩ := r1
  exact ⟨some i, H1, I1, .int i t, q⟩

/-- what a slice of a value is, by values: the slice object stands at sl -/
def SlR (X : Cx) (r : V → Option Int → Option Int → Hp → VK → Prop) : Prop :=
  ∀ (pins : List (Addr × Obj)) (s : Shared) (σ : St) (H : Hp) (x : V) (v vl vu : Value) (lo hi : Option Int) (sl : Addr) (Q : VK), Inv X pins σ H s → RelV x v → s.heap.IsSliceOf sl vl vu .none → IsPart vl lo → IsPart vu hi → r x lo hi H Q →
    ∃ T id, typeLookup (.type T) "__getitem__" = pure (some (.builtin id)) ∧ s.TypeIs v T ∧ wpAny (model X.prog X.w) X.A (getItem v (.ref sl)) (EP X pins σ Q) X.xe s
theorem SlR.or {r r' : V → Option Int → Option Int → Hp → VK → Prop} (h : SlR X r) (h' : SlR X r') : SlR X (fun x lo hi H Q => r x lo hi H Q ∨ r' x lo hi H Q) := by
  intro pins s σ H x v vl vu lo hi sl Q I rx hs pl pu q
  rcases q with q | q
  · exact h pins s σ H x v vl vu lo hi sl Q I rx hs pl pu q
  · exact h' pins s σ H x v vl vu lo hi sl Q I rx hs pl pu q
def tSl (r : V → Option Int → Option Int → Hp → VK → Prop) (te : TE) (tl th : TO) : TE := fun σ H Q => te σ H fun x H1 => tl σ H1 fun l H2 => th σ H2 fun u H3 => r x l u H3 Q
/-- a[lo:hi], any a -/
theorem pe_slice {r : V → Option Int → Option Int → Hp → VK → Prop} (hr : SlR X r) (he : PE X e te) (hl : PO X lo tl) (hu : PO X hi th) : PE X (.Subscript e (.Slice lo hi none p2) pos) (tSl r te tl th) := by
  intro pins s σ H Q I h
  refine Subscript_ (thn (he pins s σ H _ I h) fun v s1 ⟨x, H1, I1, r1, q1⟩ => ?_)
  refine wpAny_Slice (thn (hl pins s1 σ H1 _ I1 q1) fun vl s2 ⟨l, H2, I2, pl, q2⟩ => thn (hu pins s2 σ H2 _ I2 q2) fun vu s3 ⟨u, H3, I3, pu, q3⟩ => ?_)
  rw [evalPart_none]
  refine wpAny_pure ?_
  have I4 : Inv X pins σ H3 { s3 with heap := s3.heap.push { cls := .type "slice", data := .fields #[vl, vu, .none] } } := I3.kept (t' := s3.toks) fun b ob q => Heap.get?_push_of_some _ q
  obtain ⟨T, id, hT, ht, hg⟩ := hr pins { s3 with heap := s3.heap.push { cls := .type "slice", data := .fields #[vl, vu, .none] } } σ H3 x v vl vu l u s3.heap.objs.size Q I4 r1 (Heap.IsSliceOf.new ..) pl pu q3
  show wpAny (model X.prog X.w) X.A (subscriptTail e (.Slice lo hi none p2) v (.ref s3.heap.objs.size)) (EP X pins σ Q) X.xe { s3 with heap := s3.heap.push { cls := .type "slice", data := .fields #[vl, vu, .none] } }
  exact tail_any (ops := [.ref s3.heap.objs.size, v]) ht hT hg (by with_unfolding_all rfl)

/-- the items of xs[lo:hi] -/
def cutV (xs : List V) (lo hi : Option Int) : List V := (xs.drop (HT.sIx xs.length 0 lo)).take (HT.sIx xs.length xs.length hi - HT.sIx xs.length 0 lo)
theorem cutV_length (xs : List V) (lo hi : Option Int) : (cutV xs lo hi).length ≤ xs.length := by
  unfold cutV
  rw [List.length_take, List.length_drop]
  omega
/-- t[lo:hi], not the whole of it (the whole would be t itself) -/
def rSlT (K : PySem.W.Frag) : V → Option Int → Option Int → Hp → VK → Prop := fun x lo hi H Q => ∃ a xs, x = .ref a ∧ SqT K H a xs ∧
  ¬ (HT.sIx xs.length 0 lo = 0 ∧ HT.sIx xs.length xs.length hi = xs.length) ∧ ∀ p, H p = none → Q (.ref p) (upd H p (.tup (cutV xs lo hi)))
theorem sl_tup : SlR X (rSlT X.K) := by
  intro pins s σ H x v vl vu lo hi sl Q I rx hs pl pu h
  obtain ⟨a, xs, rfl, hx, hw, q⟩ := h
  cases rx
  obtain ⟨its, r, ht, hz⟩ := I.tuple hx
  have hlen : its.toArray.size = xs.length := by rw [List.size_toArray]; exact r.length.symm
  refine ⟨"tuple", _, PyProof.Rows.slot_tuple_getitem.lookup, ht.typeIs, ?_⟩
  refine HT.getItem_tuple_cut ht hs pl pu (by rw [hlen]; exact hw) ?_ (by rw [hlen]; exact hz)
  rw [hlen]
  refine ⟨.ref s.heap.objs.size, _, I.laid (t' := s.toks) (o := .tup (cutV xs lo hi)) (fun b ob q => Heap.get?_push_of_some _ q) (Nat.le_refl _) ?_, rfl, q _ (I.hok.fresh (Nat.le_refl _))⟩
  exact ⟨Nat.le_trans (cutV_length xs lo hi) hz, _, (r.drop (HT.sIx xs.length 0 lo)).take (HT.sIx xs.length xs.length hi - HT.sIx xs.length 0 lo), IsTup.new _ _⟩

/-! ### t < u, t + u -/
def rLtT (K : PySem.W.Frag) : R2 := fun x y H Q => ∃ a b ns ms, x = .ref a ∧ y = .ref b ∧ SqT K H a (ns.map V.int) ∧ SqT K H b (ms.map V.int) ∧ Q (.bl (HT.lexLt ns ms)) H
theorem op_ltT (hu : X.A.units < cLine) : OpR X (compareOp .Lt) (rLtT X.K) := by
  intro pins s σ H x y v u Q I rx ry h
  obtain ⟨a, b, ns, ms, rfl, rfl, ha, hb, q⟩ := h
  cases rx
  cases ry
  obtain ⟨its, r1, p1, _⟩ := I.tuple ha
  obtain ⟨its2, r2, p2, _⟩ := I.tuple hb
  have i1 : IntsAre its.toArray.toList ns := intsAre_of r1
  have i2 : IntsAre its2.toArray.toList ms := intsAre_of r2
  exact HT.lt_tupInts p1 p2 i1 i2 hu ⟨.bl (HT.lexLt ns ms), H, I, rfl, q⟩
/-- t + u, t not empty: u empty gives t itself -/
def rCatT (K : PySem.W.Frag) : R2 := fun x y H Q => ∃ a b xs ys, x = .ref a ∧ y = .ref b ∧ SqT K H a xs ∧ SqT K H b ys ∧ xs ≠ [] ∧ xs.length + ys.length ≤ sizeLine ∧
  (ys = [] → Q (.ref a) H) ∧ (ys ≠ [] → ∀ p, H p = none → Q (.ref p) (upd H p (.tup (xs ++ ys))))
theorem Vals.nil_iff {xs : List V} {us : List Value} (r : Vals xs us) : us = [] ↔ xs = [] := by
  cases r with
  | nil => simp
  | cons _ _ => simp
theorem op_catT : OpR X (binaryOp .Add) (rCatT X.K) := by
  intro pins s σ H x y v u Q I rx ry h
  obtain ⟨a, b, xs, ys, rfl, rfl, ha, hb, hx, hz, q1, q2⟩ := h
  cases rx
  cases ry
  obtain ⟨its, r1, p1, _⟩ := I.tuple ha
  obtain ⟨its2, r2, p2, _⟩ := I.tuple hb
  refine HT.cat_tup p1 p2 (fun z => hx (r1.nil_iff.mp z)) (fun z => ⟨.ref a, H, I, rfl, q1 (r2.nil_iff.mp z)⟩) (fun z => ?_) (by rw [← r1.length, ← r2.length]; exact hz)
  refine ⟨.ref s.heap.objs.size, _, I.laid (t' := s.toks) (o := .tup (xs ++ ys)) (fun b ob q => Heap.get?_push_of_some _ q) (Nat.le_refl _) ?_, rfl, q2 (fun w => z (r2.nil_iff.mpr w)) _ (I.hok.fresh (Nat.le_refl _))⟩
  exact ⟨by rw [List.length_append]; exact hz, _, r1.append r2, IsTup.new _ _⟩
/-- tuple(t) -/
theorem call_tupleT : CallR X (.type "tuple") (fun xs H Q => ∃ a ys, xs = [.ref a] ∧ SqT X.K H a ys ∧ Q (.ref a) H) := by
  intro pins s σ H xs us Q I r h
  obtain ⟨a, ys, rfl, ha, q⟩ := h
  obtain ⟨u, rfl, ru⟩ := vals1 r
  cases ru
  obtain ⟨its, _, p1, _⟩ := I.tuple ha
  exact call_tuple_same (items := its.toArray) p1 ⟨.ref a, H, I, rfl, q⟩
end
end L2

namespace L2
open PySem PySem.Spec PyProof.Rows

/-! ### places -/
/-- the place that an index of any sign means -/
def ixN (n : Nat) (i : Int) : Option Nat := if 0 ≤ i then (if i < n then some i.toNat else none) else if -(n : Int) ≤ i then some (i + n).toNat else none
def atI {α : Type} (xs : List α) (i : Int) : Option α := (ixN xs.length i).bind fun j => xs[j]?
theorem ixN_seq {n : Nat} {i : Int} {j : Nat} (h : ixN n i = some j) : seqIndex? i n = some j ∧ j < n ∧ -(n : Int) ≤ i ∧ i < n := by
  unfold ixN at h
  by_cases h0 : 0 ≤ i
  · rw [if_pos h0] at h
    by_cases h1 : i < n
    · rw [if_pos h1] at h
      have e : i.toNat = j := Option.some.inj h
      exact ⟨by rw [seqIndex_of h0 h1, e], by omega, by omega, h1⟩
    · rw [if_neg h1] at h; cases h
  · rw [if_neg h0] at h
    by_cases h1 : -(n : Int) ≤ i
    · rw [if_pos h1] at h
      have e : (i + n).toNat = j := Option.some.inj h
      exact ⟨by rw [seqIndex_neg (by omega) h1, e], by omega, h1, by omega⟩
    · rw [if_neg h1] at h; cases h
theorem atI_get {α : Type} {xs : List α} {i : Int} {v : α} (h : atI xs i = some v) : ∃ j, seqIndex? i xs.length = some j ∧ xs[j]? = some v ∧ j < xs.length ∧ -(xs.length : Int) ≤ i ∧ i < xs.length := by
  unfold atI at h
  cases e : ixN xs.length i with
  | none => rw [e] at h; cases h
  | some j =>
    rw [e] at h
    obtain ⟨h1, h2, h3, h4⟩ := ixN_seq e
    exact ⟨j, h1, h, h2, h3, h4⟩
theorem atI_nat {α : Type} {xs : List α} {j : Nat} {v : α} (h : xs[j]? = some v) : atI xs (j : Int) = some v := by
  have hj : j < xs.length := (List.getElem?_eq_some_iff.mp h).1
  have e : ixN xs.length (j : Int) = some j := by
    unfold ixN
    rw [if_pos (by omega), if_pos (by omega)]; simp
  unfold atI; rw [e]; exact h
theorem atI_last {α : Type} (xs : List α) (v : α) : atI (xs ++ [v]) (-1) = some v := by
  have hl : (xs ++ [v]).length = xs.length + 1 := by simp
  have e : ixN (xs ++ [v]).length (-1) = some xs.length := by
    unfold ixN
    rw [hl, if_neg (by decide), if_pos (by omega)]
    congr 1
    omega
  unfold atI
  rw [e]
  show (xs ++ [v])[xs.length]? = some v
  simp

/-! ### what may be subscripted -/
/-- what stands as an index of a plain subscript -/
def PlainIx (b : Expr) : Prop := ∀ o i, subscripted b false o i = operate [o, i] (getItem o i)
/-- a subscript by values -/
def IxR (X : Cx) (r : R2) : Prop :=
  ∀ (value slice : Expr) (pins : List (Addr × Obj)) (s : Shared) (σ : St) (H : Hp) (x y : V) (v u : Value) (Q : VK), Inv X pins σ H s → RelV x v → RelV y u → r x y H Q →
    subscripted slice false v u = operate [v, u] (getItem v u) → wpAny (model X.prog X.w) X.A (subscriptTail value slice v u) (EP X pins σ Q) X.xe s
/-- a call of a builtin's method by values: the receiver, the arguments -/
def MtR (X : Cx) (id : String) (r : V → List V → Hp → VK → Prop) : Prop :=
  ∀ (pins : List (Addr × Obj)) (s : Shared) (σ : St) (H : Hp) (x : V) (xs : List V) (v : Value) (us : List Value) (Q : VK), Inv X pins σ H s → RelV x v → Vals xs us → r x xs H Q →
    wpAny (model X.prog X.w) X.A (call (.builtin id) (v :: us)) (EP X pins σ Q) X.xe s
section
variable {X : Cx} {a b : Expr} {ta tb : TE} {pos : Pos}
theorem IxR.or {r r' : R2} (h : IxR X r) (h' : IxR X r') : IxR X (fun x y H Q => r x y H Q ∨ r' x y H Q) := by
  intro value slice pins s σ H x y v u Q I rx ry q hs
  rcases q with q | q
  · exact h value slice pins s σ H x y v u Q I rx ry q hs
  · exact h' value slice pins s σ H x y v u Q I rx ry q hs
theorem MtR.or {id : String} {r r' : V → List V → Hp → VK → Prop} (h : MtR X id r) (h' : MtR X id r') : MtR X id (fun x xs H Q => r x xs H Q ∨ r' x xs H Q) := by
  intro pins s σ H x xs v us Q I rx rs q
  rcases q with q | q
  · exact h pins s σ H x xs v us Q I rx rs q
  · exact h' pins s σ H x xs v us Q I rx rs q
/-- a[b] -/
theorem pe_ix {r : R2} (hr : IxR X r) (ha : PE X a ta) (hb : PE X b tb) (hs : PlainIx b) : PE X (.Subscript a b pos) (tOp r ta tb) := by
  intro pins s σ H Q I h
  exact Subscript_ (binT ha hb I h fun v u s2 x y H2 I2 rx ry q => hr a b pins s2 σ H2 x y v u Q I2 rx ry q (hs _ _))

def rIxL (K : PySem.W.Frag) : R2 := fun x y H Q => ∃ p xs i v, x = .ref p ∧ y = .int i ∧ SqL K H p xs ∧ atI xs i = some v ∧ Q v H
def rIxT (K : PySem.W.Frag) : R2 := fun x y H Q => ∃ p xs i v, x = .ref p ∧ y = .int i ∧ SqT K H p xs ∧ atI xs i = some v ∧ Q v H
def rIxS : R2 := fun x y H Q => ∃ z i c, x = .str z ∧ y = .int i ∧ z.length ≤ sizeLine ∧ atI z.cps.toList i = some c ∧ Q (.str ⟨#[c]⟩) H
theorem ix_list : IxR X (rIxL X.K) := by
  intro value slice pins s σ H x y v u Q I rx ry h hs
  obtain ⟨p, xs, i, z, rfl, rfl, hq, he, q⟩ := h
  cases rx
  obtain ⟨t, rfl⟩ := ry
  obtain ⟨its, r, pl, hz⟩ := I.list hq
  obtain ⟨j, h1, h2, h3, h4, h5⟩ := atI_get he
  obtain ⟨w, ew, rw'⟩ := r.get h2
  have hl := r.length
  have hn := line63
  have fin : EP X pins σ Q w s := ⟨z, H, I, rw', q⟩
  by_cases h0 : 0 ≤ i
  · have hj : i.toNat = j := by
      rw [seqIndex_of h0 h5] at h1
      exact Option.some.inj h1
    exact item_listR pl.isList h0 (by omega) (by rw [hj]; simpa using ew) fin hs
  · have hj : (i + (its.toArray.size : Int)).toNat = j := by
      rw [seqIndex_neg (by omega) h4] at h1
      rw [List.size_toArray, ← hl]
      exact Option.some.inj h1
    exact subscriptTail_builtinR (x := w) pl.isList.typeIs slot_list_getitem.lookup
      (wpAny_getItem_list_neg (Q := fun r s' => r = w ∧ EP X pins σ Q r s') pl.isList (by omega) (by rw [List.size_toArray] <;> omega) (by omega) (by rw [hj]; simpa using ew) ⟨rfl, fin⟩) hs
theorem ix_tup : IxR X (rIxT X.K) := by
  intro value slice pins s σ H x y v u Q I rx ry h hs
  obtain ⟨p, xs, i, z, rfl, rfl, hq, he, q⟩ := h
  cases rx
  obtain ⟨t, rfl⟩ := ry
  obtain ⟨its, r, pl, hz⟩ := I.tuple hq
  obtain ⟨j, h1, h2, h3, h4, h5⟩ := atI_get he
  obtain ⟨w, ew, rw'⟩ := r.get h2
  have hl := r.length
  have hn := line63
  have fin : EP X pins σ Q w s := ⟨z, H, I, rw', q⟩
  exact subscriptTail_builtinR (x := w) pl.typeIs slot_tuple_getitem.lookup
    (getItem_tuple (j := j) (Q := fun r s' => r = w ∧ EP X pins σ Q r s') pl (by omega) (by omega) (by rw [List.size_toArray, ← hl]; exact h1) (by simpa using ew) ⟨rfl, fin⟩) hs
theorem ix_str : IxR X rIxS := by
  intro value slice pins s σ H x y v u Q I rx ry h hs
  obtain ⟨z, i, c, rfl, rfl, hz, he, q⟩ := h
  obtain ⟨t, rfl⟩ := rx
  obtain ⟨t', rfl⟩ := ry
  obtain ⟨j, h1, h2, h3, h4, h5⟩ := atI_get he
  have hl : z.cps.toList.length = z.length := by simp [Str.length]
  rw [hl] at h1 h4 h5
  have hn := line63
  exact tail_any (typeIs_str s z t) slot_str_getitem.lookup (getItem_str (c := c) (by
    have e1 : decide (i < -(2 ^ 63 : Int)) = false := decide_eq_false (by omega)
    have e2 : decide (i ≥ 2 ^ 63) = false := decide_eq_false (by omega)
    rw [e1, e2, Bool.or_false]) (by rw [h1]; simpa using h2) ⟨.str ⟨#[c]⟩, H, I.tok _, ⟨_, rfl⟩, q⟩) hs
/-- list, tuple or str -/
def rIx (K : PySem.W.Frag) : R2 := fun x y H Q => rIxL K x y H Q ∨ rIxT K x y H Q ∨ rIxS x y H Q
theorem ix_seq : IxR X (rIx X.K) := ix_list.or (ix_tup.or ix_str)

/-! ### xs[i] = v, any sign -/
/-- the list's object behind a store -/
theorem mapSeq_set (its : List Value) (n j : Nat) (u : Value) : Obj.mapSeq (·.setIfInBounds j u) { cls := .type "list", data := .seq its.toArray n } = { cls := .type "list", data := .seq (its.set j u).toArray n } := by
  simp [Obj.mapSeq]
theorem Inv.lst {pins : List (Addr × Obj)} {σ : St} {H : Hp} {s : Shared} {p : Addr} {xs : List V} (I : Inv X pins σ H s) (h : H p = some (.lst xs)) :
    ∃ (its : List Value) (n : Nat), Vals xs its ∧ s.heap.get? p = some { cls := .type "list", data := .seq its.toArray n } ∧ xs.length ≤ sizeLine := by
  obtain ⟨z, its, n, r, e⟩ := I.hok p _ h
  exact ⟨its, n, r, e, z⟩
/-- the list at p is written by an update of its object -/
theorem Inv.lstUpd {pins : List (Addr × Obj)} {σ : St} {H : Hp} {s : Shared} {p : Addr} {xs ys : List V} {its its' : List Value} {n n' : Nat} {f : Obj → Obj} (I : Inv X pins σ H s) (h : H p = some (.lst xs))
    (ho : s.heap.get? p = some { cls := .type "list", data := .seq its.toArray n }) (hf : f { cls := .type "list", data := .seq its.toArray n } = { cls := .type "list", data := .seq its'.toArray n' }) (r : Vals ys its') (hz : ys.length ≤ sizeLine) (t : Nat) (ht : 0 < t := by first | assumption | exact Nat.succ_pos _ | (apply Inv.tk; assumption)) :
    Inv X pins σ (upd H p (.lst ys)) { s with heap := s.heap.update p f, toks := t } := by
  have e : (s.heap.update p f).get? p = some { cls := .type "list", data := .seq its'.toArray n' } := by
    rw [Heap.get?_update_self f ho (by rw [hf] <;> rfl), hf]
  refine I.write (x := p) (e := p) (by rw [h]; trivial) (.inl rfl) (fun b u hb q => (Heap.get?_update_other _ _ (Ne.symm hb)).trans q) ⟨_, e⟩ ?_
  exact ⟨hz, its', n', r, e⟩
def rSetL : V → V → V → Hp → (Hp → Prop) → Prop := fun o i v H Q => ∃ p xs k j, o = .ref p ∧ i = .int k ∧ H p = some (.lst xs) ∧ ixN xs.length k = some j ∧ Q (upd H p (.lst (xs.set j v)))
theorem set_list : PSet X rSetL := by
  intro pins s σ H o i v ov iv u Q I ro ri rv h
  obtain ⟨p, xs, k, j, rfl, rfl, hp, hj, q⟩ := h
  cases ro
  obtain ⟨t, rfl⟩ := ri
  obtain ⟨its, n, r, ho, hz⟩ := I.lst hp
  obtain ⟨h1, h2, h3, h4⟩ := ixN_seq hj
  have hl := r.length
  have hn := line63
  have I' : Inv X pins σ (upd H p (.lst (xs.set j v))) { s with heap := s.heap.update p (Obj.mapSeq (·.setIfInBounds j u)) } :=
    I.lstUpd hp ho (mapSeq_set its n j u) (r.set rv j) (by rw [List.length_set]; exact hz) s.toks
  by_cases h0 : 0 ≤ k
  · have hk : k.toNat = j := by
      rw [seqIndex_of h0 h4] at h1
      exact Option.some.inj h1
    exact PySem.W.ki_setAt ho h0 (by omega) (by rw [List.size_toArray, ← hl]; exact h4) (by rw [hk]; exact ⟨_, I', q⟩)
  · have hk : (k + (its.toArray.size : Int)).toNat = j := by
      rw [seqIndex_neg (by omega) h3] at h1
      rw [List.size_toArray, ← hl]
      exact Option.some.inj h1
    exact PySem.W.ki_setBack ho (by omega) (by rw [List.size_toArray, ← hl]; exact h3) (by omega) (by rw [hk]; exact ⟨_, I', q⟩)

/-! ### slices -/
theorem slice_bounds (lo hi : Option Int) (n : Nat) : (sliceBounds lo hi none n).1 = ((HT.sIx n 0 lo : Nat) : Int) ∧ (sliceBounds lo hi none n).2.1 = ((HT.sIx n n hi : Nat) : Int) ∧ (sliceBounds lo hi none n).2.2 = 1 := by
  refine ⟨?_, ?_, rfl⟩
  · cases lo with
    | none => simp [sliceBounds, HT.sIx]
    | some i =>
      simp only [sliceBounds, HT.sIx, Option.getD_none, show (1 : Int) > 0 by decide, if_true]
      by_cases h : i < 0
      · simp only [h, if_true] <;> omega
      · simp only [h, if_false] <;> omega
  · cases hi with
    | none => simp [sliceBounds, HT.sIx]
    | some i =>
      simp only [sliceBounds, HT.sIx, Option.getD_none, show (1 : Int) > 0 by decide, if_true]
      by_cases h : i < 0
      · simp only [h, if_true] <;> omega
      · simp only [h, if_false] <;> omega
theorem slicePick_cut (its : List Value) (lo hi : Option Int) : slicePick its.toArray lo hi none = ((its.drop (HT.sIx its.length 0 lo)).take (HT.sIx its.length its.length hi - HT.sIx its.length 0 lo)).toArray := by
  obtain ⟨h1, h2, h3⟩ := slice_bounds lo hi its.toArray.size
  unfold slicePick
  rw [h1, h2, h3]
  simp only [sliceRange_one, pick_run, List.size_toArray] <;> rfl
/-- xs[lo:hi] of a list: a new list -/
def rSlL (K : PySem.W.Frag) : V → Option Int → Option Int → Hp → VK → Prop := fun x lo hi H Q => ∃ a xs, x = .ref a ∧ SqL K H a xs ∧ ∀ p, H p = none → Q (.ref p) (upd H p (.lst (cutV xs lo hi)))
theorem sl_list : SlR X (rSlL X.K) := by
  intro pins s σ H x v vl vu lo hi sl Q I rx hs pl pu h
  obtain ⟨a, xs, rfl, hx, q⟩ := h
  cases rx
  obtain ⟨its, r, ht, hz⟩ := I.list hx
  have hlen := r.length
  refine ⟨"list", _, slot_list_getitem.lookup, ht.isList.typeIs, ?_⟩
  refine wpAny_getItem_list_slice ht.isList hs pl pu .none (by simp) ?_ (by rw [List.size_toArray] <;> omega)
  rw [slicePick_cut, ← hlen]
  refine ⟨.ref s.heap.objs.size, _, I.laid (t' := s.toks) (o := .lst (cutV xs lo hi)) (fun b ob q => Heap.get?_push_of_some _ q) (Nat.le_refl _) ?_, rfl, q _ (I.hok.fresh (Nat.le_refl _))⟩
  exact ⟨Nat.le_trans (cutV_length xs lo hi) hz, _, 0, (r.drop (HT.sIx xs.length 0 lo)).take (HT.sIx xs.length xs.length hi - HT.sIx xs.length 0 lo), Heap.get?_push_size _ rfl⟩

/-! ### in, not in: flat items -/
def flatV : V → Bool
  | .non => true
  | .bl _ => true
  | .int _ => true
  | .str _ => true
  | _ => false
/-- == of flat values -/
def eqV : V → V → Bool
  | .non, .non => true
  | .bl a, .bl b => a == b
  | .bl a, .int b => (if a then 1 else 0) == b
  | .int a, .bl b => a == (if b then 1 else 0)
  | .int a, .int b => a == b
  | .str a, .str b => a == b
  | _, _ => false
theorem eqAt_V {A : Around} {s : Shared} {y x : V} {u v : Value} (ry : RelV y u) (rx : RelV x v) (fy : flatV y = true) (fx : flatV x = true) : SeqAt.EqAt A s u v (eqV y x) := by
  cases y with
  | non =>
    cases ry
    cases x with
    | non => cases rx; exact SeqAt.EqAt.same _
    | bl b => cases rx; exact SeqAt.EqAt.none_bool b
    | int b => obtain ⟨t, rfl⟩ := rx; exact SeqAt.EqAt.none_int b t
    | str b => obtain ⟨t, rfl⟩ := rx; exact SeqAt.EqAt.none_str b t
    | _ => exact absurd (show false = true from fx) Bool.false_ne_true
  | bl a =>
    cases ry
    cases x with
    | non => cases rx; exact SeqAt.EqAt.bool_none a
    | bl b => cases rx; exact SeqAt.EqAt.bool_bool a b
    | int b => obtain ⟨t, rfl⟩ := rx; exact SeqAt.EqAt.bool_int a b t
    | str b => obtain ⟨t, rfl⟩ := rx; exact SeqAt.EqAt.bool_str a b t
    | _ => exact absurd (show false = true from fx) Bool.false_ne_true
  | int a =>
    obtain ⟨t', rfl⟩ := ry
    cases x with
    | non => cases rx; exact SeqAt.EqAt.int_none a t'
    | bl b => cases rx; exact SeqAt.EqAt.int_bool a t' b
    | int b => obtain ⟨t, rfl⟩ := rx; exact SeqAt.EqAt.int_int a t' b t
    | str b => obtain ⟨t, rfl⟩ := rx; exact SeqAt.EqAt.int_str a t' b t
    | _ => exact absurd (show false = true from fx) Bool.false_ne_true
  | str a =>
    obtain ⟨t', rfl⟩ := ry
    cases x with
    | non => cases rx; exact SeqAt.EqAt.str_none a t'
    | bl b => cases rx; exact SeqAt.EqAt.str_bool a t' b
    | int b => obtain ⟨t, rfl⟩ := rx; exact SeqAt.EqAt.str_int a t' b t
    | str b => obtain ⟨t, rfl⟩ := rx; exact SeqAt.EqAt.str_str a t' b t
    | _ => exact absurd (show false = true from fx) Bool.false_ne_true
  | _ => exact absurd (show false = true from fy) Bool.false_ne_true
/-- the items' answers, read off the values (a value's own answer does not lean on its token) -/
def eqU (x : V) (u : Value) : Bool := match u with
  | .none => eqV .non x
  | .bool b => eqV (.bl b) x
  | .int i _ => eqV (.int i) x
  | .str z _ => eqV (.str z) x
  | _ => false
theorem eqU_of {x y : V} {u : Value} (r : RelV y u) (f : flatV y = true) : eqU x u = eqV y x := by
  cases y with
  | non => cases r; rfl
  | bl b => cases r; rfl
  | int i => obtain ⟨t, rfl⟩ := r; rfl
  | str z => obtain ⟨t, rfl⟩ := r; rfl
  | _ => exact absurd (show false = true from f) Bool.false_ne_true
theorem any_eqU {x : V} : ∀ {xs : List V} {us : List Value}, Vals xs us → xs.all flatV = true → us.any (eqU x) = xs.any fun y => eqV y x
  | _, _, .nil, _ => rfl
  | y :: xs, u :: us, .cons r t, f => by
    rw [List.all_cons, Bool.and_eq_true] at f
    rw [List.any_cons, List.any_cons, eqU_of r f.1, any_eqU t f.2]
theorem mem_eqAt {A : Around} {s : Shared} {x : V} {v : Value} (rx : RelV x v) (fx : flatV x = true) : ∀ {xs : List V} {us : List Value}, Vals xs us → xs.all flatV = true → ∀ u ∈ us, SeqAt.EqAt A s u v (eqU x u)
  | _, _, .nil, _ => fun u hu => by cases hu
  | y :: xs, u :: us, .cons r t, f => fun u' hu => by
    rw [List.all_cons, Bool.and_eq_true] at f
    rcases List.mem_cons.mp hu with rfl | hu
    · rw [eqU_of r f.1]; exact eqAt_V r rx f.1 fx
    · exact mem_eqAt rx fx t f.2 u' hu
def inV (x : V) (xs : List V) : Bool := xs.any fun y => eqV y x
/-- x in a list or tuple of flat items -/
def rIn (K : PySem.W.Frag) (neg : Bool) : R2 := fun x y H Q => ∃ p xs, y = .ref p ∧ (SqL K H p xs ∨ SqT K H p xs) ∧ flatV x = true ∧ xs.all flatV = true ∧ Q (.bl (if neg then !inV x xs else inV x xs)) H
theorem op_in_seq : OpR X (compareOp .In) (rIn X.K false) := by
  intro pins s σ H x y v u Q I rx ry h
  obtain ⟨p, xs, rfl, hq, fx, fs, q⟩ := h
  cases ry
  rcases hq with hq | hq
  · obtain ⟨its, r, pl, hz⟩ := I.list hq
    refine SeqAt.in_listAt (eqU x) pl.isList (fun w hw => mem_eqAt rx fx r fs w (by simpa using hw)) ⟨.bl _, H, I, rfl, ?_⟩
    rw [show its.toArray.any (eqU x) = its.any (eqU x) by simp, any_eqU r fs]
    exact q
  · obtain ⟨its, r, pl, hz⟩ := I.tuple hq
    refine SeqAt.in_tupleAt (eqU x) pl (fun w hw => mem_eqAt rx fx r fs w (by simpa using hw)) ⟨.bl _, H, I, rfl, ?_⟩
    rw [show its.toArray.any (eqU x) = its.any (eqU x) by simp, any_eqU r fs]
    exact q
theorem op_notIn_seq : OpR X (compareOp .NotIn) (rIn X.K true) := by
  intro pins s σ H x y v u Q I rx ry h
  obtain ⟨p, xs, rfl, hq, fx, fs, q⟩ := h
  cases ry
  rcases hq with hq | hq
  · obtain ⟨its, r, pl, hz⟩ := I.list hq
    refine SeqAt.notIn_listAt (eqU x) pl.isList (fun w hw => mem_eqAt rx fx r fs w (by simpa using hw)) ⟨.bl _, H, I, rfl, ?_⟩
    rw [show its.toArray.any (eqU x) = its.any (eqU x) by simp, any_eqU r fs]
    exact q
  · obtain ⟨its, r, pl, hz⟩ := I.tuple hq
    refine SeqAt.notIn_tupleAt (eqU x) pl (fun w hw => mem_eqAt rx fx r fs w (by simpa using hw)) ⟨.bl _, H, I, rfl, ?_⟩
    rw [show its.toArray.any (eqU x) = its.any (eqU x) by simp, any_eqU r fs]
    exact q
theorem op_notIn_str : OpR X (compareOp .NotIn) (fun x y H Q => ∃ i j, x = .str i ∧ y = .str j ∧ Q (.bl (!(!(Builtin.Str.occurrences j i 0 j.length 1).isEmpty))) H) := by
  intro pins s σ H x y v u Q I rx ry h
  obtain ⟨i, j, rfl, rfl, q⟩ := h
  obtain ⟨t, rfl⟩ := rx
  obtain ⟨t', rfl⟩ := ry
  exact notIn_str ⟨.bl _, H, I, rfl, q⟩

/-! ### len, list(x), tuple(x) of any list or tuple that is read -/
theorem call_len_seq : CallR X (.builtin "len") (fun xs H Q => ∃ p ys, xs = [.ref p] ∧ (SqL X.K H p ys ∨ SqT X.K H p ys) ∧ Q (.int ys.length) H) := by
  intro pins s σ H xs us Q I r h
  obtain ⟨p, ys, rfl, hq, q⟩ := h
  obtain ⟨u, rfl, rx⟩ := vals1 r
  cases rx
  have hn := line63
  rcases hq with hq | hq
  · obtain ⟨its, r', pl, hz⟩ := I.list hq
    have hlen := r'.length
    exact Calls.call_len_list pl.isList (by simp only [List.size_toArray] <;> omega) ⟨.int ys.length, H, I.tok _, ⟨s.toks + 1, by rw [List.size_toArray, hlen]⟩, q⟩
  · obtain ⟨its, r', pl, hz⟩ := I.tuple hq
    have hlen := r'.length
    exact len_tuple pl (by simp only [List.size_toArray] <;> omega) ⟨.int ys.length, H, I.tok _, ⟨s.toks + 1, by rw [List.size_toArray, hlen]⟩, q⟩
theorem call_len_str : CallR X (.builtin "len") (fun xs H Q => ∃ z, xs = [.str z] ∧ z.length ≤ sizeLine ∧ Q (.int z.length) H) := by
  intro pins s σ H xs us Q I r h
  obtain ⟨z, rfl, hz, q⟩ := h
  obtain ⟨u, rfl, t, rfl⟩ := vals1 r
  have hn := line63
  exact len_str (by omega) ⟨.int z.length, H, I.tok _, ⟨_, rfl⟩, q⟩
theorem CallR.or {f : Value} {r r' : List V → Hp → VK → Prop} (h : CallR X f r) (h' : CallR X f r') : CallR X f (fun xs H Q => r xs H Q ∨ r' xs H Q) := by
  intro pins s σ H xs us Q I rs q
  rcases q with q | q
  · exact h pins s σ H xs us Q I rs q
  · exact h' pins s σ H xs us Q I rs q
theorem call_list_of : CallR X (.type "list") (fun xs H Q => ∃ p ys, xs = [.ref p] ∧ (SqL X.K H p ys ∨ SqT X.K H p ys) ∧ ∀ l, H l = none → Q (.ref l) (upd H l (.lst ys))) := by
  intro pins s σ H xs us Q I r h
  obtain ⟨p, ys, rfl, hq, q⟩ := h
  obtain ⟨u, rfl, rx⟩ := vals1 r
  cases rx
  have fin : ∀ (its : List Value), Vals ys its → ys.length ≤ sizeLine → ∀ (h' : Heap) (c' : Nat), (∀ b o', s.heap.get? b = some o' → h'.get? b = some o') →
      h'.get? s.heap.objs.size = some { cls := .type "list", dict := none, data := .seq its.toArray c', slots := #[] } → EP X pins σ Q (.ref s.heap.objs.size) { s with heap := h' } := fun its r' hz h' c' kp e =>
    ⟨.ref s.heap.objs.size, _, I.laid (t' := s.toks) kp (Nat.le_refl _) (show ObjOk X.prog X.w _ h' _ (.lst ys) from ⟨hz, its, c', r', e⟩), rfl, q _ (I.hok.fresh (Nat.le_refl _))⟩
  rcases hq with hq | hq
  · obtain ⟨its, r', pl, hz⟩ := I.list hq
    have hlen := r'.length
    obtain ⟨o, ho, hc, n, hd⟩ := pl.isList
    exact call_list_seq p (.inl rfl) ho hc hd (fun h' c' kp e => fin its r' hz h' c' kp e) (by simp only [List.size_toArray] <;> omega)
  · obtain ⟨its, r', pl, hz⟩ := I.tuple hq
    have hlen := r'.length
    obtain ⟨o, ho, hc, n, hd⟩ := pl
    exact call_list_seq p (.inr rfl) ho hc hd (fun h' c' kp e => fin its r' hz h' c' kp e) (by simp only [List.size_toArray] <;> omega)
theorem call_tuple_of : CallR X (.type "tuple") (fun xs H Q => ∃ p ys, xs = [.ref p] ∧ ((SqL X.K H p ys ∧ ∀ l, H l = none → Q (.ref l) (upd H l (.tup ys))) ∨ (SqT X.K H p ys ∧ Q (.ref p) H))) := by
  intro pins s σ H xs us Q I r h
  obtain ⟨p, ys, rfl, h⟩ := h
  obtain ⟨u, rfl, rx⟩ := vals1 r
  cases rx
  rcases h with ⟨hq, q⟩ | ⟨hq, q⟩
  · obtain ⟨its, r', pl, hz⟩ := I.list hq
    have hlen := r'.length
    refine call_tuple_list pl.isList (fun h' kp => ?_) (by simp only [List.size_toArray] <;> omega)
    have I1 : Inv X pins σ H { s with heap := h' } := I.kept (t' := s.toks) kp
    have I2 : Inv X pins σ (upd H h'.objs.size (.tup ys)) { s with heap := h'.push { cls := .type "tuple", data := .seq its.toArray } } :=
      I1.laid (t' := s.toks) (fun b o e => Heap.get?_push_of_some _ e) (Nat.le_refl _) (show ObjOk X.prog X.w _ _ _ (.tup ys) from ⟨hz, its, r', IsTup.new _ _⟩)
    exact ⟨.ref h'.objs.size, _, I2, rfl, q _ (I1.hok.fresh (Nat.le_refl _))⟩
  · obtain ⟨its, r', pl, hz⟩ := I.tuple hq
    exact call_tuple_same pl ⟨.ref p, H, I, rfl, q⟩

/-! ### the call of a builtin's method: o.m(..) -/
/-- the value is of that builtin type -/
def tyV (K : PySem.W.Frag) (T : String) (x : V) (H : Hp) : Prop := match x with
  | .str _ => T = "str"
  | .int _ => T = "int"
  | .ref p => (T = "list" ∧ ∃ xs, SqL K H p xs) ∨ (T = "tuple" ∧ ∃ o, K.lookup p = some o ∧ o.cls = .type "tuple" ∧ o.dict = none) ∨
      (T = "dict" ∧ ((∃ kvs, H p = some (.dK kvs)) ∨ ∃ kvs, H p = some (.dT kvs))) ∨ (T = "set" ∧ ∃ S n, H p = some (.set S n))
  | _ => False
theorem tyV_is {pins : List (Addr × Obj)} {σ : St} {H : Hp} {s : Shared} {T : String} {x : V} {v : Value} (I : Inv X pins σ H s) (r : RelV x v) (ty : tyV X.K T x H) :
    s.TypeIs v T ∧ ∀ a, v = .ref a → ∃ ob, s.heap.get? a = some ob ∧ ob.dict = none := by
  cases x with
  | str z =>
    obtain ⟨t, rfl⟩ := r
    cases (show T = "str" from ty)
    exact ⟨typeIs_str s z t, fun _ e => nomatch e⟩
  | int i =>
    obtain ⟨t, rfl⟩ := r
    cases (show T = "int" from ty)
    exact ⟨typeIs_int s i t, fun _ e => nomatch e⟩
  | ref p =>
    cases r
    rcases ty with ⟨rfl, xs, hq⟩ | ⟨rfl, o, hk, hc, hd⟩ | ⟨rfl, hk⟩ | ⟨rfl, S, n, hk⟩
    · obtain ⟨its, _, pl, _⟩ := I.list hq
      refine ⟨pl.isList.typeIs, fun a e => ?_⟩
      cases e
      obtain ⟨o, n, e, c, hd, _⟩ := pl
      exact ⟨o, e, hd⟩
    · refine ⟨⟨o, I.kIn p o hk, hc⟩, fun a e => ?_⟩
      cases e
      exact ⟨o, I.kIn _ o hk, hd⟩
    · have z : ∃ o, s.heap.get? p = some o ∧ o.ExactDict := by
        rcases hk with ⟨kvs, hk⟩ | ⟨kvs, hk⟩
        · obtain ⟨_, _, _, _, o, _, _, e, ex, _⟩ := I.hok p _ hk
          exact ⟨o, e, ex⟩
        · obtain ⟨_, _, _, _, o, _, _, e, ex, _⟩ := I.hok p _ hk
          exact ⟨o, e, ex⟩
      obtain ⟨o, e, ex⟩ := z
      refine ⟨⟨o, e, ex.1⟩, fun a e2 => ?_⟩
      cases e2
      exact ⟨o, e, ex.2.1⟩
    · obtain ⟨o, _, _, _, e, ex, _⟩ := I.hok p _ hk
      refine ⟨⟨o, e, ex.1⟩, fun a e2 => ?_⟩
      cases e2
      exact ⟨o, e, ex.2.1⟩
  | _ => exact False.elim ty
def tBM0 (K : PySem.W.Frag) (T : String) (r : V → List V → Hp → VK → Prop) (to : TE) : TE := fun σ H Q => to σ H fun x H1 => tyV K T x H1 ∧ r x [] H1 Q
def tBM (K : PySem.W.Frag) (T : String) (r : V → List V → Hp → VK → Prop) (to : TE) (t : TA) : TE := fun σ H Q => to σ H fun x H1 => tyV K T x H1 ∧ t σ H1 fun xs H2 => r x xs H2 Q
variable {o e : Expr} {es : List Expr} {to : TE} {t : TA} {name : Str} {apos cpos : Pos} {T id : String} {r : V → List V → Hp → VK → Prop}
theorem pe_bm0 (pa : PlainAttrs T) (slot : Slot T name id) (hty : typeOf (.builtin id) = pure (.type "method_descriptor")) (hm : MtR X id r) (ho : PE X o to)
    (hbase : attributeBase o name X.env (eval o X.env) = eval o X.env := by rfl) (hline : (apos.endLine == cpos.line) = true := by rfl) : PE X (.Call (.Attribute o name apos) [] [] cpos) (tBM0 X.K T r to) := by
  intro pins s σ H Q I h
  refine wpAny_Call_method0_late hbase hline (thn (ho pins s σ H _ I h) fun v s1 ⟨x, H1, I1, r1, ty, q1⟩ => ?_)
  obtain ⟨h1, h2⟩ := tyV_is I1 r1 ty
  exact ⟨T, id, pa, slot, hty, h1, h2, Calls.callWith_builtin rfl (PySem.evalArgs_none (hm pins s1 σ H1 x [] v [] Q I1 r1 .nil q1))⟩
theorem pe_bm (pa : PlainAttrs T) (slot : Slot T name id) (hty : typeOf (.builtin id) = pure (.type "method_descriptor")) (hm : MtR X id r) (ho : PE X o to) (ha : PA X (e :: es) t)
    (hbase : attributeBase o name X.env (eval o X.env) = eval o X.env := by rfl)
    (hfew : ((backTo cpos (starEach (e :: es) X.env)).all (fun x => !x.1) && (backToKw cpos (keywordEach [] X.env)).all (fun x => x.1.isSome)
      && decide ((e :: es).length + ([] : List Keyword).length + (if ([] : List Keyword).isEmpty then 0 else 1) < 30)) = true := by rfl)
    (hline : (apos.endLine == cpos.line) = true := by rfl) (hs : starEach (e :: es) X.env = (false, eval e X.env) :: starEach es X.env := by rfl) (hplain : (backTo cpos (starEach es X.env)).any (·.1) = false := by rfl) :
    PE X (.Call (.Attribute o name apos) (e :: es) [] cpos) (tBM X.K T r to t) := by
  intro pins s σ H Q I h
  refine wpAny_Call_method_late hbase hfew hline rfl (thn (ho pins s σ H _ I h) fun v s1 ⟨x, H1, I1, r1, ty, q1⟩ => ?_)
  obtain ⟨h1, h2⟩ := tyV_is I1 r1 ty
  refine ⟨T, id, pa, slot, hty, h1, h2, ?_⟩
  have hA := ha cpos pins s1 σ H1 _ I1 q1
  rw [hs] at hA ⊢
  refine Calls.callWith_builtin (by show (false || (backTo cpos (starEach es X.env)).any (·.1)) = false; rw [hplain] <;> rfl) (Calls.evalArgs_plain ?_)
  exact thn hA fun us s2 ⟨vs, H2, I2, r2, q2⟩ => hm pins s2 σ H2 x vs v us Q I2 r1 r2 q2
/- xs.append(e), list.index on a module's tuple .. are MtR facts of 06m -/
end
end L2

namespace L2
open PySem PySem.Spec PyProof.Rows

def MtM (X : Cx) (id : String) (r : V → List V → Hp → VK → Prop) : Prop :=
  ∀ (pins : List (Addr × Obj)) (s : Shared) (σ : St) (H : Hp) (x : V) (xs : List V) (v : Value) (us : List Value) (Q : VK), Inv X pins σ H s → RelV x v → Vals xs us → r x xs H Q →
    wpAny (model X.prog X.w) X.A (call (.builtin id) (v :: us)) (EP X pins σ Q) X.xe s

/-! ### lists of values -/
theorem Vals.one : ∀ {x : V} {us : List Value}, Vals [x] us → ∃ u, us = [u] ∧ RelV x u
  | _, _, .cons r .nil => ⟨_, rfl, r⟩
theorem Vals.two : ∀ {x y : V} {us : List Value}, Vals [x, y] us → ∃ u v, us = [u, v] ∧ RelV x u ∧ RelV y v
  | _, _, _, .cons r (.cons q .nil) => ⟨_, _, rfl, r, q⟩
theorem Vals.zero : ∀ {us : List Value}, Vals [] us → us = []
  | _, .nil => rfl
theorem Vals.dropLast {xs : List V} {us : List Value} (h : Vals xs us) : Vals xs.dropLast us.dropLast := by
  induction h with
  | nil => exact .nil
  | cons r t ih =>
    cases t with
    | nil => exact .nil
    | cons q t' => exact .cons r ih
theorem Vals.eraseIdx : ∀ {xs : List V} {us : List Value} (i : Nat), Vals xs us → Vals (xs.eraseIdx i) (us.eraseIdx i)
  | _, _, _, .nil => .nil
  | _, _, 0, .cons _ t => t
  | _, _, i + 1, .cons r t => .cons r (Vals.eraseIdx i t)
theorem Vals.reverse {xs : List V} {us : List Value} (h : Vals xs us) : Vals xs.reverse us.reverse := by
  induction h with
  | nil => exact .nil
  | cons r t ih => rw [List.reverse_cons, List.reverse_cons]; exact Vals.append ih (.cons r .nil)
theorem Vals.rep {xs : List V} {us : List Value} (h : Vals xs us) : ∀ k : Nat, Vals (List.replicate k xs).flatten (List.replicate k us).flatten
  | 0 => .nil
  | k + 1 => by
    rw [List.replicate_succ, List.replicate_succ, List.flatten_cons, List.flatten_cons]
    exact Vals.append h (Vals.rep h k)
theorem erase_last {α : Type} (l : List α) : l.eraseIdx (l.length - 1) = l.dropLast := by
  induction l with
  | nil => rfl
  | cons a r ih =>
    cases r with
    | nil => rfl
    | cons b r =>
      have e : (a :: b :: r).length - 1 = ((b :: r).length - 1) + 1 := by
        have h1 : (a :: b :: r).length = r.length + 2 := rfl
        have h2 : (b :: r).length = r.length + 1 := rfl
        omega
      rw [e, List.eraseIdx_cons_succ, ih]
      all_goals rfl
theorem len_erase {α : Type} : ∀ (l : List α) (i : Nat), (l.eraseIdx i).length ≤ l.length
  | [], _ => Nat.le_refl _
  | _ :: _, 0 => Nat.le_succ _
  | _ :: r, i + 1 => Nat.succ_le_succ (len_erase r i)
theorem foldl_rep (its : List Value) : ∀ (k : Nat) (acc : List Value),
    List.foldl (fun x1 x2 => x1 ++ x2) acc.toArray (List.replicate k its.toArray) = (acc ++ (List.replicate k its).flatten).toArray
  | 0, acc => by simp
  | k + 1, acc => by
    have e : acc.toArray ++ its.toArray = (acc ++ its).toArray := by simp
    have e2 : (acc ++ its) ++ (List.replicate k its).flatten = acc ++ (List.replicate (k + 1) its).flatten := by
      rw [List.replicate_succ, List.flatten_cons, List.append_assoc]
    rw [← e2, ← foldl_rep its k (acc ++ its), ← e, List.replicate_succ, List.foldl_cons]

section
variable {X : Cx} {pins : List (Addr × Obj)} {σ : St} {H : Hp} {s : Shared} {l b : Addr} {xs ys zs : List V}

/-! ### the two steps: a tracked list is rewritten, a new list is laid -/
theorem Inv.lset {its its' : List Value} {n : Nat} {f : Array Value → Array Value} {t' : Nat} (I : Inv X pins σ H s) (hH : H l = some (.lst xs))
    (e : s.heap.get? l = some { cls := .type "list", data := .seq its.toArray n }) (hf : f its.toArray = its'.toArray) (hv : Vals ys its') (hz : ys.length ≤ sizeLine) (ht : 0 < t' := by first | assumption | exact Nat.succ_pos _ | (apply Inv.tk; assumption)) :
    Inv X pins σ (upd H l (.lst ys)) { s with heap := s.heap.update l (Obj.mapSeq f), toks := t' } := by
  have q := PySem.IsL.update e f
  rw [hf] at q
  refine I.write (x := l) (e := l) (by rw [hH]; exact trivial) (.inl rfl) (fun b' u hb hu => (Heap.get?_update_other s.heap (Obj.mapSeq f) (Ne.symm hb)).trans hu) ⟨_, q⟩ ?_
  exact ⟨hz, its', _, hv, q⟩
theorem Inv.lnew {its : List Value} {t' : Nat} (I : Inv X pins σ H s) (hv : Vals ys its) (hz : ys.length ≤ sizeLine) (ht : 0 < t' := by first | assumption | exact Nat.succ_pos _ | (apply Inv.tk; assumption)) :
    Inv X pins σ (upd H s.heap.objs.size (.lst ys)) { s with heap := s.heap.push { cls := .type "list", data := .seq its.toArray }, toks := t' } :=
  I.laid (fun _ _ q => Heap.get?_push_of_some _ q) (Nat.le_refl _) ⟨hz, its, 0, hv, Heap.get?_push_size _ rfl⟩
theorem Inv.fresh (I : Inv X pins σ H s) : H s.heap.objs.size = none := I.hok.fresh (Nat.le_refl _)
theorem Inv.lstM (I : Inv X pins σ H s) (hH : H l = some (.lst xs)) : xs.length ≤ sizeLine ∧ ∃ (its : List Value) (n : Nat), Vals xs its ∧ xs.length = its.length ∧ s.heap.get? l = some { cls := .type "list", data := .seq its.toArray n } := by
  obtain ⟨z, its, n, r, e⟩ := I.hok l _ hH
  exact ⟨z, its, n, r, r.length, e⟩

theorem notLongL {n : Nat} (h : n ≤ sizeLine) : Builtin.List.listTooLong n = false := by
  unfold Builtin.List.listTooLong
  exact decide_eq_false (by omega)
end

section
variable {X : Cx}

/-! ### methods -/
def rAppend : V → List V → Hp → VK → Prop := fun x vs H Q => ∃ l xs y, x = .ref l ∧ vs = [y] ∧ H l = some (.lst xs) ∧ xs.length < sizeLine ∧ Q .non (upd H l (.lst (xs ++ [y])))
theorem mt_append : MtM X "list.append" rAppend := by
  intro pins s σ H x vs v us Q I rx rv h
  obtain ⟨l, xs, y, rfl, rfl, hH, hz, q⟩ := h
  cases rx
  obtain ⟨u, rfl, ru⟩ := rv.one
  obtain ⟨z, its, n, r, hl, e⟩ := I.lstM hH
  refine call_meets F.slot_list_append ⟨_, e, rfl⟩ F.entry_list_append (F.args_list_append_2 _ _) (PySem.list_append l its.toArray n u (by rw [List.size_toArray]; omega)) ⟨e, ?_⟩
  refine ⟨.non, _, I.lset (its' := its ++ [u]) hH e (by simp) (r.append (.cons ru .nil)) ?_, rfl, q⟩
  rw [List.length_append, List.length_singleton]
  omega

def rExtend : V → List V → Hp → VK → Prop := fun x vs H Q => ∃ l b xs zs, x = .ref l ∧ vs = [.ref b] ∧ H l = some (.lst xs) ∧ H b = some (.lst zs) ∧ xs.length + zs.length ≤ sizeLine ∧ Q .non (upd H l (.lst (xs ++ zs)))
theorem mt_extend : MtM X "list.extend" rExtend := by
  intro pins s σ H x vs v us Q I rx rv h
  obtain ⟨l, b, xs, zs, rfl, rfl, hH, hB, hz, q⟩ := h
  cases rx
  obtain ⟨u, rfl, ru⟩ := rv.one
  cases ru
  obtain ⟨z, its, n, r, hl, e⟩ := I.lstM hH
  obtain ⟨z2, its2, n2, r2, hl2, e2⟩ := I.lstM hB
  have hsz : its.toArray.size + its2.toArray.size ≤ sizeLine := by rw [List.size_toArray, List.size_toArray]; omega
  have hlong : ¬ (!its.toArray.isEmpty && Builtin.List.listTooLong (its.toArray.size + its2.toArray.size)) = true := by
    rw [notLongL hsz, Bool.and_false]
    exact Bool.false_ne_true
  refine call_meets F.slot_list_extend ⟨_, e, rfl⟩ F.entry_list_extend (F.args_list_extend_2 _ _)
    (AutoSeq1.list_extend_list_list_0 l its.toArray n b its2.toArray n2 hlong (by rw [List.size_toArray]; omega) (by omega)) ⟨e, e2, ?_⟩
  refine ⟨.non, _, I.lset (its' := its ++ its2) hH e (by simp) (r.append r2) ?_, rfl, q⟩
  rw [List.length_append]
  omega

def rPop : V → List V → Hp → VK → Prop := fun x vs H Q => ∃ l xs y, x = .ref l ∧ vs = [] ∧ H l = some (.lst xs) ∧ xs[xs.length - 1]? = some y ∧ Q y (upd H l (.lst xs.dropLast))
theorem mt_pop : MtM X "list.pop" rPop := by
  intro pins s σ H x vs v us Q I rx rv h
  obtain ⟨l, xs, y, rfl, rfl, hH, hy, q⟩ := h
  cases rx
  have hus := rv.zero
  subst hus
  obtain ⟨z, its, n, r, hl, e⟩ := I.lstM hH
  obtain ⟨u, hu, ru⟩ := r.get hy
  have hy' : its.toArray[its.toArray.size - 1]? = some u := by
    show its.toArray[its.length - 1]? = some u
    rw [← Array.getElem?_toList, ← hl]
    exact hu
  refine call_meets F.slot_list_pop ⟨_, e, rfl⟩ F.entry_list_pop (F.args_list_pop_1 _) (MeetsSeq.list_pop_last l its.toArray n u hy' (by rw [List.size_toArray]; omega)) ⟨e, ?_⟩
  refine ⟨y, _, I.lset (its' := its.dropLast) hH e ?_ r.dropLast ?_, ru, q⟩
  · show its.toArray.eraseIdxIfInBounds (its.toArray.size - 1) = its.dropLast.toArray
    rw [List.size_toArray, List.eraseIdxIfInBounds_toArray, erase_last]
  · rw [List.length_dropLast]
    omega

def rPopAt : V → List V → Hp → VK → Prop := fun x vs H Q => ∃ l xs i k y, x = .ref l ∧ vs = [.int i] ∧ H l = some (.lst xs) ∧ -(2 ^ 63) ≤ i ∧ i < 2 ^ 63 ∧ seqIndex? i xs.length = some k ∧ xs[k]? = some y ∧ Q y (upd H l (.lst (xs.eraseIdx k)))
theorem mt_popAt : MtM X "list.pop" rPopAt := by
  intro pins s σ H x vs v us Q I rx rv h
  obtain ⟨l, xs, i, k, y, rfl, rfl, hH, h1, h2, hk, hy, q⟩ := h
  cases rx
  obtain ⟨u, rfl, ru⟩ := rv.one
  obtain ⟨t, rfl⟩ := ru
  obtain ⟨z, its, n, r, hl, e⟩ := I.lstM hH
  obtain ⟨w, hw, rw'⟩ := r.get hy
  refine call_meets F.slot_list_pop ⟨_, e, rfl⟩ F.entry_list_pop (F.args_list_pop_2 _ _)
    (MeetsSeq.list_pop_at l its.toArray n i t k w (fitsIndex_both h1 h2) (by rw [List.size_toArray, ← hl]; exact hk) (by rw [← Array.getElem?_toList]; exact hw) (by rw [List.size_toArray]; omega)) ⟨e, ?_⟩
  refine ⟨y, _, I.lset (its' := its.eraseIdx k) hH e ?_ (r.eraseIdx k) ?_, rw', q⟩
  · show its.toArray.eraseIdxIfInBounds k = (its.eraseIdx k).toArray
    rw [List.eraseIdxIfInBounds_toArray]
  · have := len_erase xs k
    omega

def rReverse : V → List V → Hp → VK → Prop := fun x vs H Q => ∃ l xs, x = .ref l ∧ vs = [] ∧ H l = some (.lst xs) ∧ Q .non (upd H l (.lst xs.reverse))
theorem mt_reverse : MtM X "list.reverse" rReverse := by
  intro pins s σ H x vs v us Q I rx rv h
  obtain ⟨l, xs, rfl, rfl, hH, q⟩ := h
  cases rx
  have hus := rv.zero
  subst hus
  obtain ⟨z, its, n, r, hl, e⟩ := I.lstM hH
  refine call_meets F.slot_list_reverse ⟨_, e, rfl⟩ F.entry_list_reverse (F.args_list_reverse_1 _) (AutoSeq1.list_reverse_list_0 l its.toArray n (by rw [List.size_toArray]; omega)) ⟨e, ?_⟩
  refine ⟨.non, _, I.lset (its' := its.reverse) hH e (by simp) r.reverse ?_, rfl, q⟩
  rw [List.length_reverse]
  omega

def rClear : V → List V → Hp → VK → Prop := fun x vs H Q => ∃ l xs, x = .ref l ∧ vs = [] ∧ H l = some (.lst xs) ∧ Q .non (upd H l (.lst []))
theorem mt_clear : MtM X "list.clear" rClear := by
  intro pins s σ H x vs v us Q I rx rv h
  obtain ⟨l, xs, rfl, rfl, hH, q⟩ := h
  cases rx
  have hus := rv.zero
  subst hus
  obtain ⟨z, its, n, r, hl, e⟩ := I.lstM hH
  refine call_meets F.slot_list_clear ⟨_, e, rfl⟩ F.entry_list_clear (F.args_list_clear_1 _) (AutoSeq1.list_clear_list_0 l its.toArray n (by rw [List.size_toArray]; omega)) ⟨e, ?_⟩
  exact ⟨.non, _, I.lset (its' := []) (ys := []) hH e rfl .nil (Nat.zero_le _), rfl, q⟩

/-! ### list + list, list += list, list * int -/
def rCat : R2 := fun x y H Q => ∃ l b xs zs, x = .ref l ∧ y = .ref b ∧ H l = some (.lst xs) ∧ H b = some (.lst zs) ∧ xs.length + zs.length ≤ sizeLine ∧ ∀ p, H p = none → Q (.ref p) (upd H p (.lst (xs ++ zs)))
theorem op_cat : OpR X (binaryOp .Add) rCat := by
  intro pins s σ H x y v u Q I rx ry h
  obtain ⟨l, b, xs, zs, rfl, rfl, hH, hB, hz, q⟩ := h
  cases rx
  cases ry
  obtain ⟨z, its, n, r, hl, e⟩ := I.lstM hH
  obtain ⟨z2, its2, n2, r2, hl2, e2⟩ := I.lstM hB
  refine PySem.P.add_list e e2 ?_ (by rw [List.size_toArray, List.size_toArray]; omega)
  have ea : its.toArray ++ its2.toArray = (its ++ its2).toArray := by simp
  rw [ea]
  exact ⟨.ref _, _, I.lnew (t' := s.toks) (r.append r2) (by rw [List.length_append]; omega), rfl, q _ I.fresh⟩
/-- a list times an int (a negative one is nothing) -/
def rRep : R2 := fun x y H Q => ∃ l k xs, x = .ref l ∧ y = .int k ∧ H l = some (.lst xs) ∧ -(2 ^ 63) ≤ k ∧ k < 2 ^ 63 ∧ xs.length * k.toNat ≤ sizeLine ∧
  ∀ p, H p = none → Q (.ref p) (upd H p (.lst (List.replicate k.toNat xs).flatten))
theorem len_rep {α : Type} (xs : List α) (k : Nat) : (List.replicate k xs).flatten.length = k * xs.length := by
  induction k with
  | zero => simp
  | succ k ih => rw [List.replicate_succ, List.flatten_cons, List.length_append, ih, Nat.succ_mul, Nat.add_comm]
theorem op_rep : OpR X (binaryOp .Mult) rRep := by
  intro pins s σ H x y v u Q I rx ry h
  obtain ⟨l, k, xs, rfl, rfl, hH, h1, h2, hz, q⟩ := h
  cases rx
  obtain ⟨t, rfl⟩ := ry
  obtain ⟨z, its, n, r, hl, e⟩ := I.lstM hH
  have hlen : its.toArray.size * k.toNat ≤ sizeLine := by rw [List.size_toArray, ← hl]; exact hz
  have hcap : ¬ its.toArray.size * k.toNat > (2 ^ 63 - 1) / 8 := by
    have : (sizeLine : Nat) ≤ (2 ^ 63 - 1) / 8 := by decide
    omega
  have hfit : ¬ (!Builtin.List.listFitsIndex k) = true := by
    rw [fitsIndex_both h1 h2]
    exact Bool.false_ne_true
  have hlong : ¬ Builtin.List.listTooLong (its.toArray.size * k.toNat) = true := by
    rw [notLongL hlen]
    exact Bool.false_ne_true
  have hnew : List.foldl (fun x1 x2 => x1 ++ x2) #[] (List.replicate (if its.toArray.isEmpty = true then 0 else k.toNat) its.toArray) = (List.replicate k.toNat its).flatten.toArray := by
    have f0 : ∀ m : Nat, List.foldl (fun x1 x2 => x1 ++ x2) #[] (List.replicate m its.toArray) = (List.replicate m its).flatten.toArray := fun m => by
      have := foldl_rep its m []
      rw [List.nil_append] at this
      exact this
    rw [f0]
    cases its with
    | nil => simp
    | cons a r' => rw [if_neg (by simp)]
  refine wpAny_binaryOp_repeat_ref (T := "list") (U := "int") (by decide) ⟨_, e, rfl⟩ (fun s' => typeIs_int s' k t) noFill_list_mul F.fills_int_mul F.slot_int_rmul repeat_list F.slot_int_index.lookup
    (call_meets F.slot_int_rmul (typeIs_int s k t) F.entry_int_rmul (F.args_int_rmul_2 _ _) (int___rmul___int_list k t l its.toArray n)
      ⟨e, rfl, ⟨_, e, rfl⟩, call_meets F.slot_list_mul ⟨_, e, rfl⟩ F.entry_list_mul (F.args_list_mul_2 _ _) (AutoListH.list___mul___list_int_3 l its.toArray n k t hfit hcap hlong) ⟨e, ?_⟩⟩)
  rw [hnew]
  exact ⟨.ref _, _, I.lnew (t' := s.toks) (r.rep k.toNat) (by rw [len_rep, Nat.mul_comm]; exact hz), rfl, q _ I.fresh⟩

/-! ### del xs[i] -/
theorem del_list {pins : List (Addr × Obj)} {s : Shared} {σ : St} {H : Hp} {l : Addr} {xs : List V} {i : Int} {t : Tok} {k : Nat} {Q : Unit → Shared → Prop} (I : Inv X pins σ H s) (hH : H l = some (.lst xs))
    (h1 : -(2 ^ 63) ≤ i) (h2 : i < 2 ^ 63) (hk : seqIndex? i xs.length = some k) (h : ∀ s', Inv X pins σ (upd H l (.lst (xs.eraseIdx k))) s' → Q () s') :
    wpAny (model X.prog X.w) X.A (delItem (.ref l) (.int i t)) Q X.xe s := by
  obtain ⟨z, its, n, r, hl, e⟩ := I.lstM hH
  refine PySem.P.delItem_list (k := k) e (fitsIndex_both h1 h2) (by rw [List.size_toArray, ← hl]; exact hk) (h _ ?_) (by rw [List.size_toArray]; omega)
  refine I.lset (its' := its.eraseIdx k) (t' := s.toks) hH e ?_ (r.eraseIdx k) ?_
  · show its.toArray.eraseIdxIfInBounds k = (its.eraseIdx k).toArray
    rw [List.eraseIdxIfInBounds_toArray]
  · have := len_erase xs k
    omega
end

/-! ### xs[a:b] = ys -/
section
variable {prog : Program} {w : World} {A : Around} {E : Value → Shared → Prop} {s : Shared}
theorem splice_eq (its its2 : List Value) (a c : Nat) : its.toArray.extract 0 a ++ its2.toArray ++ its.toArray.extract c its.toArray.size = (its.take a ++ its2 ++ its.drop c).toArray := by
  apply Array.toList_inj.mp
  first
    | (simp
       exact List.take_of_length_le (by simp))
    | simp [List.take_of_length_le]
    | simp
theorem bounds_run {a c n : Nat} (hac : a ≤ c) (hc : c ≤ n) : sliceBounds (some (a : Int)) (some (c : Int)) none n = ((a : Int), (c : Int), 1) := by
  simp only [sliceBounds, Option.getD_none]
  have h1 : ¬ ((a : Int) < 0) := by omega
  have h2 : ¬ ((c : Int) < 0) := by omega
  simp only [h1, h2, if_false, show (1 : Int) > 0 by decide, if_true]
  congr 1
  · omega
  · congr 1; omega
set_option maxRecDepth 100000 in
/-- list.__setitem__ with a slice of step one and another list -/
theorem setItem_slice {l b sl : Addr} {items new : Array Value} {n n2 : Nat} {vl vu : Value} {a c : Nat} {Q : Unit → Shared → Prop}
    (e : s.heap.get? l = some { cls := .type "list", data := .seq items n }) (e2 : s.heap.get? b = some { cls := .type "list", data := .seq new n2 }) (hne : l ≠ b)
    (hs : s.heap.IsSliceOf sl vl vu .none) (pl : IsPart vl (some (a : Int))) (pu : IsPart vu (some (c : Int))) (hac : a ≤ c) (hc : c ≤ items.size)
    (hsz : items.size + new.size ≤ sizeLine) (h : Q () { s with heap := s.heap.update l (Obj.mapSeq fun xs => xs.extract 0 a ++ new ++ xs.extract c xs.size) }) :
    wpAny (model prog w) A (setItem (.ref l) (.ref sl) (.ref b)) Q E s := by
  have hl : s.heap.IsList l items := PySem.IsL.isList e
  have hb : s.heap.IsList b new := PySem.IsL.isList e2
  obtain ⟨os, hos, hcs, hds⟩ := id hs
  have hTs : s.TypeIs (.ref sl) "slice" := ⟨os, hos, hcs⟩
  have hstep : ¬ ((rawPart none == rawInt 0) = true) := Bool.false_ne_true
  have hsame : Builtin.List.listSameRef (.ref l) (.ref b) = false := by
    unfold Builtin.List.listSameRef
    exact beq_eq_false_iff_ne.mpr hne
  have hmax : (max (a : Int) (c : Int)).toNat = c := by omega
  have hz' : ((fun xs : Array Value => xs.extract 0 a ++ new ++ xs.extract c xs.size) items).size ≤ sizeLine + 1 := by
    simp only [Array.size_append, Array.size_extract]
    omega
  unfold setItem
  try with_reducible refine wpAny_holding ?_
  first | refine wpAny_bind (wpAny_pure ?_) | skip
  refine wpAny_bind (wpAny_sequenceKey hl.typeIs (by decide) ?_)
  refine wpAny_bind (wpAny_callSpecial?_slot (name := Str.ofString "__setitem__") hl.typeIs slot_list_setitem
    (wpAny_call_entry slot_list_setitem hl.typeIs entry_list_setitem ?_ (args_list_setitem _ _ _)))
  show wpAny _ _ (Builtin.List.listSubscript? (.ref sl) >>= _) _ _ s
  refine wpAny_bind ?_
  unfold Builtin.List.listSubscript?
  refine wpAny_bind (wpAny_specialOf hTs slice_no_index ?_)
  simp only [Option.isNone_none, if_true]
  refine wpAny_pure ?_
  show wpAny _ _ (typeOf (.ref sl) >>= _) _ _ s
  refine wpAny_bind (wpAny_typeOf hTs ?_)
  first
    | rw [if_neg (by decide)]
    | refine PySem.W.KFB.if_not (by decide) ?_
  rw [listSliceParts_eq]
  refine wpAny_bind (wpAny_bind (wpAny_field hos hds (x := .none) rfl (wpAny_bind (wpAny_listPart .none ?_))))
  rw [if_neg hstep]
  refine wpAny_bind (wpAny_field hos hds (x := vl) rfl (wpAny_bind (wpAny_listPart pl ?_)))
  refine wpAny_bind (wpAny_field hos hds (x := vu) rfl (wpAny_bind (wpAny_listPart pu (wpAny_pure ?_))))
  first
    | simp only [hsame, Bool.false_eq_true, if_false]
    | refine PySem.W.KFB.if_not hsame ?_
    | (dsimp only
       rw [if_neg (by rw [hsame]; exact Bool.false_ne_true)])
  refine wpAny_bind (m := Builtin.List.listAllItems (.ref b) "must assign iterable to extended slice") ?_
  unfold Builtin.List.listAllItems
  refine wpAny_bind (wpAny_typeOf hb.typeIs ?_)
  first
    | refine PySem.W.KFB.if_so (by decide) ?_
    | rw [if_pos (by decide)]
    | simp only [beq_self_eq_true, Bool.true_or, if_true]
  unfold Builtin.List.listItems
  refine wpAny_bind (wpAny_seqItems e2 rfl (wpAny_pure ?_))
  refine wpAny_bind (wpAny_bind (wpAny_seqItems e rfl (wpAny_pure ?_)))
  refine wpAny_bind (wpAny_of_eq ((sliceIndices_raw (some (a : Int)) (some (c : Int)) none items.size (by simp)).trans (congrArg (pure : Int × Int × Int → Sem (Int × Int × Int)) (bounds_run hac hc))) ?_)
  show wpAny _ _ (if ((1 : Int) == 1) = true then _ else _) _ _ s
  rw [if_pos (by decide)]
  refine wpAny_bind (wpAny_rule ?_)
  first
    | simp only [notLongL hsz, Bool.false_eq_true, if_false]
    | refine PySem.W.KFB.if_not (notLongL hsz) ?_
  first | refine wpAny_bind (wpAny_pure ?_) | skip
  show wpAny _ _ (updateSeq l (fun xs => xs.extract 0 ((a : Int)).toNat ++ new ++ xs.extract (max (a : Int) (c : Int)).toNat xs.size) >>= _) _ _ s
  rw [hmax, Int.toNat_natCast]
  refine wpAny_bind (wpAny_updateSeq (hz := Nat.le_trans (Nat.le_add_right _ _) hsz) (_hz' := hz') e rfl ?_)
  refine wpAny_bind (wpAny_letGo ?_)
  first
    | exact wpAny_bind (wpAny_pure (wpAny_pure ⟨.none, rfl, wpAny_pure h⟩))
    | exact wpAny_pure ⟨.none, rfl, wpAny_pure h⟩
end

section
variable {X : Cx}
/-- xs[a:c] = ys of another list, at the value level: sl is the slice object that was just made -/
theorem set_slice {pins : List (Addr × Obj)} {s : Shared} {σ : St} {H : Hp} {l b sl : Addr} {xs ys : List V} {a c : Int} {vl vu : Value} {Q : Unit → Shared → Prop} (I : Inv X pins σ H s)
    (hH : H l = some (.lst xs)) (hB : H b = some (.lst ys)) (hne : l ≠ b) (hs : s.heap.IsSliceOf sl vl vu .none) (ra : RelV (.int a) vl) (rc : RelV (.int c) vu) (h0 : 0 ≤ a) (hac : a ≤ c) (hc : c ≤ xs.length)
    (hz : xs.length + ys.length ≤ sizeLine) (h : ∀ s', Inv X pins σ (upd H l (.lst (xs.take a.toNat ++ ys ++ xs.drop c.toNat))) s' → Q () s') :
    wpAny (model X.prog X.w) X.A (setItem (.ref l) (.ref sl) (.ref b)) Q X.xe s := by
  obtain ⟨ta, rfl⟩ := ra
  obtain ⟨tc, rfl⟩ := rc
  obtain ⟨z, its, n, r, hl, e⟩ := I.lstM hH
  obtain ⟨z2, its2, n2, r2, hl2, e2⟩ := I.lstM hB
  obtain ⟨a', rfl⟩ := Int.eq_ofNat_of_zero_le h0
  obtain ⟨c', rfl⟩ := Int.eq_ofNat_of_zero_le (Int.le_trans h0 hac)
  simp only [Int.toNat_natCast] at h
  refine setItem_slice (a := a') (c := c') e e2 hne hs (.int _ _) (.int _ _) (by omega) (by rw [List.size_toArray]; omega) (by rw [List.size_toArray, List.size_toArray]; omega) (h _ ?_)
  refine I.lset (its' := its.take a' ++ its2 ++ its.drop c') (t' := s.toks) hH e ?_ (Vals.append (Vals.append (r.take _) r2) (r.drop _)) ?_
  · exact splice_eq its its2 a' c'
  · rw [List.length_append, List.length_append, List.length_take, List.length_drop]
    omega
end
end L2

namespace Att
open PySem PySem.W PySem.Calls PyProof.Rows

/-! ### the script -/
theorem ints_of_wellAll {P : Params} {h : Heap} : ∀ (ns : List Int) (vs : List Value), WellAll P h vs (ns.map WData.int) → IntsAre vs ns := by
  intro ns
  induction ns with
  | nil =>
    intro vs w
    rw [List.map_nil] at w
    cases w
    exact .nil
  | cons n ns ih =>
    intro vs w
    rw [List.map_cons] at w
    cases w with
    | cons a b =>
      cases a
      exact .cons _ _ (ih _ b)

theorem script_of {l : OpenLaw} {n : Nat} (hn : l.most = some n) {P : Params} {h : Heap} {args : List WData} {vals : List Value}
    (hpre : l.row.toRowW.claim.pre args = true) (hwl : WellAll P h vals args) :
    ∃ a vs ns, vals = [Value.ref a] ∧ args = [WData.list (ns.map WData.int)] ∧ h.get? a = some { cls := .type "list", data := .seq vs.toArray } ∧ IntsAre vs ns ∧ ns.length ≤ n := by
  have hsh : WShape.hasAll [] args [.list .int] = true := (pre_splitW hpre).1
  have hc : l.pre.holds [] { args := args } = true := (pre_splitW hpre).2
  obtain ⟨d, r, rfl, h1, h2⟩ := hasAllW_cons hsh
  obtain rfl := hasAllW_nil h2
  obtain ⟨xs, rfl, h3⟩ := hasW_list h1
  obtain ⟨ns, rfl⟩ := items_int h3
  have hlen : ns.length ≤ n := by
    unfold OpenLaw.pre at hc
    have h4 : (WTm.not (.lt (.lit (.int (n : Int))) (.len (.arg 0)))).holds [] { args := [.list (ns.map .int)] } = true := by
      have h4 := (holds_andW hc).1
      rw [hn] at h4
      exact h4
    have h5 := condW_of h4 (w_not (w_lt w_lit (w_len_list (w_arg rfl))))
    rw [List.length_map] at h5
    refine Nat.le_of_not_lt fun q => ?_
    have q' : (n : Int) < ((ns.length : Nat) : Int) := by omega
    first
      | (rw [decide_eq_true q'] at h5; exact absurd h5 (by decide))
      | (simp at h5; omega)
  cases hwl with
  | cons w1 w2 =>
    cases w2
    cases w1 with
    | list ho hall => exact ⟨_, _, ns, rfl, rfl, ho, ints_of_wellAll ns _ hall, hlen⟩

theorem post_true (l : OpenLaw) (args : List WData) : l.row.toRowW.claim.post args (.bool true) args = true :=
  postW_of (r := l.row.toRowW) (X := (true == true))
    (show WShape.has [] (.bool true) .bool = true by first | rfl | decide | simp [WShape.has, WShape.arms, WShape.armsAll])
    (show (WTm.eq .res (.lit (.bool true))).value [] { args := args, res := some (.bool true), after := args } = some (.bool (true == true)) from w_eq_bool (w_res rfl) w_lit) rfl

/-! ### the attachment: holds_open's last premise (the goal 'hc' behind k_head) from a wpAny of the law's body -/
theorem attach {l : OpenLaw} {n : Nat} {q : Program} {loose : List Str} {XP : (Str → Option Value) → Heap → Prop} {YP : World → Heap → Prop} {d : DefRec} {x : Str}
    (hn : l.most = some n) (hdf : d.params.defaults = [])
    (hbind : ∀ pm cd doc v : Value, bindArgs (docDef d.name d.params d.body d.scope pm cd doc) ⟨[v], []⟩ = pure [(x, v)])
    (hx : d.scope.names.lookup x = some .local ∨ d.scope.names.lookup x = some .cell)
    (hk : d.scope.kind = .function) (hco : d.scope.isCoroutine = false) (hgen : d.scope.isGenerator = false)
    (body : ∀ (w : World) (s₀ s₁ s : Shared) (mg mb : Str → Option Value) (fa : Addr) (o : Obj) (pm cd doc : Value) (a : Addr) (vs : List Value) (ns : List Int),
      Ground q loose [] XP w s₀ mg mb s₁.heap → YP w s₁.heap →
      s₁.heap.get? fa = some o → o.data = .func (docDef d.name d.params d.body d.scope pm cd doc) → s₁.heap.CodeRec cd d.name → mg d.name = some (.ref fa) →
      s₁.heap.get? a = some { cls := .type "list", data := .seq vs.toArray } → IntsAre vs ns → ns.length ≤ n →
      s.gens = #[] → s.os = s₁.os →
      Fr s₁.heap s₁.heap.objs.size s.heap (bindL (envOfC d.name d.scope s₁.heap.objs.size fa cd).kindOf [(x, .ref a)] fun _ => none) →
      Cl s₁.heap.objs.size (cellsFrom (s₁.heap.objs.size + 1) d.scope.names []) s.heap (bindC (envOfC d.name d.scope s₁.heap.objs.size fa cd).kindOf [(x, .ref a)] fun _ => none) →
      wpAny (model l.prog w) (callerA.deeper (envOfC d.name d.scope s₁.heap.objs.size fa cd)) (execs d.body (envOfC d.name d.scope s₁.heap.objs.size fa cd))
        (fun f s' => f = .ret (.bool true) ∧ OldK s₁.heap s'.heap ∧ s'.os = s₁.os ∧ AllBare s'.gens) (fun _ _ => False) s) :
    WalkO q loose XP YP l.row.toRowW d [] (fun f vs => PySem.call f vs) := by
  intro w s₀ s₁ mg mb G Y fa o pm cd doc dV kV ho hd hcd hD hmg hg args vals as hpre hlay hrd hwl hlo
  obtain rfl : dV = .none := Dflts.none hD hdf
  obtain rfl : kV = .none := Dflts.noKw hD
  obtain ⟨a, vs, ns, rfl, rfl, hobj, hints, hlen⟩ := script_of hn hpre hwl
  refine enter_call ?_
  refine call_cells_ret (o := o) (by rw [depth_caller]; decide) ho (fd_plain hd) G.T.nolimit hcd (hbind pm cd doc (.ref a)) (fun y hy => ?_) (fun h₁ tk F X => ?_) hco hgen hk
  · obtain rfl : y = (x, Value.ref a) := List.mem_singleton.mp hy
    rcases hx with e | e
    · exact .inl e
    · exact .inr ⟨e, cellsFrom_some _ _ _ (.inl e)⟩
  · refine wpAny_mono (body w s₀ s₁ { s₁ with heap := h₁, toks := tk } mg mb fa o pm cd doc a vs ns G Y ho (fd_plain hd) hcd hmg hobj hints hlen hg rfl F X) (fun f s' hq => ?_) (fun _ _ hq => hq)
    obtain ⟨rfl, h2, h3, h4⟩ := hq
    exact ⟨.inl ⟨.bool true, .bool true, [], rfl, fun _ => rfl, .bool true, post_true l _, fun _ => ⟨List.Pairwise.nil, fun _ hm => (nomatch hm)⟩⟩, h2, h3, h4⟩

/-- the same from a codeAny of the CALL (for a layer whose function contracts speak of calls) -/
theorem attach_call {l : OpenLaw} {n : Nat} {q : Program} {loose : List Str} {XP : (Str → Option Value) → Heap → Prop} {YP : World → Heap → Prop} {d : DefRec}
    (hn : l.most = some n) (hdf : d.params.defaults = [])
    (call : ∀ (w : World) (s₀ s₁ : Shared) (mg mb : Str → Option Value) (fa : Addr) (o : Obj) (pm cd doc : Value) (a : Addr) (vs : List Value) (ns : List Int),
      Ground q loose [] XP w s₀ mg mb s₁.heap → YP w s₁.heap →
      s₁.heap.get? fa = some o → o.data = .func (docDef d.name d.params d.body d.scope pm cd doc) → s₁.heap.CodeRec cd d.name → mg d.name = some (.ref fa) →
      s₁.heap.get? a = some { cls := .type "list", data := .seq vs.toArray } → IntsAre vs ns → ns.length ≤ n → s₁.gens = #[] →
      codeAny (model l.prog w) callerA (.call (.ref fa) ⟨[.ref a], []⟩) (fun r s' => r = .ok (.ret (.bool true)) ∧ OldK s₁.heap s'.heap ∧ s'.os = s₁.os ∧ AllBare s'.gens) s₁) :
    WalkO q loose XP YP l.row.toRowW d [] (fun f vs => PySem.call f vs) := by
  intro w s₀ s₁ mg mb G Y fa o pm cd doc dV kV ho hd hcd hD hmg hg args vals as hpre hlay hrd hwl hlo
  obtain rfl : dV = .none := Dflts.none hD hdf
  obtain rfl : kV = .none := Dflts.noKw hD
  obtain ⟨a, vs, ns, rfl, rfl, hobj, hints, hlen⟩ := script_of hn hpre hwl
  refine enter_call (codeAny_mono (call w s₀ s₁ mg mb fa o pm cd doc a vs ns G Y ho (fd_plain hd) hcd hmg hobj hints hlen hg) fun r s' hq => ?_)
  obtain ⟨rfl, h2, h3, h4⟩ := hq
  exact ⟨.inl ⟨.bool true, .bool true, [], rfl, fun _ => rfl, .bool true, post_true l _, fun _ => ⟨List.Pairwise.nil, fun _ hm => (nomatch hm)⟩⟩, h2, h3, h4⟩

/-- the same where the top left finished generators (o_head chose holds_openN): nothing may have changed at all and no generator may be left -/
theorem attachN {l : OpenLaw} {n : Nat} {q : Program} {loose : List Str} {XP : (Str → Option Value) → Heap → Prop} {YP : World → Heap → Prop} {d : DefRec} {x : Str}
    (hn : l.most = some n) (hdf : d.params.defaults = [])
    (hbind : ∀ pm cd doc v : Value, bindArgs (docDef d.name d.params d.body d.scope pm cd doc) ⟨[v], []⟩ = pure [(x, v)])
    (hx : d.scope.names.lookup x = some .local ∨ d.scope.names.lookup x = some .cell)
    (hk : d.scope.kind = .function) (hco : d.scope.isCoroutine = false) (hgen : d.scope.isGenerator = false)
    (body : ∀ (w : World) (s₀ s₁ s : Shared) (mg mb : Str → Option Value) (fa : Addr) (o : Obj) (pm cd doc : Value) (a : Addr) (vs : List Value) (ns : List Int),
      Ground q loose [] XP w s₀ mg mb s₁.heap → YP w s₁.heap →
      s₁.heap.get? fa = some o → o.data = .func (docDef d.name d.params d.body d.scope pm cd doc) → s₁.heap.CodeRec cd d.name → mg d.name = some (.ref fa) →
      s₁.heap.get? a = some { cls := .type "list", data := .seq vs.toArray } → IntsAre vs ns → ns.length ≤ n →
      s.gens = #[] → s.os = s₁.os →
      Fr s₁.heap s₁.heap.objs.size s.heap (bindL (envOfC d.name d.scope s₁.heap.objs.size fa cd).kindOf [(x, .ref a)] fun _ => none) →
      Cl s₁.heap.objs.size (cellsFrom (s₁.heap.objs.size + 1) d.scope.names []) s.heap (bindC (envOfC d.name d.scope s₁.heap.objs.size fa cd).kindOf [(x, .ref a)] fun _ => none) →
      wpAny (model l.prog w) (callerA.deeper (envOfC d.name d.scope s₁.heap.objs.size fa cd)) (execs d.body (envOfC d.name d.scope s₁.heap.objs.size fa cd))
        (fun f s' => f = .ret (.bool true) ∧ (∀ b o, s₁.heap.get? b = some o → s'.heap.get? b = some o) ∧ s'.os = s₁.os ∧ s'.gens = #[]) (fun _ _ => False) s) :
    WalkN q loose XP YP l.row.toRowW d [] (fun f vs => PySem.call f vs) := by
  intro w s₀ s₁ mg mb G Y fa o pm cd doc dV kV ho hd hcd hD hmg hg args vals as hpre hlay hrd hwl hlo
  obtain rfl : dV = .none := Dflts.none hD hdf
  obtain rfl : kV = .none := Dflts.noKw hD
  obtain ⟨a, vs, ns, rfl, rfl, hobj, hints, hlen⟩ := script_of hn hpre hwl
  refine enter_callW ?_
  refine call_cells_ret (o := o) (by rw [depth_caller]; decide) ho (fd_plain hd) G.T.nolimit hcd (hbind pm cd doc (.ref a)) (fun y hy => ?_) (fun h₁ tk F X => ?_) hco hgen hk
  · obtain rfl : y = (x, Value.ref a) := List.mem_singleton.mp hy
    rcases hx with e | e
    · exact .inl e
    · exact .inr ⟨e, cellsFrom_some _ _ _ (.inl e)⟩
  · refine wpAny_mono (body w s₀ s₁ { s₁ with heap := h₁, toks := tk } mg mb fa o pm cd doc a vs ns G Y ho (fd_plain hd) hcd hmg hobj hints hlen hg rfl F X) (fun f s' hq => ?_) (fun _ _ hq => hq)
    obtain ⟨rfl, h2, h3, h4⟩ := hq
    exact ⟨.inl ⟨.bool true, .bool true, [], rfl, fun _ => rfl, .bool true, post_true l _, fun _ => ⟨List.Pairwise.nil, fun _ hm => (nomatch hm)⟩⟩, h2, h3, h4⟩

/-! ### rules over ANY heap (no ledger) from facts about the written part K: the library's own take a ledger (News) for what they write -/
section
variable {prog : Program} {w : World} {A : Around} {E : Value → Shared → Prop} {s : Shared} {K : Frag}

/-- a def of the module, or a method (qual 'C.m'), entered: the frame is the next address; cells behind it -/
theorem call_fn {R : Result → Shared → Prop} {name qual : Str} {params : Arguments} {body : List Stmt} {scope : Scope} {dV kV doc pm cdv ct oc : Value} {an od : Option Addr} {osl : Array (Option Value)} {f : Addr} {args : Args} {binds : List (Str × Value)}
    (X : K.In s.heap) (hlim : s.heap.NoLimit) (ho : K.lookup f = some ⟨oc, od, .func (fnOf name qual params body scope dV kV doc pm an cdv ct), osl⟩) (hcd : codeIn K cdv qual = true) (hroom : A.depth < recursionLimit)
    (hbind : BindsTo s (fnOf name qual params body scope dV kV doc pm an cdv ct) args binds)
    (hkind : (binds.all fun y => scope.names.lookup y.1 == some .local || scope.names.lookup y.1 == some .cell) = true)
    (h : ∀ s₁, InCallC s s.heap.objs.size (bindL (envOfC qual scope s.heap.objs.size f cdv).kindOf binds fun _ => none) (cellsFrom (s.heap.objs.size + 1) scope.names [])
        (bindC (envOfC qual scope s.heap.objs.size f cdv).kindOf binds fun _ => none) s₁ →
      wpAny (model prog w) (A.deeper (envOfC qual scope s.heap.objs.size f cdv)) (execs body (envOfC qual scope s.heap.objs.size f cdv))
        (fun fl s' => R (.ok (.ret (match fl with | .ret v => v | _ => .none))) s')
        (fun e s' => wpAny (model prog w) (A.deeper (envOfC qual scope s.heap.objs.size f cdv)) (leaving (envOfC qual scope s.heap.objs.size f cdv) e) (fun _ s'' => R (.error e) s'') (fun e' s'' => R (.error e') s'') s') s₁)
    (hco : scope.isCoroutine = false) (hgen : scope.isGenerator = false) (hk : scope.kind = .function) : codeAny (model prog w) A (.call (.ref f) args) R s := by
  refine codeAny_call_function hroom (X _ _ ho) rfl hco hgen rfl (codeRec_of X hcd) (hbind _ _ _ _ ?_)
  refine wpAny_newFunctionEnv_cells hk (kindsX hkind _) fun env he s₁ x => ?_
  subst he
  exact ⟨hlim.keeps x.toInCall.keep, codeAny_func (h s₁ x)⟩

/-- C(..): dict at size, instance at size + 1, then __init__ -/
theorem make_obj {R : Result → Shared → Prop} {C fI : Addr} {rest : List Value} {kw : List (Str × Value)}
    (X : K.In s.heap) (hm : makesIn K C = true) (hi : findIn K (.ref C) "__init__" = some (some (.ref fI))) (hf : isFn K (.ref fI) = true)
    (h : codeAny (model prog w) (A.under (.builtin "type.__call__" ⟨.ref C :: rest, kw⟩)) (.call (.ref fI) ⟨.ref (s.heap.objs.size + 1) :: rest, kw⟩) (InitBack (s.heap.objs.size + 1) R)
      { s with heap := (s.heap.push emptyDict).push (instObj C s.heap.objs.size) }) : codeAny (model prog w) A (.call (.ref C) ⟨rest, kw⟩) R s := by
  obtain ⟨hh, g, d, t, os⟩ := s
  exact make_core (makes_of X hm) (looks_findIn X hi) (fun self => bind_fn X self (beq_iff_eq.mp hf)) (.inl rfl) h

/-- x.name where the instance's dict holds the name and the class does not -/
theorem get_field {x C : Addr} {ox : Obj} {es : List DictEntry} {n : Nat} {name : Str} {expr : Bool} {v : Value} {Q : Value → Shared → Prop}
    (X : K.In s.heap) (I : PySem.W.InstAt s.heap x ox C (some (dictOf es n))) (hg : plainGet K C name = true) (hh : hasDictIn K C = true) (ha : findIn K (.ref C) name = some none)
    (hl : getL name es = some (some v)) (hv : handedIn v = true) (h : Q v { s with toks := s.toks + 1 }) : wpAny (model prog w) A (getAttr (.ref x) name expr) Q E s :=
  get_value X I (plainGet_of hg).1 (findObj_own hh ha rfl hl) hv h

/-- x.m(..): the method found in the class -/
theorem get_method {x C f : Addr} {ox : Obj} {es : List DictEntry} {n : Nat} {name : Str} {pl : Sem Bool} {Q : Value × List Value → Shared → Prop}
    (X : K.In s.heap) (I : PySem.W.InstAt s.heap x ox C (some (dictOf es n))) (hg : plainGet K C name = true) (hf : findIn K (.ref C) name = some (some (.ref f))) (ht : isFn K (.ref f) = true)
    (hl : getL name es = some none) (h : Q (.ref f, [.ref x]) s) : wpAny (model prog w) A (getMethod (.ref x) name pl) Q E s :=
  method_fn X I (plainGet_of hg).1 (plainGet_of hg).2 hf (beq_iff_eq.mp ht) (by show (lookIn name (dictOf es n)).map _ = _; rw [lookIn_dict, hl]; rfl) h

/-! the whole heap as the ledger: makes every rule that writes through a ledger a rule over any heap -/
def noObjs (h : Heap) : Heap := { h with objs := #[] }
theorem noObjs_get (h : Heap) (b : Addr) : (noObjs h).get? b = none := by
  cases e : (noObjs h).get? b with
  | none => rfl
  | some o => exact absurd (Heap.lt_size e) (Nat.not_lt_zero _)
def ledger (h : Heap) (L d : Addr) : List (Addr × Obj) := (List.range h.objs.size).filterMap fun a => if a = L ∨ a = d then none else (h.get? a).map fun o => (a, o)
theorem mem_ledger {h : Heap} {L d a : Addr} {o : Obj} : (a, o) ∈ ledger h L d ↔ a ≠ L ∧ a ≠ d ∧ h.get? a = some o := by
  unfold ledger
  rw [List.mem_filterMap]
  constructor
  · rintro ⟨b, _, e⟩
    split at e
    · cases e
    · rename_i hb
      obtain ⟨o', ho, e'⟩ := Option.map_eq_some_iff.mp e
      cases e'
      exact ⟨fun q => hb (.inl q), fun q => hb (.inr q), ho⟩
  · rintro ⟨n1, n2, ho⟩
    refine ⟨a, List.mem_range.mpr (Heap.lt_size ho), ?_⟩
    rw [if_neg (show ¬ (a = L ∨ a = d) from fun q => q.elim n1 n2), ho] <;> rfl
theorem news_ledger {h : Heap} {L d : Addr} {od : Obj} (hne : d ≠ L) (ho : h.get? d = some od) : News (noObjs h) L h ([] ++ (d, od) :: ledger h L d) := by
  rintro ⟨a, o⟩ hp
  rcases List.mem_cons.mp hp with e | hp
  · cases e
    exact ⟨ho, hne, noObjs_get _ _⟩
  · obtain ⟨n1, n2, e⟩ := mem_ledger.mp hp
    exact ⟨e, n1, noObjs_get _ _⟩
theorem fr_all {h : Heap} {L : Addr} {m : Str → Option Value} (n : h.Ns L m) : Fr (noObjs h) L h m :=
  ⟨n, fun b o e => (by rw [noObjs_get] at e; cases e), Nat.zero_le _⟩
/-- Upd of the head entry (for append_K, setItem_K ..) -/
theorem upd_ledger {h : Heap} {L d : Addr} {o o' : Obj} : Upd d o o' ((d, o) :: ledger h L d) ((d, o') :: ledger h L d) :=
  .head fun ⟨_, _⟩ hp => (mem_ledger.mp hp).2.1

/-- x.name = v over any heap: L is any namespace of the heap (the frame's, say): its map stays, its object is not told; all else but the dict stays -/
theorem set_field {x C dx L : Addr} {ox : Obj} {m : Str → Option Value} {es es' : List DictEntry} {n n' : Nat} {name : Str} {v : Value} {Q : Unit → Shared → Prop}
    (X : K.In s.heap) (I : PySem.W.InstAt s.heap x ox C (some (dictOf es n))) (hd : ox.dict = some dx) (hL : s.heap.Ns L m) (hne : dx ≠ L)
    (hs : findIn K (.ref C) "__setattr__" = some (some (.builtin "object.__setattr__"))) (hp : plainOver K C = true) (ht : takerIn K C name = some none) (hh : hasDictIn K C = true) (hl : (getL name es).isSome = true)
    (e : (putL name (PyData.keyHash w.params name) (.str name (s.toks + 1)) v es, putN name es n) = (es', n')) (hz : es'.length ≤ 1000)
    (h : ∀ h' : Heap, h'.Ns L m → h'.get? dx = some (dictOf es' n') → (∀ b o, b ≠ dx → b ≠ L → s.heap.get? b = some o → h'.get? b = some o) → Q () { s with heap := h', toks := s.toks + 2 }) :
    wpAny (model prog w) A (setAttr (.ref x) name v) Q E s := by
  obtain ⟨e1, e2⟩ := Prod.mk.inj e
  have hdx : s.heap.get? dx = some (dictOf es n) := by
    have := I.dict
    rw [hd] at this
    exact this
  refine set_plain X I hs (osa_dict (s := { s with toks := s.toks + 1 }) (h₀ := noObjs s.heap) (L := L) (m := m) (od := dictOf es n) (od' := dictOf es' n') (es := es') (n := n') (pre := []) (post := ledger s.heap L dx)
    (fr_all hL) (news_ledger hne hdx) X I hd hp ht hh hl (fun _ q => nomatch q) (fun ⟨_, _⟩ q => (mem_ledger.mp q).2.1) (by rw [putName_dict, e1, e2]) rfl hz fun h' F' N' => ?_)
  exact h h' F'.ns (N'.get (List.Mem.head _)) fun b o n1 n2 ho => N'.get (List.Mem.tail _ (mem_ledger.mpr ⟨n2, n1, ho⟩))
end
end Att

namespace L2
open PySem PySem.Spec PyProof.Rows

theorem vals_ints : ∀ {vs : List Value} {ns : List Int}, IntsAre vs ns → Vals (ns.map V.int) vs
  | _, _, .nil => .nil
  | _, _, .cons n t h => .cons ⟨t, rfl⟩ (vals_ints h)

/-- nothing is tracked but the script, known to the object (or it is an object of the module) -/
def Only (H : Hp) : Prop := ∀ b, H b = none ∨ ∃ o xs, H b = some (.frz o (.lst xs))

/-- THE HEAD: the law's promise, at the heap behind the top. F, the promise of the law's def, may use that base is part of the heap (so K.In base, base.Ns mainGlobals mg stand in Mod) -/
theorem law_call {P : Program} {w : World} {K : PySem.W.Frag} {mg mb : Str → Option Value} {CX : CXT} {k : Nat} {fa a : Addr} {fd : FuncData} {x : Str} {sp : Sp} {s₁ : Shared} {vs : List Value} {ns : List Int}
    (KX : K.In s₁.heap) (hns : s₁.heap.Ns mainGlobals mg) (hb : s₁.heap.Ns builtinsNs mb) (hbb : ∀ x : Str, x ≠ "__name__" → mb x = bootBuiltins x) (hlim : s₁.heap.NoLimit) (hg : s₁.gens = #[]) (htk : 0 < s₁.toks)
    (ha : s₁.heap.get? a = some { cls := .type "list", data := .seq vs.toArray }) (hi : IntsAre vs ns) (hl : ns.length ≤ sizeLine) (hr : Room k callerA)
    (F : ∀ base : Heap, K.In base → base.Ns mainGlobals mg → FnOk P w K mg base CX k fa fd [x] sp) (hbind : ∀ (s : Shared) (u : Value), BindsTo s fd ⟨[u], []⟩ [(x, u)])
    (hsp : ∀ H : Hp, Only H → SqL K H a (ns.map V.int) → sp [.ref a] H (fun v _ => v = .bl true) fun _ _ _ => False)
    (hCX : ∀ H e s', CX [] H s₁ (fun _ _ _ => False) e s' → False) :
    codeAny (model P w) callerA (.call (.ref fa) ⟨[.ref a], []⟩) (fun r s' => r = .ok (.ret (.bool true)) ∧ OldK s₁.heap s'.heap ∧ s'.os = s₁.os ∧ AllBare s'.gens) s₁ := by
  have rv := vals_ints hi
  have lenV := hi.length
  -- from an abstract heap in which nothing but the script may be tracked
  have core : ∀ H : Hp, Only H → SqL K H a (ns.map V.int) → HOk P w H s₁.heap → (∀ b, H b ≠ none → b = a) → (H a ≠ none → K.lookup a = none) →
      codeAny (model P w) callerA (.call (.ref fa) ⟨[.ref a], []⟩) (fun r s' => r = .ok (.ret (.bool true)) ∧ OldK s₁.heap s'.heap ∧ s'.os = s₁.os ∧ AllBare s'.gens) s₁ := by
    intro H hO hS hok hA hK
    have base_of : ∀ {b : Addr} {o : Obj}, s₁.heap.get? b = some o → H b = none → (hidT s₁.heap H).get? b = some o := fun e n => hidT_get e n
    have noA : ∀ {b : Addr} {o : Obj} {es : Array DictEntry} {ep : Nat}, s₁.heap.get? b = some o → o.data = .dict es ep → H b = none := fun {b o es ep} e d => by
      cases q : H b with
      | none => rfl
      | some u =>
        have e' : b = a := hA b (by rw [q]; simp)
        subst e'
        rw [ha] at e; cases e
        have d' : Data.seq vs.toArray _ = Data.dict es ep := d
        cases d'
    have nsK : ∀ {b : Addr} {m : Str → Option Value}, s₁.heap.Ns b m → (hidT s₁.heap H).Ns b m := fun {b m} ⟨o, es, ep, e, d, r⟩ => ⟨o, es, ep, base_of e (noA e d), d, r⟩
    have hKb : K.In (hidT s₁.heap H) := fun b o e => base_of (KX b o e) (by
      cases q : H b with
      | none => rfl
      | some u =>
        have e' : b = a := hA b (by rw [q]; simp)
        subst e'
        rw [hK (by rw [q]; simp)] at e; cases e)
    have hM : Mod K mg (hidT s₁.heap H) := ⟨hKb, nsK hns, ⟨mb, nsK hb, hbb⟩, let ⟨mc, h1, h2⟩ := hlim; ⟨mc, nsK h1, h2⟩⟩
    have e0 : Env0 P w K mg (hidT s₁.heap H) callerA [] s₁ H := ⟨rfl, hM, fun b o e => of_hidT e, Nat.le_of_eq (hidT_size _ _), trivial, fun b hb => absurd (show b ∈ ([] : List Addr) from hb) (by simp), hok, .of_eq hg, htk⟩
    refine codeAny_mono ((F _ hKb (nsK hns)).run callerA [] s₁ H ⟨[.ref a], []⟩ [.ref a] [.ref a] _ _ hr e0 (hbind s₁ (.ref a)) (.cons rfl .nil) (hsp H hO hS)) fun r s' h => ?_
    cases r with
    | error e => exact (hCX H e s' h).elim
    | ok fl =>
      cases fl with
      | next => exact False.elim h
      | brk => exact False.elim h
      | cont => exact False.elim h
      | ret u =>
        obtain ⟨v, H', os, bare, un, hok', _, r', q⟩ := h
        have q' : v = .bl true := q
        subst q'
        obtain rfl : u = Value.bool true := r'
        refine ⟨rfl, OldK.of_keep fun b o e => ?_, os, bare⟩
        cases q : H b with
        | none => exact un.keep b o e q (by intro z; exact absurd (show b ∈ ([] : List Addr) from z) (by simp)) (by simp)
        | some u =>
          rcases hO b with z | ⟨ob, xs, z⟩
          · rw [q] at z; cases z
          · have z2 := un.frzs b ob _ z
            obtain ⟨e1, _⟩ := hok b _ z
            obtain ⟨e2, _⟩ := hok' b _ z2
            rw [e] at e1; cases e1
            exact e2
  cases hk : K.lookup a with
  | some o =>
    -- the script is one of the module's own objects
    have e := KX a o hk
    rw [ha] at e
    cases e
    refine core (fun _ => none) (fun _ => .inl rfl) (.inr ⟨_, vs.toArray, _, hk, rfl, rfl, rfl, by rw [List.size_toArray, lenV]; exact hl, by simpa using rv⟩) (fun b u z => by have z' : (none : Option HO) = some u := z; cases z') (fun b z => absurd rfl z) fun z => absurd rfl z
  | none =>
    refine core (fun b => if b = a then some (.frz { cls := .type "list", data := .seq vs.toArray } (.lst (ns.map V.int))) else none) (fun b => ?_) (.inl (.inr ⟨{ cls := .type "list", data := .seq vs.toArray }, if_pos rfl⟩)) (fun b u z => ?_) (fun b z => ?_) fun _ => hk
    · by_cases hb : b = a
      · exact .inr ⟨_, _, if_pos hb⟩
      · exact .inl (if_neg hb)
    · by_cases hb : b = a
      · have z' := (if_pos hb).symm.trans z
        cases z'
        subst hb
        exact ⟨ha, by rw [List.length_map]; exact hl, vs, _, rv, ha⟩
      · have z' := (if_neg hb).symm.trans z
        cases z'
    · by_cases hb : b = a
      · exact hb
      · exact absurd (if_neg hb) z
end L2

namespace L2
open PySem PySem.Spec PyProof.Rows

abbrev KOf {K : PySem.W.Frag} {h : Heap} (_ : K.In h) : PySem.W.Frag := K

end L2



/-! SHORT WORDS over the layer: a def of the text, its body, what a loop and a test want. -/
namespace L2
open PySem PySem.Spec PyProof.Rows

/-! ### the text by places -/
/-- the j-th statement of a class's body -/
def inClass (s : Stmt) (j : Nat) : Stmt := match s with
  | .ClassDef _ _ _ body _ _ _ _ _ _ _ => body.getD j (.Pass ⟨0, 0, 0, 0⟩)
  | _ => .Pass ⟨0, 0, 0, 0⟩
def defArgs (s : Stmt) : Arguments := match s with
  | .FunctionDef _ a _ _ _ _ _ _ _ _ => a
  | _ => { posonlyargs := [], args := [], vararg := none, kwonlyargs := [], kw_defaults := [], kwarg := none, defaults := [] }
def defBody (s : Stmt) : List Stmt := match s with
  | .FunctionDef _ _ b _ _ _ _ _ _ _ => b
  | _ => []
def defScope (s : Stmt) : Scope := match s with
  | .FunctionDef _ _ _ _ _ _ sc _ _ _ => sc
  | _ => { kind := .function, names := [], isGenerator := false, isCoroutine := false }

/-! ### no exception leaves a def -/
abbrev CX0 : CXT := fun _ _ _ _ _ _ => False
abbrev E0 : XK := fun _ _ _ => False
theorem pass0 {X : Cx} : Passes CX0 X E0 := fun _ _ _ _ _ _ _ h => h.elim

/-! ### a def (or method) of the text as it stands behind the top -/
structure Fun (K : PySem.W.Frag) (x qual : Str) (st : Stmt) (f : Addr) (fd : FuncData) : Prop where
  ex : ∃ (oc : Value) (od : Option Addr) (kV doc pm : Value) (an : Option Addr) (cdv ct : Value) (osl : Array (Option Value)),
    fd = PySem.W.fnOf x qual (defArgs st) (defBody st) (defScope st) .none kV doc pm an cdv ct ∧ K.lookup f = some ⟨oc, od, .func fd, osl⟩ ∧ PySem.W.codeIn K cdv qual = true
  kp : PySem.W.keepIn K (.ref f) = true
section
variable {P : Program} {w : World} {K : PySem.W.Frag} {mg : Str → Option Value} {base : Heap}
/-- THE RULE for a def: its body as a term of rules, and the reading of that term -/
theorem Fun.ok {x qual : Str} {st : Stmt} {f : Addr} {fd : FuncData} {N ps : List Str} {k : Nat} {sp : Sp} (F : Fun K x qual st f fd) (S : FnScope N ps (defScope st)) (len : ∀ vs H Q E, sp vs H Q E → vs.length = ps.length)
    (hbody : ∀ (cdv : Value) (A : Around) (outer : List Env) (s : Shared) (H : Hp) (vs : List V) (Q : VK) (E : XK), Room k (A.deeper (envOfC qual (defScope st) s.heap.objs.size f cdv)) → sp vs H Q E →
      ∃ t, PSs (cxOf CX0 P w K mg base N qual (defScope st) f cdv A outer s H E).nox (defBody st) t ∧ t { nx := fun _ H' => Q .non H', rt := Q } (start N vs) H) : FnOk P w K mg base CX0 (k + 1) f fd ps sp := by
  obtain ⟨oc, od, kV, doc, pm, an, cdv, ct, osl, rfl, lk, hcd⟩ := F.ex
  refine fn_of lk hcd S len fun A outer s H vs Q E hr hsp => ?_
  obtain ⟨t, h, q⟩ := hbody cdv A outer s H vs Q E hr hsp
  exact ⟨t, h.nox, q⟩
/-- how its arguments bind (no defaults): h is «fun _ _ _ _ _ _ us hl => match us, hl with | [_, _], _ => rfl», one _ a parameter -/
theorem Fun.binds {x qual : Str} {st : Stmt} {f : Addr} {fd : FuncData} {ps : List Str} (F : Fun K x qual st f fd)
    (h : ∀ (kV doc pm : Value) (an : Option Addr) (cdv ct : Value) (us : List Value), us.length = ps.length → bindArgs (PySem.W.fnOf x qual (defArgs st) (defBody st) (defScope st) .none kV doc pm an cdv ct) ⟨us, []⟩ = pure (ps.zip us)) : Binds K fd ps [] := by
  obtain ⟨oc, od, kV, doc, pm, an, cdv, ct, osl, rfl, lk, hcd⟩ := F.ex
  exact .all (h kV doc pm an cdv ct)
theorem fun_mk {x qual : Str} {st : Stmt} {f : Addr} {oc : Value} {od an : Option Addr} {osl : Array (Option Value)} {kV doc pm cdv ct : Value} (l : K.lookup f = some ⟨oc, od, .func (PySem.W.fnOf x qual (defArgs st) (defBody st) (defScope st) .none kV doc pm an cdv ct), osl⟩)
    (c : PySem.W.codeIn K cdv qual = true) (k : PySem.W.keepIn K (.ref f) = true) : Fun K x qual st f (PySem.W.fnOf x qual (defArgs st) (defBody st) (defScope st) .none kV doc pm an cdv ct) := ⟨⟨oc, od, kV, doc, pm, an, cdv, ct, osl, rfl, l, c⟩, k⟩
end
theorem hu_of {A : Around} {k : Nat} (hr : Room k A) : A.units + 1 < cLine := Nat.lt_of_le_of_lt (Nat.add_le_add_left (by decide : 1 ≤ 64) _) hr.units
theorem small1000 {n : Nat} (h : n ≤ 1000) : n < sizeLine := Nat.lt_of_le_of_lt h (by decide)

/-! ### expressions in short: the name that stands in the i-th slot -/
section
variable {X : Cx}
theorem pv (i : Nat) {x : Str} {pos : Pos} (hN : X.N[i]? = some x := by rfl) (hv : Vis X.env.scope x := by first | exact Or.inl rfl | exact Or.inr (Or.inl rfl) | exact Or.inr (Or.inr rfl)) (hd : (x == ("__debug__" : Str)) = false := by decide)
    (hcd : (x == ("__classdict__" : Str)) = false := by decide) : PE X (.Name x pos) (tVar i) := pe_var hN hv hd hcd
end

/-! ### tests -/
theorem iteF {A B : Prop} (h : B) : if false = true then A else B := by
  rw [if_neg Bool.false_ne_true]
  exact h
theorem iteT {A B : Prop} (h : A) : if true = true then A else B := by
  rw [if_pos rfl]
  exact h
theorem ite2 {c A B : Prop} [Decidable c] (h1 : c → A) (h2 : ¬ c → B) : if c then A else B := by
  by_cases h : c
  · rw [if_pos h]
    exact h1 h
  · rw [if_neg h]
    exact h2 h
theorem iteNS {c A B : Prop} [Decidable c] (hc : c) (h : B) : if (!decide c) = true then A else B := by
  rw [decide_eq_true hc]
  exact iteF h

/-! ### heaps -/
/-- all that was tracked is as it was -/
def Same (H H' : Hp) : Prop := ∀ b o, H b = some o → H' b = some o
theorem Same.refl (H : Hp) : Same H H := fun _ _ h => h
theorem Same.trans {H H1 H2 : Hp} (a : Same H H1) (b : Same H1 H2) : Same H H2 := fun c o h => b c o (a c o h)
theorem Same.free {H H' : Hp} (e : Same H H') {l : Addr} (h : H' l = Option.none) : H l = Option.none := by
  cases q : H l with
  | none => rfl
  | some o =>
    rw [e l o q] at h
    cases h
theorem Same.seq {K : PySem.W.Frag} {H H' : Hp} {a : Addr} {xs : List V} (e : Same H H') (h : SqL K H a xs) : SqL K H' a xs := by
  rcases h with (h | ⟨o, h⟩) | h
  · exact .inl (.inl (e _ _ h))
  · exact .inl (.inr ⟨o, e _ _ h⟩)
  · exact .inr h

end L2

set_option Elab.async false
set_option linter.all false
set_option maxRecDepth 100000
/-! A list comprehension of one clause, no exception leaving it. -/
namespace L2
open PySem PySem.Spec PyProof.Rows

def CellsIn (env : Env) : List (Str × Addr) → Prop
  | [] => True
  | p :: r => env.cells.lookup p.1 = some p.2 ∧ CellsIn env r
theorem CellsIn.look {env : Env} : ∀ {cl : List (Str × Addr)}, CellsIn env cl → ∀ x c, cl.lookup x = some c → env.cells.lookup x = some c
  | [], _, x, c, e => by simp at e
  | p :: r, h, x, c, e => by
    obtain ⟨n, a⟩ := p
    rw [List.lookup_cons] at e
    cases q : x == n with
    | true =>
      rw [q] at e
      have q' : x = n := eq_of_beq q
      subst q'
      cases e
      exact h.1
    | false =>
      rw [q] at e
      exact h.2.look x c e

/-- the comprehension's own context -/
abbrev compX (X : Cx) (scope : Scope) (cl : List (Str × Addr)) (C : Addr) (N' : List Str) (fp : List Addr) (s : Shared) (H : Hp) : Cx :=
  { X with N := N', s₀ := s, H₀ := H, env := compEnvC scope cl C X.env, outer := X.stack, ex := fp, fn := fun _ => false, pn := [], xe := fun _ _ => False }
/-- its slots: own names, none yet; then those of the outer frame that it reads -/
def nfS (k : Nat) (fr : List Nat) (σ : St) : St := List.replicate k none ++ fr.map fun j => (σ[j]?).join
/-- what is asked of the block's names: own: its targets; fr: the outer slots of the names that it reads -/
structure CompN (X : Cx) (scope : Scope) (cl : List (Str × Addr)) (own : List Str) (fr : List Nat) (N' : List Str) : Prop where
  kind : scope.kind = .function
  cells : CellsIn X.env cl
  has : ∀ x, ((relabel scope X.env).names.lookup x = some .cell ∨ (relabel scope X.env).names.lookup x = some .free) → ∃ c, cl.lookup x = some c
  nd : N'.Nodup
  len : N'.length = own.length + fr.length
  free : ∀ (i : Nat) (j : Nat), fr[i]? = some j → ∃ x, X.N[j]? = some x ∧ N'[own.length + i]? = some x ∧ (X.env.kindOf x = some .cell ∨ X.env.kindOf x = some .free) ∧
    ((relabel scope X.env).names.lookup x = some .cell ∨ (relabel scope X.env).names.lookup x = some .free)

section
variable {X : Cx} {pins : List (Addr × Obj)} {σ : St} {H : Hp} {s s4 : Shared} {scope : Scope} {cl : List (Str × Addr)} {own : List Str} {fr : List Nat} {N' : List Str} {fp : List Addr} {C : Addr} {H4 : Hp}
theorem comp_ok (I : Inv X pins σ H s) (Z : CompN X scope cl own fr N') (hC : s.heap.objs.size ≤ C) (hf : ∀ b ∈ fp, FpOk X pins H b) (ho : ∀ b ∈ fp, ∃ o, s.heap.get? b = some o ∧ ∀ v, o.data ≠ .cell v) : (compX X scope cl C N' fp s H).Ok where
  mod := I.ok.mod
  kind := Z.kind
  glob := I.ok.glob
  blt := I.ok.blt
  above := hC
  inj := fun x y c h1 h2 => I.ok.inj x y c (Z.cells.look x c h1) (Z.cells.look y c h2)
  has := fun x h => Z.has x h
  cab := fun x c h _ => Bool.noConfusion h
  hd := I.ok.hd
  frames := I.ok.frames
  stk := .inl rfl
  exf := fun b hb => by
    obtain ⟨o, e, _⟩ := ho b hb
    refine ⟨Nat.ne_of_lt (Nat.lt_of_lt_of_le (Heap.lt_size e) hC), fun x c h => ?_⟩
    exact (hf b hb).2.2.2.2.1 x c (Z.cells.look x c h)
  bs := I.bs
  bsz := Nat.le_trans I.ok.bsz I.sz
  noex := fun b o e hb => by
    rcases (hf b hb).2.2.2.1 with z | z
    · exact I.ok.noex b o e z
    · exact absurd (Nat.lt_of_lt_of_le (Heap.lt_size e) (Nat.le_trans I.ok.bsz z)) (Nat.lt_irrefl _)
  exfs := fun b hb z => by
    rcases List.mem_cons.mp (I.stkSub b z) with e | e
    · exact (hf b hb).2.1 e
    · exact (hf b hb).2.2.1 e
  funs := I.stack
  frf := I.stkFree

theorem comp_inv (I : Inv X pins σ H s) (Z : CompN X scope cl own fr N') (hC : s.heap.objs.size ≤ C) (hf : ∀ b ∈ fp, FpOk X pins H b) (ho : ∀ b ∈ fp, ∃ o, s.heap.get? b = some o ∧ ∀ v, o.data ≠ .cell v)
    (os : s4.os = s.os) (bare : AllBare s4.gens) (un : Un (frs X.stack) fp H H4 s.heap s4.heap) (ns : ∃ m, s4.heap.Ns C m) (kc : ∀ x c v, X.env.cells.lookup x = some c → s.heap.IsCell c v → s4.heap.IsCell c v)
    (fr4 : H4 C = none) (hok : HOk X.prog X.w H4 s4.heap) (tk : 0 < s4.toks) : Inv (compX X scope cl C N' fp s H) [] (nfS own.length fr σ) H4 s4 where
  ok := comp_ok I Z hC hf ho
  os := os
  bare := bare
  base := un
  loc := by
    obtain ⟨m, hm⟩ := ns
    refine ⟨m, hm, fun i x v h1 h2 h3 => ?_⟩
    unfold nfS at h2
    by_cases hi : i < own.length
    · rw [List.getElem?_append_left (by simpa using hi), List.getElem?_replicate, if_pos hi] at h2
      cases h2
    · rw [List.getElem?_append_right (by simpa using hi), List.length_replicate, List.getElem?_map] at h2
      cases q : fr[i - own.length]? with
      | none => rw [q] at h2; cases h2
      | some j =>
        rw [q] at h2
        have h2' : (σ[j]?).join = some v := Option.some.inj h2
        obtain ⟨y, e1, e2, e3, e4⟩ := Z.free _ j q
        have ei : own.length + (i - own.length) = i := by omega
        rw [ei] at e2
        have h1' : N'[i]? = some x := h1
        rw [e2] at h1'
        cases h1'
        have hs : σ[j]? = some (some v) := by
          cases r : σ[j]? with
          | none => rw [r] at h2'; cases h2'
          | some w => rw [r] at h2'; cases w with
            | none => cases h2'
            | some w => cases h2'; rfl
        obtain ⟨m0, _, hl⟩ := I.loc
        have vis : Vis X.env.scope x := e3.elim (fun z => .inr (.inl z)) fun z => .inr (.inr z)
        obtain ⟨u, ru, lk⟩ := hl j x v e1 hs vis
        refine ⟨u, ru, ?_⟩
        rcases lk with ⟨k, _⟩ | ⟨_, c, ec, hc⟩
        · rcases e3 with z | z <;> (rw [k] at z; cases z)
        · obtain ⟨c', ec'⟩ := Z.has x e4
          have := Z.cells.look x c' ec'
          rw [ec] at this
          cases this
          exact .inr ⟨e4, c, ec', kc x c _ ec hc⟩
  cell := fun x c e => by
    have e' := Z.cells.look x c e
    obtain ⟨v, hv⟩ := I.cell x c e'
    exact ⟨v, kc x c v e' hv⟩
  free := fr4
  freeC := fun x c e => by
    have e' := Z.cells.look x c e
    obtain ⟨v, o, hv, _⟩ := I.cell x c e'
    refine un.free c o hv (I.freeC x c e') fun hb => ?_
    exact (hf c hb).2.2.2.2.1 x c e' rfl
  pin := fun p hp => absurd (show p ∈ ([] : List (Addr × Obj)) from hp) (by simp)
  hok := hok
  len := by
    show (nfS own.length fr σ).length = N'.length
    unfold nfS
    rw [List.length_append, List.length_replicate, List.length_map, Z.len]
  tk := tk

/-- behind the block: the outer invariant again -/
theorem comp_out {σ' : St} (I : Inv X pins σ H s) (hf : ∀ b ∈ fp, FpOk X pins H b) {pins' : List (Addr × Obj)} (J : Inv (compX X scope cl C N' fp s H) pins' σ' H4 s4) : Inv X pins σ H4 s4 :=
  I.call' J.os J.base J.hok J.bare (fun b hb => ⟨(hf b hb).2.2.2.1, (hf b hb).2.1, (hf b hb).2.2.2.2.1, (hf b hb).2.2.2.2.2⟩) J.tk
theorem comp_gone {C : Addr} {h' : Heap} (I0 : Inv X pins σ H s) (hC : s.heap.objs.size ≤ C) {σ' : St} (I : Inv X pins σ' H4 s4) (fr4 : H4 C = none) (hs : Heap.SameBut C s4.heap h') : Inv X pins σ' H4 { s4 with heap := h' } := by
  refine I.turned (t' := s4.toks) (it := C) (fun b o hb e => (hs.2 b hb).trans e) fr4 ?_ (.inr (Nat.le_trans I0.sz hC)) ?_ ?_
  · exact Nat.ne_of_gt (Nat.lt_of_lt_of_le I0.lt hC)
  · intro x c e z
    obtain ⟨v, q⟩ := I0.cell x c e
    exact absurd (Nat.lt_of_lt_of_le q.lt (by rw [z]; exact hC)) (Nat.lt_irrefl _)
  · intro p hp z
    exact absurd (Nat.lt_of_lt_of_le (Heap.lt_size (I0.pin p hp).1) (by rw [z]; exact hC)) (Nat.lt_irrefl _)
end

/-! ### the loop of the block -/
/-- the tests of the clause -/
def PTs (X : Cx) (ifs : List Expr) (t : TT) : Prop :=
  ∀ (pins : List (Addr × Obj)) (s : Shared) (σ : St) (H : Hp) (Q : Bool → Hp → Prop), Inv X pins σ H s → t σ H Q →
    wpAny (model X.prog X.w) X.A (forIn ifs true fun c r => if r = true then do let ok ← isTrue c X.env (eval c X.env); pure (ForInStep.yield ok) else pure (ForInStep.yield r)) (TP X pins σ Q) X.xe s
def tYes : TT := fun _ H Q => Q true H
theorem pts_nil {X : Cx} : PTs X [] tYes := fun _ _ _ H _ I h => wpAny_tests_nil ⟨H, I, h⟩
theorem pts_one {X : Cx} {c : Expr} {t : TT} (h : PT X c t) : PTs X [c] t := fun pins s σ H Q I q => wpAny_tests_one (h pins s σ H Q I q)

section
variable {prog : Program} {w : World} {A : Around} {R : Result → Shared → Prop} {s : Shared}
theorem compLoop_any {elt target iter : Expr} {ifs : List Expr} {scope : Scope} {pos : Pos} {it acc : Value} {env : Env} (I : Nat → Shared → Prop)
    (turn : ∀ n s, I n s → wpAny (model prog w) A (pyNext it) (fun r s₁ => match r with
      | none => R (.ok .next) s₁
      | some v => wpAny (model prog w) A (letOwnedTupleGo target it v) (fun _ s₂ => wpAny (model prog w) A (assign target env v) (fun _ s₂ =>
          wpAny (model prog w) A (forIn ifs true fun c r => if r = true then do let ok ← isTrue c env (eval c env); pure (ForInStep.yield ok) else pure (ForInStep.yield r)) (fun ok s₃ =>
            if ok = true then wpAny (model prog w) A (eval elt env) (fun x s₄ =>
              wpAny (model prog w) A (call (.builtin "list.append") [acc, x]) (fun _ s₅ => ∃ m, m < n ∧ I m s₅) (fun _ _ => False) s₄) (fun _ _ => False) s₃
            else ∃ m, m < n ∧ I m s₃) (fun _ _ => False) s₂) (fun _ _ => False) s₂) (fun _ _ => False) s₁) (fun _ _ => False) s)
    (n : Nat) (h : I n s) :
    codeAny (model prog w) A (.compLoop (.ListComp elt [⟨target, iter, ifs, 0⟩] scope pos) 0 it acc env) R s := by
  have no : ∀ {E : Value → Shared → Prop} (e : Value) (s' : Shared), (fun _ _ => False : Value → Shared → Prop) e s' → E e s' := fun _ _ z => False.elim z
  refine codeAny_loop rfl I (fun n s hI => ?_) n h
  show wpAny _ A ((compTurn (.ListComp elt [⟨target, iter, ifs, 0⟩] scope pos) 0 it acc env).onRaise (fun x => do noteFrame x env; theTreesLotGoes x)) _ _ s
  refine wpAny_noted ?_
  rw [compTurn_list]
  refine wpAny_bind (wpAny_standAt (wpAny_bind (wpAny_mono (turn n s hI) (fun r s₁ h₁ => ?_) no)))
  cases r with
  | none => exact wpAny_pure h₁
  | some v =>
    refine wpAny_bind (wpAny_mono h₁ (fun _ s₂ h₂ => ?_) no)
    refine wpAny_bind (wpAny_mono h₂ (fun _ s₂ h₂ => wpAny_bind (wpAny_mono h₂ (fun ok s₃ h₃ => ?_) no)) no)
    cases ok with
    | false => exact wpAny_pure ⟨rfl, h₃⟩
    | true =>
      exact wpAny_bind (wpAny_bind (wpAny_mono h₃ (fun x s₄ h₄ => wpAny_bind (wpAny_mono h₄ (fun _ s₅ h₅ => wpAny_pure (wpAny_pure ⟨rfl, h₅⟩)) no)) no))
end

/-- the frame's slots behind a turn still hold what the block reads -/
def nfLe (k : Nat) (fr : List Nat) (σ σ2 : St) : Prop := σ2.length = (nfS k fr σ).length ∧ ∀ (i : Nat) (v : V), (nfS k fr σ)[i]? = some (some v) → σ2[i]? = some (some v)
theorem nfLe.refl (k : Nat) (fr : List Nat) (σ : St) : nfLe k fr σ (nfS k fr σ) := ⟨rfl, fun _ _ h => h⟩
theorem nfLe.set {k : Nat} {fr : List Nat} {σ σ2 : St} {i : Nat} (h : nfLe k fr σ σ2) (hi : i < k) (x : Option V) : nfLe k fr σ (σ2.set i x) := by
  refine ⟨by rw [List.length_set]; exact h.1, fun j v e => ?_⟩
  by_cases hj : i = j
  · subst hj
    unfold nfS at e
    rw [List.getElem?_append_left (by simpa using hi), List.getElem?_replicate, if_pos hi] at e
    cases e
  · rw [List.getElem?_set_ne hj]
    exact h.2 j v e
/-- the reading of [elt for target in iter if ..] -/
def rLC (k : Nat) (fr : List Nat) (g : TG) (tt : TT) (te : TE) (σ : St) (J : It) (H1 : Hp) (Q : Addr → Hp → Prop) : Prop :=
  ∀ D, H1 D = none → ∃ W : Nat → Nat → List V → Hp → Prop, (∃ m, W 0 m [] (upd H1 D (.lst []))) ∧ ∀ i m acc H, W i m acc H → H D = some (.lst acc) ∧
    ((J.stop i H ∧ Q D H) ∨ (J.go i H ∧ ∀ x H', J.yld i H x H' → g x (nfS k fr σ) H' fun σ2 H2 => nfLe k fr σ σ2 ∧ tt σ2 H2 fun b H3 =>
      if b = true then te σ2 H3 fun y H4 => H4 D = some (.lst acc) ∧ acc.length < sizeLine ∧ ∃ m', m' < m ∧ W (i + 1) m' (acc ++ [y]) (upd H4 D (.lst (acc ++ [y])))
      else ∃ m', m' < m ∧ W (i + 1) m' acc H3))
def tLC (wi : TI) (k : Nat) (fr : List Nat) (g : TG) (tt : TT) (te : TE) : TE := fun σ H Q => wi σ H fun J H1 => rLC k fr g tt te σ J H1 fun D H' => Q (.ref D) H'

section
variable {X : Cx} {scope : Scope} {cl : List (Str × Addr)} {own : List Str} {fr : List Nat} {N' : List Str} {tg iter elt : Expr} {ifs : List Expr} {wi : TI} {g : TG} {tt : TT} {te : TE} {pos : Pos}

/-- the block from its iterator on: RR is what is wanted behind it -/
theorem comp_block {pins : List (Addr × Obj)} {σ : St} {H : Hp} {s : Shared} {it : Addr} {fp : List Addr} {tn : Nat → Heap → Prop} {J : It} {Q : Addr → Hp → Prop} {RR : Value → Addr → Result → Shared → Prop} {E : Value → Shared → Prop}
    (hc : X.calm = true) (Z : CompN X scope cl own fr N') (hcell : ∀ y ∈ scope.names, y.2 ≠ .cell)
    (hg : ∀ C fp s H, PG (compX X scope cl C N' fp s H) tg g) (ht : ∀ C fp s H, PTs (compX X scope cl C N' fp s H) ifs tt) (he : ∀ C fp s H, PE (compX X scope cl C N' fp s H) elt te)
    (I : Inv X pins σ H s) (T : Turn X.prog X.w X.K tg J fp it tn) (st : tn 0 s.heap) (hf : ∀ b ∈ fp, FpOk X pins H b) (q : rLC own.length fr g tt te σ J H Q)
    (hRR : ∀ D C s' H' , s.heap.objs.size ≤ C → (∃ m, s'.heap.Ns C m) → H' C = none → Inv X pins σ H' s' → Q D H' → RR (.ref D) C (.ok .next) s') :
    wpAny (model X.prog X.w) X.A (newList []) (fun acc s₃ => wpAny (model X.prog X.w) X.A (newFunctionEnv scope X.env.globals cl [] X.env.qual none .none (some X.env)) (fun cenv s₄ =>
      codeAny (model X.prog X.w) X.A (.compStart (.ListComp elt [⟨tg, iter, ifs, 0⟩] scope pos) 0 (.ref it) acc { cenv with scope := relabel scope X.env }) (RR acc cenv.locals) s₄) E s₃) E s := by
  refine wpAny_newObj_type (wpAny_newFunctionEnv hcell (by intro y hy; simp at hy) (fun h₁ hns₁ hsb₁ => ?_) Z.kind)
  dsimp only at hns₁ hsb₁ ⊢
  generalize hH2 : s.heap.push { cls := .type "list", dict := none, data := .seq ([] : List Value).toArray } = H2 at hns₁ hsb₁ ⊢
  have hC : H2.objs.size = s.heap.objs.size + 1 := by rw [← hH2, Heap.size_push]
  have hCle : s.heap.objs.size ≤ H2.objs.size := by rw [hC]; exact Nat.le_succ _
  have hDC : s.heap.objs.size ≠ H2.objs.size := by rw [hC]; exact Nat.ne_of_lt (Nat.lt_succ_self _)
  have old : ∀ b o, s.heap.get? b = some o → h₁.get? b = some o := fun b o e =>
    hsb₁.extBut b o (Nat.ne_of_lt (Nat.lt_of_lt_of_le (Heap.lt_size e) hCle)) (Heap.get?_push_of_some _ (hH2 ▸ Heap.get?_push_of_some _ e))
  have hD : h₁.get? s.heap.objs.size = some { cls := .type "list", dict := none, data := .seq ([] : List Value).toArray } :=
    hsb₁.extBut _ _ hDC (Heap.get?_push_of_some _ (hH2 ▸ Heap.get?_push_size _ rfl))
  have ho := T.obj _ _ st
  have frD : H s.heap.objs.size = none := I.hok.fresh (Nat.le_refl _)
  have frC : H H2.objs.size = none := I.hok.fresh hCle
  obtain ⟨W, ⟨m0, w0⟩, turn⟩ := q s.heap.objs.size frD
  have hok1 : HOk X.prog X.w (upd H s.heap.objs.size (.lst [])) h₁ := I.hok.laid old (Nat.le_refl _) ⟨Nat.zero_le _, [], 0, .nil, hD⟩
  have un1 : Un (frs X.stack) fp H (upd H s.heap.objs.size (.lst [])) s.heap h₁ := Un.laid old (Nat.le_refl _) frD
  have C1 : upd H s.heap.objs.size (.lst []) H2.objs.size = none := by rw [upd_ne (Ne.symm hDC)]; exact frC
  have fpD : ∀ b ∈ fp, b ≠ s.heap.objs.size := fun b hb z => by
    obtain ⟨o, e, _⟩ := ho b hb
    exact absurd (Heap.lt_size e) (by rw [z]; exact Nat.lt_irrefl _)
  have J0 : ∀ t, 0 < t → Inv (compX X scope cl H2.objs.size N' fp s H) [] (nfS own.length fr σ) (upd H s.heap.objs.size (.lst [])) { s with heap := h₁, toks := t } := fun t ht =>
    comp_inv I Z hCle hf ho rfl I.bare un1 ⟨_, hns₁⟩ (fun x c v e ⟨o, e1, e2⟩ => ⟨o, old c o e1, e2⟩) C1 hok1 ht
  have st1 : tn 0 h₁ := T.keep _ _ _ st fun b _ o e => old b o e
  have loop : ∀ s₃ : Shared, s₃ = { s with heap := h₁, toks := s.toks + ([] : List (Str × Value)).length } →
      codeAny (model X.prog X.w) X.A (.compLoop (.ListComp elt [⟨tg, iter, ifs, 0⟩] scope pos) 0 (.ref it) (.ref s.heap.objs.size) (compEnvC scope cl H2.objs.size X.env)) (RR (.ref s.heap.objs.size) H2.objs.size) s₃ := by
    rintro s₃ rfl
    generalize hX : compX X scope cl H2.objs.size N' fp s H = X' at J0
    have hg' : PG X' tg g := by rw [← hX]; exact hg _ _ _ _
    have ht' : PTs X' ifs tt := by rw [← hX]; exact ht _ _ _ _
    have he' : PE X' elt te := by rw [← hX]; exact he _ _ _ _
    have eP : X'.prog = X.prog := by rw [← hX]
    have eW : X'.w = X.w := by rw [← hX]
    have eK : X'.K = X.K := by rw [← hX]
    have eA : X'.A = X.A := by rw [← hX]
    have eE : X'.env = compEnvC scope cl H2.objs.size X.env := by rw [← hX]
    have eX : X'.xe = fun _ _ => False := by rw [← hX]
    have eC : X'.calm = true := by rw [← hX]; exact hc
    have fpX : ∀ {H' : Hp}, (∀ b ∈ fp, H' b = none) → ∀ b ∈ fp, FpOk X' [] H' b := fun hn b hb => by
      rw [← hX]
      have ok := comp_ok I Z hCle hf ho
      refine ⟨hn b hb, (ok.exf b hb).1, ok.exfs b hb, .inl hb, (ok.exf b hb).2, fun p hp => absurd (show p ∈ ([] : List (Addr × Obj)) from hp) (by simp)⟩
    refine compLoop_any (fun n s' => ∃ i acc H', Inv X' [] (nfS own.length fr σ) H' s' ∧ tn i s'.heap ∧ (∀ b ∈ fp, H' b = none) ∧ W i n acc H') ?_ m0 ⟨0, [], _, J0 _ (by have := I.tk; omega), st1, fun b hb => by rw [upd_ne (fpD b hb)]; exact (hf b hb).1, w0⟩
    rintro n s3 ⟨i, acc, H3, I3, st3, fr3, w3⟩
    obtain ⟨hDa, turn3⟩ := turn i n acc H3 w3
    rcases turn3 with ⟨stop, qn⟩ | ⟨go, step⟩
    · have := T.done X' eP eW eK eC i [] s3 _ H3 (fun _ _ => False) I3 (fpX fr3) st3 stop
      rw [eA] at this
      refine thn this fun r s4 ⟨hr, I4⟩ => ?_
      subst hr
      show RR _ _ _ _
      have I4' : Inv (compX X scope cl H2.objs.size N' fp s H) [] (nfS own.length fr σ) H3 s4 := by rw [hX]; exact I4
      obtain ⟨m, hm, _⟩ := I4'.loc
      exact hRR _ _ s4 H3 hCle ⟨m, hm⟩ I4'.free (comp_out I hf I4') qn
    · have := T.item X' eP eW eK eC i [] s3 _ H3 (fun _ _ => False) I3 (fpX fr3) st3 go
      rw [eA] at this
      refine thn this fun r s4 ⟨u, hr, h4⟩ => ?_
      subst hr
      show wpAny _ _ (letOwnedTupleGo tg (.ref it) u) _ _ s4
      refine thn h4 fun _ s5 ⟨x, H5, I5, r5, y5, st5, fr5⟩ => ?_
      have I5' := I5.pinned (fpX fr5) (T.obj _ _ st5)
      have back : ∀ {σ7 : St} {H7 : Hp} {s7 : Shared}, Inv X' ([] ++ pinsAt fp s5.heap) σ7 H7 s7 → tn (i + 1) s7.heap ∧ ∀ b ∈ fp, H7 b = none := fun {σ7 H7 s7} I7 => by
        refine ⟨T.keep _ _ _ st5 fun b hb o e => (I7.pin (b, o) (List.mem_append_right _ (List.mem_append_right _ (mem_pinsAt hb e)))).1, fun b hb => ?_⟩
        obtain ⟨o, e, d⟩ := T.obj _ _ st5 b hb
        exact (I7.pin (b, o) (List.mem_append_right _ (List.mem_append_right _ (mem_pinsAt hb e)))).2.1
      have g5 := hg' _ s5 _ H5 x u _ I5' r5 (step x H5 y5)
      rw [eP, eW, eA, eE, eX] at g5
      refine thn g5 fun _ s6 ⟨σ6, H6, I6, nf6, q6⟩ => ?_
      have t6 := ht' _ s6 σ6 H6 _ I6 q6
      rw [eP, eW, eA, eE, eX] at t6
      refine thn t6 fun ok s7 ⟨H7, I7, q7⟩ => ?_
      have again : ∀ {H8 : Hp} {s8 : Shared} {acc8 : List V}, Inv X' ([] ++ pinsAt fp s5.heap) σ6 H8 s8 → (∃ m', m' < n ∧ W (i + 1) m' acc8 H8) →
          ∃ m, m < n ∧ ∃ i acc H', Inv X' [] (nfS own.length fr σ) H' s8 ∧ tn i s8.heap ∧ (∀ b ∈ fp, H' b = none) ∧ W i m acc H' := fun {H8 s8 acc8} I8 ⟨m', hm, w8⟩ =>
        ⟨m', hm, i + 1, acc8, H8, I8.unpinned.weak nf6.1.symm nf6.2, (back I8).1, (back I8).2, w8⟩
      cases ok with
      | false =>
        have q7' : ∃ m', m' < n ∧ W (i + 1) m' acc H7 := by rw [if_neg Bool.false_ne_true] at q7; exact q7
        show if false = true then _ else _
        rw [if_neg Bool.false_ne_true]
        exact again I7 q7'
      | true =>
        rw [if_pos rfl] at q7
        show if true = true then _ else _
        rw [if_pos rfl]
        have e7 := he' _ s7 σ6 H7 _ I7 q7
        rw [eP, eW, eA, eE, eX] at e7
        refine thn e7 fun yv s8 ⟨y, H8, I8, r8, hD8, hz8, m', hm, w8⟩ => ?_
        have a8 := mt_append _ s8 σ6 H8 (.ref s.heap.objs.size) [y] (.ref s.heap.objs.size) [yv] (fun _ H9 => H9 = upd H8 s.heap.objs.size (.lst (acc ++ [y]))) I8 rfl (.cons r8 .nil) ⟨_, acc, y, rfl, rfl, hD8, hz8, rfl⟩
        rw [eP, eW, eA, eX] at a8
        refine thn a8 fun _ s9 ⟨_, H9, I9, _, e9⟩ => ?_
        subst e9
        exact again I9 ⟨m', hm, w8⟩
  exact codeAny_compStart_list (loop _ rfl) (T.self _ 0 _ _ _ st1 (loop _ rfl))

theorem pe_lc (hc : X.calm = true) (Z : CompN X scope cl own fr N') (hcell : ∀ y ∈ scope.names, y.2 ≠ .cell) (hnames : ∀ x ∈ scope.names, x.2 = .local → scope.names.lookup x.1 = some .local) (hclos : closureFor scope X.env = pure cl)
    (hi : PI X tg iter wi) (hg : ∀ C fp s H, PG (compX X scope cl C N' fp s H) tg g) (ht : ∀ C fp s H, PTs (compX X scope cl C N' fp s H) ifs tt) (he : ∀ C fp s H, PE (compX X scope cl C N' fp s H) elt te)
    (hs : ∀ x, foldedSetIterable iter X.env x = pure x := by intro _; rfl) : PE X (.ListComp elt [⟨tg, iter, ifs, 0⟩] scope pos) (tLC wi own.length fr g tt te) := by
  intro pins s σ H Q I h
  rw [eval_ListComp]
  refine wpAny_comprehension_free (use := none) rfl hs hclos Z.kind hnames (thn (hi pins s σ H _ I h) fun v s1 h1 => thn h1 fun itv s2 h2 => ?_)
  obtain ⟨it, fp, tn, J, H2, e, I2, T, st2, f2, q2⟩ := h2
  subst e
  refine comp_block hc Z hcell hg ht he I2 T st2 f2 q2 (RR := fun acc C => compPost (model X.prog X.w) X.A X.xe none (EP X pins σ Q) acc C) fun D C s' H' hC ⟨m, hm⟩ fC I' q' => ?_
  exact ⟨m, hm, fun h' hs' => ⟨.ref D, H', comp_gone I2 hC I' fC hs', rfl, q'⟩⟩
/-- x = [..], x a plain local name, on one row: the stores are exchanged -/
def tSetLC (i : Nat) (wi : TI) (k : Nat) (fr : List Nat) (g : TG) (tt : TT) (te : TE) : TS := fun D σ H => wi σ H fun J H1 => rLC k fr g tt te σ J H1 fun a H' => D.nx (σ.set i (some (.ref a))) H'
theorem ps_setlc {i : Nat} {x : Str} {pos' spos : Pos} (hN : X.N.Nodup) (hix : X.N[i]? = some x) (hx : X.env.scope.names.lookup x = some .local) (hc : X.calm = true) (Z : CompN X scope cl own fr N') (hcell : ∀ y ∈ scope.names, y.2 ≠ .cell)
    (hnames : ∀ x ∈ scope.names, x.2 = .local → scope.names.lookup x.1 = some .local) (hclos : closureFor scope X.env = pure cl)
    (hi : PI X tg iter wi) (hg : ∀ C fp s H, PG (compX X scope cl C N' fp s H) tg g) (ht : ∀ C fp s H, PTs (compX X scope cl C N' fp s H) ifs tt) (he : ∀ C fp s H, PE (compX X scope cl C N' fp s H) elt te)
    (hs : ∀ x, foldedSetIterable iter X.env x = pure x := by intro _; rfl) (hsw : swapsWith (.ListComp elt [⟨tg, iter, ifs, 0⟩] scope pos) (some (.Name x pos')) spos.line X.env = pure true := by rfl) :
    PS X (.Assign [.Name x pos'] (.ListComp elt [⟨tg, iter, ifs, 0⟩] scope pos) spos) (tSetLC i wi own.length fr g tt te) := by
  intro pins s σ H D I h
  rw [exec_Assign_Name_used _ _ _ _ hsw]
  refine wpAny_bind (wpAny_standAt (wpAny_bind ?_))
  show wpAny _ X.A (do let _ ← comprehension (.ListComp elt [⟨tg, iter, ifs, 0⟩] scope pos) scope X.env _ (newList []) false (eval iter X.env) (some (assign (.Name x pos') X.env))) _ _ s
  refine wpAny_bind (wpAny_mono (wpAny_comprehension_free (use := some (assign (.Name x pos') X.env)) (Q := fun _ s' => SP X pins D .next s') rfl hs hclos Z.kind hnames
    (thn (hi pins s σ H _ I h) fun v s1 h1 => thn h1 fun itv s2 h2 => ?_)) (fun _ s' hq => wpAny_pure (wpAny_pure hq)) fun _ _ e => e)
  obtain ⟨it, fp, tn, J, H2, e, I2, T, st2, f2, q2⟩ := h2
  subst e
  refine comp_block hc Z hcell hg ht he I2 T st2 f2 q2 (RR := fun acc C => compPost (model X.prog X.w) X.A X.xe (some (assign (.Name x pos') X.env)) (fun _ s' => SP X pins D .next s') acc C) fun a C s' H' hC ⟨m, hm⟩ fC I' q' => ?_
  show wpAny _ _ (assign (.Name x pos') X.env (.ref a)) _ _ s'
  have neC : ∀ b, b = X.env.locals ∨ X.env.cells.lookup x = some b → C ≠ b := fun b hb z => by
    subst z
    rcases hb with e | e
    · exact Nat.ne_of_gt (Nat.lt_of_lt_of_le I2.lt hC) e
    · obtain ⟨v, q⟩ := I2.cell x C e
      exact absurd (Nat.lt_of_lt_of_le q.lt hC) (Nat.lt_irrefl _)
  refine wpAny_assign_Name (store_ok2 I' hN hix (.inl hx) (v := .ref a) rfl (fun s'' I'' ⟨b, sb, eb⟩ => ?_) (.inr hx))
  refine ⟨m, hm.sameBut sb (neC b eb), fun h' hs' => ⟨_, H', comp_gone I2 hC I'' fC hs', q'⟩⟩
end
end L2

set_option Elab.async false
set_option linter.all false
set_option maxRecDepth 100000
/-! Rules for texts over the layer. -/
namespace L2
open PySem PySem.Spec PyProof.Rows
open Builtin Builtin.Str

section
variable {X : Cx}

theorem vals_str : ∀ {ys : List Str} {us : List Value}, Vals (ys.map V.str) us → ∃ l : List (Str × Tok), us = strValues l ∧ l.map (·.1) = ys
  | [], us, r => by
    rw [List.map_nil] at r
    cases r
    exact ⟨[], rfl, rfl⟩
  | y :: ys, us, r => by
    rw [List.map_cons] at r
    cases r with
    | cons r1 r2 =>
      obtain ⟨t, e⟩ := r1
      obtain ⟨l, e1, e2⟩ := vals_str r2
      subst e
      subst e1
      exact ⟨(y, t) :: l, rfl, by rw [List.map_cons, e2]⟩
theorem str_vals : ∀ (l : List (Str × Tok)), Vals ((l.map (·.1)).map V.str) (strValues l)
  | [] => .nil
  | (y, t) :: l => .cons ⟨t, rfl⟩ (str_vals l)

/-! ### split -/
def rSplit : V → List V → Hp → VK → Prop := fun x vs H Q => ∃ z y, x = .str z ∧ vs = [.str y] ∧ (y.length == 0) = false ∧ z.length ≤ 1000000 ∧ ∀ p, H p = none → Q (.ref p) (upd H p (.lst ((Txt.split z y).map V.str)))
theorem parts_len (z y : Str) (hz : z.length ≤ 1000000) : (partsBetween z (occurrences z y 0 z.length (z.length + 1)) y.length).length ≤ sizeLine := by
  have h1 := StrLaws.occ_length_le z y 0 z.length (z.length + 1)
  have h2 : sizeLine = 16777216 := sizeLine_eq
  unfold partsBetween
  simp only [List.length_map, List.length_zip, List.length_cons, List.length_append, List.length_nil]
  omega
theorem mt_split : MtR X "str.split" rSplit := by
  intro pins s σ H x vs v us Q I rx rv h
  obtain ⟨z, y, rfl, rfl, hy, hz, q⟩ := h
  obtain ⟨t, rfl⟩ := rx
  obtain ⟨u, rfl, t2, rfl⟩ := rv.one
  have hl := parts_len z y hz
  have hs : sizeLine = 16777216 := sizeLine_eq
  have fin : ∀ (l : List (Str × Tok)) (k : Nat), 0 < k → l.map (·.1) = Txt.split z y → l.length ≤ sizeLine → EP X pins σ Q (.ref s.heap.objs.size) { s with heap := s.heap.push { cls := .type "list", data := .seq (strValues l).toArray }, toks := k } := fun l k hk e hn => by
    have r := str_vals l
    rw [e] at r
    have hlen : ((Txt.split z y).map V.str).length ≤ sizeLine := by rw [List.length_map, ← e, List.length_map]; exact hn
    exact ⟨.ref _, _, I.lnew (t' := k) r hlen hk, rfl, q _ I.fresh⟩
  cases h1 : (decide (z.length < y.length) || decide (strKind z < strKind y))
  · cases hf : (occurrences z y 0 z.length (z.length + 1)).isEmpty
    · refine call_meets F.slot_str_split (typeIs_str _ _ _) F.entry_str_split (F.args_str_split_2 _ _) (meets_str_split_sep z y t t2 h1 hy hf (by omega) hl) ?_
      show wants (EP X pins σ Q) X.xe _ { s with toks := _, heap := s.heap.push { cls := .type "list", data := .seq (strsFrom s.toks (partsBetween z (occurrences z y 0 z.length (z.length + 1)) y.length)).toArray } }
      rw [strsFrom_eq]
      refine fin (numbered s.toks _) _ (by have := I.tk; omega) ((numbered_texts _ _).trans ((if_neg (ne_true_of_eq_false h1)).trans (if_neg (ne_true_of_eq_false hf))).symm) ?_
      have e := congrArg List.length (numbered_texts s.toks (partsBetween z (occurrences z y 0 z.length (z.length + 1)) y.length))
      rw [List.length_map] at e
      rw [e]
      exact hl
    · exact call_meets F.slot_str_split (typeIs_str _ _ _) F.entry_str_split (F.args_str_split_2 _ _) (meets_str_split_not_found z y t t2 h1 hy hf)
        (fin [(z, t)] s.toks I.tk ((if_neg (ne_true_of_eq_false h1)).trans (if_pos hf)).symm (by show 1 ≤ sizeLine; decide))
  · exact call_meets F.slot_str_split (typeIs_str _ _ _) F.entry_str_split (F.args_str_split_2 _ _) (meets_str_split_cannot_occur z y t t2 h1)
      (fin [(z, t)] s.toks I.tk (if_pos h1).symm (by show 1 ≤ sizeLine; decide))

/-! ### join -/
def rJoin (K : PySem.W.Frag) : V → List V → Hp → VK → Prop := fun x vs H Q => ∃ z a ys, x = .str z ∧ vs = [.ref a] ∧ SqL K H a (ys.map V.str) ∧ (ys.map (·.length)).sum + ys.length * z.length ≤ sizeLine ∧ Q (.str (Txt.join z ys)) H
theorem join_fold (z : Str) : ∀ (ys : List Str) (n : Nat), ys.foldl (fun (n : Nat) (s : Str) => n + s.length + z.length) n = n + ((ys.map (·.length)).sum + ys.length * z.length)
  | [], n => by simp
  | y :: ys, n => by
    rw [List.foldl_cons, join_fold z ys, List.map_cons, List.sum_cons, List.length_cons, Nat.succ_mul]
    omega
theorem mt_join : MtR X "str.join" (rJoin X.K) := by
  intro pins s σ H x vs v us Q I rx rv h
  obtain ⟨z, a, ys, rfl, rfl, hq, hz, q⟩ := h
  obtain ⟨t, rfl⟩ := rx
  obtain ⟨u, rfl, ru⟩ := rv.one
  cases ru
  obtain ⟨its, r, pl, hn⟩ := I.list hq
  obtain ⟨l, rfl, e⟩ := vals_str r
  refine wpAny_with_toks (n := 1) I.tk (SC.join (texts := ys) pl.isList e ?_ fun t' k htk => ⟨.str (Txt.join z ys), H, I.tok _ htk, ⟨_, rfl⟩, q⟩)
  unfold JoinOk tooLong
  rw [← Array.foldl_toList, List.toList_toArray, join_fold, Nat.zero_add]
  simpa using hz

/-! ### strip, startswith, find, lower -/
def rS2 (f : Str → Str → V) : V → List V → Hp → VK → Prop := fun x vs H Q => ∃ z y, x = .str z ∧ vs = [.str y] ∧ z.length ≤ sizeLine ∧ Q (f z y) H
theorem mt_rstrip : MtR X "str.rstrip" (rS2 fun z y => .str (Txt.rstripChars z y)) := by
  intro pins s σ H x vs v us Q I rx rv h
  obtain ⟨z, y, rfl, rfl, hz, q⟩ := h
  obtain ⟨t, rfl⟩ := rx
  obtain ⟨u, rfl, t2, rfl⟩ := rv.one
  exact wpAny_with_toks (n := 1) I.tk (SC.rstripChars (fun t' k htk => ⟨.str _, H, I.tok _ htk, ⟨_, rfl⟩, q⟩) hz)
theorem mt_lstrip : MtR X "str.lstrip" (rS2 fun z y => .str (Txt.lstripChars z y)) := by
  intro pins s σ H x vs v us Q I rx rv h
  obtain ⟨z, y, rfl, rfl, hz, q⟩ := h
  obtain ⟨t, rfl⟩ := rx
  obtain ⟨u, rfl, t2, rfl⟩ := rv.one
  exact wpAny_with_toks (n := 1) I.tk (SC.lstripChars (fun t' k htk => ⟨.str _, H, I.tok _ htk, ⟨_, rfl⟩, q⟩) hz)
theorem mt_strip : MtR X "str.strip" (rS2 fun z y => .str (Txt.stripChars z y)) := by
  intro pins s σ H x vs v us Q I rx rv h
  obtain ⟨z, y, rfl, rfl, hz, q⟩ := h
  obtain ⟨t, rfl⟩ := rx
  obtain ⟨u, rfl, t2, rfl⟩ := rv.one
  exact wpAny_with_toks (n := 1) I.tk (SC.stripChars (fun t' k htk => ⟨.str _, H, I.tok _ htk, ⟨_, rfl⟩, q⟩) hz)
theorem mt_startswith : MtR X "str.startswith" (rS2 fun z y => .bl (Txt.startswith z y)) := by
  intro pins s σ H x vs v us Q I rx rv h
  obtain ⟨z, y, rfl, rfl, hz, q⟩ := h
  obtain ⟨t, rfl⟩ := rx
  obtain ⟨u, rfl, t2, rfl⟩ := rv.one
  exact SC.startswith ⟨.bl _, H, I, rfl, q⟩
theorem mt_endswith : MtR X "str.endswith" (rS2 fun z y => .bl (Txt.endswith z y)) := by
  intro pins s σ H x vs v us Q I rx rv h
  obtain ⟨z, y, rfl, rfl, hz, q⟩ := h
  obtain ⟨t, rfl⟩ := rx
  obtain ⟨u, rfl, t2, rfl⟩ := rv.one
  exact SC.endswith ⟨.bl _, H, I, rfl, q⟩
theorem mt_find : MtR X "str.find" (rS2 fun z y => .int (Txt.find z y)) := by
  intro pins s σ H x vs v us Q I rx rv h
  obtain ⟨z, y, rfl, rfl, hz, q⟩ := h
  obtain ⟨t, rfl⟩ := rx
  obtain ⟨u, rfl, t2, rfl⟩ := rv.one
  exact SC.find ⟨.int _, H, I.tok _, ⟨_, rfl⟩, q⟩
theorem mt_index : MtR X "str.index" (fun x vs H Q => ∃ z y i r, x = .str z ∧ vs = [.str y] ∧ occurrences z y 0 z.length 1 = i :: r ∧ Q (.int (i : Nat)) H) := by
  intro pins s σ H x vs v us Q I rx rv h
  obtain ⟨z, y, i, r, rfl, rfl, hz, q⟩ := h
  obtain ⟨t, rfl⟩ := rx
  obtain ⟨u, rfl, t2, rfl⟩ := rv.one
  exact SC.index hz ⟨.int _, H, I.tok _, ⟨_, rfl⟩, q⟩
theorem mt_lower : MtR X "str.lower" (fun x vs H Q => ∃ z, x = .str z ∧ vs = [] ∧ z.length ≤ 1000000 ∧ Q (.str (Txt.lower z)) H) := by
  intro pins s σ H x vs v us Q I rx rv h
  obtain ⟨z, rfl, rfl, hz, q⟩ := h
  obtain ⟨t, rfl⟩ := rx
  cases rv.zero
  exact SCL.lower (by omega) fun _ => ⟨.str _, H, I.tok _, ⟨_, rfl⟩, q⟩

/-! ### replace, both arguments written texts -/
theorem pe_replace {o : Expr} {to : TE} {y z : Str} {jy jz : Nat} {py pz apos cpos : Pos} (ho : PE X o to) (hyz : (y == z) = false) (hzl : z.length ≤ 14)
    (hbase : attributeBase o "replace" X.env (eval o X.env) = eval o X.env := by rfl) (hline : (apos.endLine == cpos.line) = true := by rfl) :
    PE X (.Call (.Attribute o "replace" apos) [.Constant (.str y) jy py, .Constant (.str z) jz pz] [] cpos) (fun σ H Q => to σ H fun x H1 => ∃ w, x = .str w ∧ w.length ≤ 1000000 ∧ Q (.str (Txt.replace w y z)) H1) := by
  intro pins s σ H Q I h
  refine wpAny_Call_method_late hbase (by rfl) hline rfl (thn (ho pins s σ H _ I h) fun v s1 ⟨x, H1, I1, r1, q1⟩ => ?_)
  obtain ⟨w, rfl, hw, q⟩ := q1
  obtain ⟨t, rfl⟩ := r1
  refine ⟨"str", "str.replace", PySem.F.plainAttrs_str, F.slot_str_replace, F.type_str_replace, typeIs_str _ _ _, (fun _ e => nomatch e), ?_⟩
  refine Calls.callWith_builtin (by rfl) (Calls.evalArgs_plain ?_)
  refine Calls.spliced_cons (Calls.Constant_str (k := jy) (pos := py) ?_)
  refine Calls.spliced_cons (Calls.Constant_str (k := jz) (pos := pz) ?_)
  refine Calls.spliced_nil ?_
  have h0 := I1.tk
  refine wpAny_with_toks (n := 1) (by show 1 ≤ s1.toks + 1 + 1; omega) (SC.replaceW (Nat.pos_iff_ne_zero.mp h0) (Nat.succ_ne_zero _) (Nat.ne_of_lt (Nat.lt_succ_self _)) hyz (by omega) hzl fun t' k htk => ?_)
  exact ⟨.str (Txt.replace w y z), H1, (I1.tok _ htk), ⟨_, rfl⟩, q⟩

/-! ### text * number -/
theorem op_mul_str : OpR X (binaryOp .Mult) (fun x y H Q => ∃ z n, x = .str z ∧ y = .int n ∧ z.length = 1 ∧ 0 ≤ n ∧ n ≤ 1000 ∧ Q (.str (Txt.mul z n)) H) := by
  intro pins s σ H x y v u Q I rx ry h
  obtain ⟨z, n, rfl, rfl, hz, h0, h1, q⟩ := h
  obtain ⟨t, rfl⟩ := rx
  obtain ⟨t', rfl⟩ := ry
  refine wpAny_with_toks (n := 1) I.tk (SB.mul ?_ fun t' k htk => ⟨.str (Txt.mul z n), H, I.tok _ htk, ⟨_, rfl⟩, q⟩)
  have hs : sizeLine = 16777216 := sizeLine_eq
  refine ⟨?_, fun _ _ => ?_, fun _ _ => ?_⟩
  · have e1 : decide (n < -(2 ^ 63 : Int)) = false := decide_eq_false (by omega)
    have e2 : decide (n ≥ 2 ^ 63) = false := decide_eq_false (by omega)
    rw [e1, e2]; rfl
  · rw [hz]
    have hn : n = 0 ∨ 0 < n := by omega
    intro q
    have h9 : (2 ^ 63 - 1 : Int) / n ≥ 1 := by
      rename_i a _
      have hp : 0 < n := by omega
      exact (Int.le_ediv_iff_mul_le hp).mpr (by omega)
    omega
  · unfold tooLong
    rw [hz]
    exact decide_eq_false (by omega)

/-! ### slices of a text -/
def rSlS : V → Option Int → Option Int → Hp → VK → Prop := fun x lo hi H Q => ∃ z, x = .str z ∧ z.length ≤ sizeLine ∧ Q (.str (Txt.slice z lo hi)) H
theorem sl_str : SlR X rSlS := by
  intro pins s σ H x v vl vu lo hi sl Q I rx hs pl pu h
  obtain ⟨z, rfl, hz, q⟩ := h
  obtain ⟨t, rfl⟩ := rx
  refine ⟨"str", _, F.slot_str_getitem.lookup, typeIs_str _ _ _, ?_⟩
  have fin : ∀ (l u : Option (Int × Tok)), l.map (·.1) = lo → u.map (·.1) = hi → (sliceMade z t l u none).post (EP X pins σ Q) s := by
    intro l u el eu
    subst el eu
    unfold sliceMade
    unfold Txt.slice at q
    have e : slicePicked z l u none = strSliceIndices (l.map (·.1)) (u.map (·.1)) 1 z.length := rfl
    rw [e]
    show (if ((1 : Int) == 1 && (strSliceIndices (l.map (·.1)) (u.map (·.1)) 1 z.length).length == z.length) = true then Made.val (.str z t) else Made.str ⟨((strSliceIndices (l.map (·.1)) (u.map (·.1)) 1 z.length).filterMap (z.cps[·]?)).toArray⟩).post (EP X pins σ Q) s
    by_cases c : (((1 : Int) == 1 && (strSliceIndices (l.map (·.1)) (u.map (·.1)) 1 z.length).length == z.length)) = true
    · rw [if_pos c]
      rw [if_pos c] at q
      exact ⟨.str z, H, I, ⟨_, rfl⟩, q⟩
    · rw [if_neg c]
      rw [if_neg c] at q
      have hl := Txt.slice_le z (l.map (·.1)) (u.map (·.1))
      unfold Txt.slice at hl
      rw [if_neg c] at hl
      exact ⟨Nat.le_trans hl hz, .str _, H, I.tok _, ⟨_, rfl⟩, q⟩
  have go : ∀ (l u : Option (Int × Tok)), vl = partValue l → vu = partValue u → l.map (·.1) = lo → u.map (·.1) = hi → wpAny (model X.prog X.w) X.A (getItem (.str z t) (.ref sl)) (EP X pins σ Q) X.xe s := by
    intro l u e1 e2 e3 e4
    subst e1 e2
    exact wpAny_getItem_str_slice (l := l) (u := u) (st := none) hs rfl (fin l u e3 e4)
  cases pl with
  | none => cases pu with
    | none => exact go none none rfl rfl rfl rfl
    | int j tj => exact go none (some (j, tj)) rfl rfl rfl rfl
  | int i ti => cases pu with
    | none => exact go (some (i, ti)) none rfl rfl rfl rfl
    | int j tj => exact go (some (i, ti)) (some (j, tj)) rfl rfl rfl rfl

/-! ### a text walked sign by sign -/
def Its (z : Str) : It := ⟨fun i _ => i < z.length, fun i H x H' => H' = H ∧ ∃ c, z.cps[i]? = some c ∧ x = .str ⟨#[c]⟩, fun i _ => z.length ≤ i⟩
def iStr (tl : TE) : TI := fun σ H R => tl σ H fun x H1 => ∃ z, x = .str z ∧ R (Its z) H1
theorem turn_str {P : Program} {w : World} {K : PySem.W.Frag} {x : Str} {px : Pos} (z : Str) (it : Addr) (ty : String) (t : Tok) (hty : ty = "str_ascii_iterator" ∨ ty = "str_iterator") :
    Turn P w K (.Name x px) (Its z) [it] it (fun i h => h.IsStrIter it ty z t i) where
  mem := by simp
  obj := fun i h st b hb => by
    have e : b = it := by simpa using hb
    subst e
    obtain ⟨o, ho, _, hd⟩ := st
    exact ⟨o, ho, fun v z => by rw [hd] at z; cases z⟩
  keep := fun i h h' st k => by
    obtain ⟨o, ho, r⟩ := st
    exact ⟨o, k it (by simp) o ho, r⟩
  item := by
    intro X hP hw hK hc i pins s σ H E I hf st hg
    subst hP hw hK
    obtain ⟨f0, f1, f2, f3, f4, f5⟩ := hf it (by simp)
    have hi : i < z.cps.size := hg
    have hx : z.cps[i]? = some z.cps[i] := by simp [hi]
    have fin : ∀ h', h'.IsStrIter it ty z t (i + 1) → Heap.SameBut it s.heap h' → ∃ u, (some (Value.str ⟨#[z.cps[i]]⟩ s.toks) : Option Value) = some u ∧
        wpAny (model X.prog X.w) X.A (letOwnedTupleGo (.Name x px) (.ref it) u) (fun _ s2 => ∃ x H', Inv X pins σ H' s2 ∧ RelV x u ∧ (Its z).yld i H x H' ∧ s2.heap.IsStrIter it ty z t (i + 1) ∧ ∀ b ∈ [it], H' b = none) E { s with heap := h', toks := s.toks + 1 } :=
      fun h' st' sb => ⟨_, rfl, wpAny_pure ⟨.str ⟨#[z.cps[i]]⟩, H, I.turned (fun b o hb e => (sb.2 b hb).trans e) f0 f1 f3 f4 f5, ⟨_, rfl⟩, ⟨rfl, _, hx, rfl⟩, st', fun b hb => (hf b hb).1⟩⟩
    rcases hty with rfl | rfl
    · exact wpAny_pyNext_ascii_item st hx fin
    · exact wpAny_pyNext_wide_item st hx fin
  done := by
    intro X hP hw hK hc i pins s σ H E I hf st hg
    subst hP hw hK
    obtain ⟨f0, f1, f2, f3, f4, f5⟩ := hf it (by simp)
    have hx : z.cps[i]? = none := by
      have : z.cps.size ≤ i := hg
      simp [this]
    rcases hty with rfl | rfl
    · exact wpAny_pyNext_ascii_end (I.ok.hd hc) st hx fun h' eb => ⟨rfl, I.turned (t' := s.toks) (fun b o hb e => eb b o hb e) f0 f1 f3 f4 f5⟩
    · exact wpAny_pyNext_wide_end (I.ok.hd hc) st hx fun h' eb => ⟨rfl, I.turned (t' := s.toks) (fun b o hb e => eb b o hb e) f0 f1 f3 f4 f5⟩
  self := by
    intro A i s Q E st h
    rcases hty with rfl | rfl
    · exact wpAny_pyIter_striter_ascii st h
    · exact wpAny_pyIter_striter_wide st h
theorem pi_str {l : Expr} {tl : TE} {x : Str} {px : Pos} (hl : PE X l tl) : PI X (.Name x px) l (iStr tl) := by
  intro pins s σ H R I h
  refine thn (hl pins s σ H _ I h) fun v s1 ⟨y, H1, I1, r1, q1⟩ => ?_
  obtain ⟨z, rfl, q⟩ := q1
  obtain ⟨t, rfl⟩ := r1
  have fin : ∀ ty, (ty = "str_ascii_iterator" ∨ ty = "str_iterator") → PIE X pins σ (.Name x px) R (.ref s1.heap.objs.size) { s1 with heap := s1.heap.push { cls := .type ty, data := .fields #[.str z t, .int 0 0] } } := fun ty hty => by
    refine ⟨s1.heap.objs.size, [s1.heap.objs.size], _, _, H1, rfl, I1.kept (t' := s1.toks) fun b o e => Heap.get?_push_of_some _ e, turn_str z _ ty t hty, ⟨_, Heap.get?_push_size _ rfl, rfl, rfl⟩, fun b hb => ?_, q⟩
    have e : b = s1.heap.objs.size := by simpa using hb
    subst e
    exact I1.fpOk (Nat.le_refl _) (I1.hok.fresh (Nat.le_refl _))
  cases ha : z.cps.all (· < 128)
  · exact wpAny_pyIter_wide ha (fin _ (.inr rfl))
  · exact wpAny_pyIter_ascii ha (fin _ (.inl rfl))

/-! ### all of a list of truths -/
theorem vals_bl_get : ∀ {bs : List Bool} {us : List Value} {i : Nat} {v : Value}, Vals (bs.map V.bl) us → us[i]? = some v → ∃ b, bs[i]? = some b ∧ v = .bool b
  | [], _, _, _, r, e => by
    rw [List.map_nil] at r
    cases r
    simp at e
  | b :: bs, us, i, v, r, e => by
    rw [List.map_cons] at r
    cases r with
    | cons r1 r2 =>
      cases i with
      | zero =>
        simp at e
        subst e
        exact ⟨b, rfl, r1⟩
      | succ i =>
        obtain ⟨c, h1, h2⟩ := vals_bl_get (i := i) r2 (by simpa using e)
        exact ⟨c, by simpa using h1, h2⟩
theorem all_range (bs : List Bool) : ((List.range bs.length).all fun i => bs.getD i true) = bs.all id := by
  rw [Bool.eq_iff_iff, List.all_eq_true, List.all_eq_true]
  constructor
  · intro h b hb
    obtain ⟨i, hi, rfl⟩ := List.getElem_of_mem hb
    have := h i (List.mem_range.mpr hi)
    rw [List.getD_eq_getElem?_getD, List.getElem?_eq_getElem hi] at this
    exact this
  · intro h i hi
    have hi' := List.mem_range.mp hi
    rw [List.getD_eq_getElem?_getD, List.getElem?_eq_getElem hi']
    exact h _ (List.getElem_mem hi')
theorem call_all (hc : X.calm = true) : CallR X (.builtin "all") (fun xs H Q => ∃ (a : Addr) (bs : List Bool), xs = [.ref a] ∧ SqL X.K H a (bs.map V.bl) ∧ Q (.bl (bs.all id)) H) := by
  intro pins s σ H xs us Q I r h
  obtain ⟨a, bs, rfl, hq, q⟩ := h
  obtain ⟨u, rfl, rx⟩ := vals1 r
  cases rx
  obtain ⟨its, r', pl, hz⟩ := I.list hq
  have hlen : its.toArray.size = bs.length := by
    have := r'.length
    rw [List.length_map] at this
    rw [List.size_toArray, this]
  have lt : a < s.heap.objs.size := by
    obtain ⟨o, n, e, _⟩ := pl
    exact Heap.lt_size e
  refine wpAny_with_toks (n := 1) I.tk (call_all_walk ?_)
  refine wpAny_pyIter_list pl.isList ?_
  refine ⟨s.heap.objs.size, _, _, _, _, _, fun i => bs.getD i true, rfl, Walks.list (A := X.A.in1) (I.ok.hd hc) s.heap.objs.size a (Nat.ne_of_lt lt) its.toArray, ⟨⟨_, Heap.get?_push_size _ rfl, rfl, rfl⟩, ?_⟩, ?_, fun h' tk kp htk => ?_⟩
  · obtain ⟨o, n, e, c, _, d⟩ := pl
    exact ⟨o, Heap.get?_push_of_some _ e, c, n, d⟩
  · intro i v s' Q' E' hP hQ
    have hP' : its[i]? = some v := by simpa using hP
    obtain ⟨b, hb, rfl⟩ := vals_bl_get r' hP'
    have hQ' : Q' (bs.getD i true) s' := hQ
    rw [List.getD_eq_getElem?_getD, hb] at hQ'
    exact wpAny_truthy_bool hQ'
  · rw [hlen, all_range]
    refine ⟨.bl _, H, I.kept (fun b o e => kp b o ?_ (Heap.get?_push_of_some _ e)) htk, rfl, q⟩
    simp only [List.mem_singleton]
    exact Nat.ne_of_lt (Heap.lt_size e)
end

/-! ### values as data -/
mutual
inductive Den (K : PySem.W.Frag) (H : Hp) : V → PyData → Prop where
  | non : Den K H .non .none
  | bl (b : Bool) : Den K H (.bl b) (.bool b)
  | int (i : Int) : Den K H (.int i) (.int i)
  | str (x : Str) (h : PyData.strOk x = true) : Den K H (.str x) (.str x)
  | lst {a : Addr} {xs : List V} {ds : List PyData} : SqL K H a xs → DenAll K H xs ds → Den K H (.ref a) (.list ds)
  | tup {a : Addr} {xs : List V} {ds : List PyData} : SqT K H a xs → DenAll K H xs ds → Den K H (.ref a) (.tuple ds)
inductive DenAll (K : PySem.W.Frag) (H : Hp) : List V → List PyData → Prop where
  | nil : DenAll K H [] []
  | cons {x : V} {xs : List V} {d : PyData} {ds : List PyData} : Den K H x d → DenAll K H xs ds → DenAll K H (x :: xs) (d :: ds)
end

section
variable {X : Cx} {pins : List (Addr × Obj)} {σ : St} {H : Hp} {s : Shared}
mutual
theorem Den.reads (I : Inv X pins σ H s) : ∀ {x : V} {d : PyData} {u : Value}, Den X.K H x d → RelV x u → ∃ as, Reads s.heap u d as
  | _, _, _, .non, r => by cases r; exact ⟨_, .none⟩
  | _, _, _, .bl b, r => by cases r; exact ⟨_, .bool b⟩
  | _, _, _, .int i, r => by obtain ⟨t, rfl⟩ := r; exact ⟨_, .int i t⟩
  | _, _, _, .str x _, r => by obtain ⟨t, rfl⟩ := r; exact ⟨_, .str x t⟩
  | _, _, _, .lst hq hd, r => by
    cases r
    obtain ⟨its, rv, ⟨o, n, e, c, _, d⟩, _⟩ := I.list hq
    obtain ⟨as, ra⟩ := DenAll.reads I hd rv
    exact ⟨_, .list e c d (by simpa using ra)⟩
  | _, _, _, .tup hq hd, r => by
    cases r
    obtain ⟨its, rv, ⟨o, e, c, n, d⟩, _⟩ := I.tuple hq
    obtain ⟨as, ra⟩ := DenAll.reads I hd rv
    exact ⟨_, .tuple e c d (by simpa using ra)⟩
theorem DenAll.reads (I : Inv X pins σ H s) : ∀ {xs : List V} {ds : List PyData} {us : List Value}, DenAll X.K H xs ds → Vals xs us → ∃ as, ReadsAll s.heap us ds as
  | _, _, _, .nil, r => by cases r; exact ⟨_, .nil⟩
  | _, _, _, .cons h hs, r => by
    cases r with
    | cons r1 r2 =>
      obtain ⟨as, a⟩ := Den.reads I h r1
      obtain ⟨bs, b⟩ := DenAll.reads I hs r2
      exact ⟨_, .cons a b⟩
end
end
mutual
theorem eqv_refl : ∀ d : PyData, d.canLay0 = true → PyData.eqv d d = true
  | .none, _ => rfl
  | .bool b, _ => by simp [PyData.eqv]
  | .int i, _ => by simp [PyData.eqv]
  | .str x, _ => by simp [PyData.eqv]
  | .list xs, h => by simp only [PyData.eqv]; exact eqvAll_refl xs (by simpa [PyData.canLay0] using h)
  | .tuple xs, h => by simp only [PyData.eqv]; exact eqvAll_refl xs (by simpa [PyData.canLay0] using h)
  | .dict _, h => by simp [PyData.canLay0] at h
theorem eqvAll_refl : ∀ ds : List PyData, PyData.canLayAll0 ds = true → PyData.eqvAll ds ds = true
  | [], _ => rfl
  | d :: ds, h => by
    simp only [PyData.canLayAll0, Bool.and_eq_true] at h
    simp only [PyData.eqvAll, Bool.and_eq_true]
    exact ⟨eqv_refl d h.1, eqvAll_refl ds h.2⟩
end
mutual
theorem Den.lay {K : PySem.W.Frag} {H : Hp} : ∀ {x : V} {d : PyData}, Den K H x d → d.canLay0 = true
  | _, _, .non => rfl
  | _, _, .bl _ => rfl
  | _, _, .int _ => rfl
  | _, _, .str _ h => h
  | _, _, .lst _ h => by simp only [PyData.canLay0]; exact h.lay
  | _, _, .tup _ h => by simp only [PyData.canLay0]; exact h.lay
theorem DenAll.lay {K : PySem.W.Frag} {H : Hp} : ∀ {xs : List V} {ds : List PyData}, DenAll K H xs ds → PyData.canLayAll0 ds = true
  | _, _, .nil => rfl
  | _, _, .cons h hs => by simp only [PyData.canLayAll0, Bool.and_eq_true]; exact ⟨h.lay, hs.lay⟩
end
/-- the things that are Same stay what they are -/
theorem Same.seqT {K : PySem.W.Frag} {H H' : Hp} {a : Addr} {xs : List V} (e : Same H H') (h : SqT K H a xs) : SqT K H' a xs := by
  rcases h with (h | ⟨o, h⟩) | h
  · exact .inl (.inl (e _ _ h))
  · exact .inl (.inr ⟨o, e _ _ h⟩)
  · exact .inr h
mutual
theorem Den.same {K : PySem.W.Frag} {H H' : Hp} (e : Same H H') : ∀ {x : V} {d : PyData}, Den K H x d → Den K H' x d
  | _, _, .non => .non
  | _, _, .bl b => .bl b
  | _, _, .int i => .int i
  | _, _, .str x h => .str x h
  | _, _, .lst q h => .lst (e.seq q) (h.same e)
  | _, _, .tup q h => .tup (e.seqT q) (h.same e)
theorem DenAll.same {K : PySem.W.Frag} {H H' : Hp} (e : Same H H') : ∀ {xs : List V} {ds : List PyData}, DenAll K H xs ds → DenAll K H' xs ds
  | _, _, .nil => .nil
  | _, _, .cons h hs => .cons (h.same e) (hs.same e)
end
section
variable {X : Cx}
/-- two things of one datum -/
def rEqD (K : PySem.W.Frag) (k : Bool) : R2 := fun x y H Q => ∃ d, Den K H x d ∧ Den K H y d ∧ d.depth ≤ 6 ∧ Q (.bl k) H
theorem op_eqD (hu : X.A.units + 64 < cLine) : OpR X (compareOp .Eq) (rEqD X.K true) := by
  intro pins s σ H x y v u Q I rx ry h
  obtain ⟨d, dx, dy, hd, q⟩ := h
  obtain ⟨as, ra⟩ := dx.reads I rx
  obtain ⟨bs, rb⟩ := dy.reads I ry
  have hs : SeqAt.shaped d = true := by
    unfold SeqAt.shaped
    rw [dx.lay, Bool.true_and]
    exact decide_eq_true (Nat.le_trans hd (by decide))
  refine eq_dataH ra rb hs hs hu ?_
  rw [eqv_refl d dx.lay]
  exact ⟨.bl true, H, I, rfl, q⟩
theorem op_neD (hu : X.A.units + 64 < cLine) : OpR X (compareOp .NotEq) (rEqD X.K false) := by
  intro pins s σ H x y v u Q I rx ry h
  obtain ⟨d, dx, dy, hd, q⟩ := h
  obtain ⟨as, ra⟩ := dx.reads I rx
  obtain ⟨bs, rb⟩ := dy.reads I ry
  have hs : SeqAt.shaped d = true := by
    unfold SeqAt.shaped
    rw [dx.lay, Bool.true_and]
    exact decide_eq_true (Nat.le_trans hd (by decide))
  refine ne_dataH ra rb hs hs hu ?_
  rw [eqv_refl d dx.lay]
  exact ⟨.bl false, H, I, rfl, q⟩
end

/-! ### comprehensions over lists and numbers, nothing changed by them -/
theorem same_new {H : Hp} {p : Addr} (h : H p = none) (o : HO) : Same H (upd H p o) := fun b u q => by rw [upd_ne (ne_of_none q h)]; exact q
/-- what stood ahead of the list that grows -/
theorem same_grow {H H' : Hp} {D : Addr} {o : HO} (hD : H D = none) (e : Same H H') : Same H (upd H' D o) := fun b u q => by
  rw [upd_ne (ne_of_none q hD)]
  exact e b u q
theorem lc_seq {J : It} {xs : List V} {k : Nat} {fr : List Nat} {g : TG} {tt : TT} {te : TE} {σ : St} {H0 : Hp} {Q : Addr → Hp → Prop} (p : V → Bool) (f : V → V) (hl : xs.length ≤ sizeLine)
    (hgo : ∀ i H, Same H0 H → i < xs.length → J.go i H) (hyl : ∀ i H x H', i < xs.length → Same H0 H → J.yld i H x H' → H' = H ∧ xs[i]? = some x) (hst : ∀ i H, Same H0 H → xs.length ≤ i → J.stop i H)
    (ht : ∀ x ∈ xs, ∀ H', Same H0 H' → ∀ (C : V → Hp → Prop) (N : Hp → Prop), (∀ H4, Same H' H4 → p x = true → C (f x) H4) → (∀ H3, Same H' H3 → p x = false → N H3) →
      g x (nfS k fr σ) H' fun σ2 H2 => nfLe k fr σ σ2 ∧ tt σ2 H2 fun b H3 => if b = true then te σ2 H3 C else N H3)
    (hq : ∀ D H', H0 D = none → Same H0 H' → H' D = some (.lst ((xs.filter p).map f)) → Q D H') : rLC k fr g tt te σ J H0 Q := by
  intro D hD
  refine ⟨fun i m acc H => m = xs.length - i ∧ i ≤ xs.length ∧ acc = ((xs.take i).filter p).map f ∧ H D = some (.lst acc) ∧ Same H0 H, ⟨xs.length, by simp, Nat.zero_le _, by simp, upd_same, same_new hD _⟩, ?_⟩
  rintro i m acc H ⟨rfl, hi, rfl, hDa, sm⟩
  refine ⟨hDa, ?_⟩
  by_cases hlt : i < xs.length
  · refine .inr ⟨hgo i H sm hlt, fun x H' y => ?_⟩
    obtain ⟨e, hxi⟩ := hyl i H x H' hlt sm y
    subst e
    have hmem : x ∈ xs := List.mem_of_getElem? hxi
    have htk := take_succ_filter p xs i x hxi
    refine ht x hmem H' sm _ _ (fun H4 s4 hp => ?_) (fun H3 s3 hp => ?_)
    · refine ⟨s4 _ _ hDa, ?_, xs.length - (i + 1), by omega, rfl, hlt, ?_, upd_same, ?_⟩
      · rw [List.length_map]
        have := List.length_filter_le p (xs.take i)
        rw [List.length_take] at this
        omega
      · rw [htk, hp]; simp
      · exact same_grow hD (sm.trans s4)
    · refine ⟨xs.length - (i + 1), by omega, rfl, hlt, ?_, s3 _ _ hDa, sm.trans s3⟩
      rw [htk, hp]; simp
  · have e : i = xs.length := by omega
    subst e
    rw [List.take_length] at hDa ⊢
    exact .inl ⟨hst _ H sm (Nat.le_refl _), hq D H hD sm hDa⟩
theorem lc_list {K : PySem.W.Frag} {a : Addr} {xs : List V} {k : Nat} {fr : List Nat} {g : TG} {tt : TT} {te : TE} {σ : St} {H0 : Hp} {Q : Addr → Hp → Prop} (p : V → Bool) (f : V → V) (hx : SqL K H0 a xs) (hl : xs.length ≤ sizeLine)
    (ht : ∀ x ∈ xs, ∀ H', Same H0 H' → ∀ (C : V → Hp → Prop) (N : Hp → Prop), (∀ H4, Same H' H4 → p x = true → C (f x) H4) → (∀ H3, Same H' H3 → p x = false → N H3) →
      g x (nfS k fr σ) H' fun σ2 H2 => nfLe k fr σ σ2 ∧ tt σ2 H2 fun b H3 => if b = true then te σ2 H3 C else N H3)
    (hq : ∀ D H', H0 D = none → Same H0 H' → H' D = some (.lst ((xs.filter p).map f)) → Q D H') : rLC k fr g tt te σ (Itl K a) H0 Q :=
  lc_seq p f hl (fun i H sm hi => ⟨xs, xs[i], sm.seq hx, by simp [hi]⟩) (fun i H x H' _ sm y => ⟨y.1, by obtain ⟨e, y⟩ := y; exact y xs (sm.seq hx)⟩) (fun i H sm hi => ⟨xs, sm.seq hx, hi⟩) ht hq
theorem lc_str {z : Str} {k : Nat} {fr : List Nat} {g : TG} {tt : TT} {te : TE} {σ : St} {H0 : Hp} {Q : Addr → Hp → Prop} (p : V → Bool) (f : V → V) (hl : z.length ≤ sizeLine)
    (ht : ∀ c ∈ z.cps.toList, ∀ H', Same H0 H' → ∀ (C : V → Hp → Prop) (N : Hp → Prop), (∀ H4, Same H' H4 → p (.str ⟨#[c]⟩) = true → C (f (.str ⟨#[c]⟩)) H4) → (∀ H3, Same H' H3 → p (.str ⟨#[c]⟩) = false → N H3) →
      g (.str ⟨#[c]⟩) (nfS k fr σ) H' fun σ2 H2 => nfLe k fr σ σ2 ∧ tt σ2 H2 fun b H3 => if b = true then te σ2 H3 C else N H3)
    (hq : ∀ D H', H0 D = none → Same H0 H' → H' D = some (.lst (((z.cps.toList.map fun c => V.str ⟨#[c]⟩).filter p).map f)) → Q D H') : rLC k fr g tt te σ (Its z) H0 Q := by
  have hz : (z.cps.toList.map fun c => V.str ⟨#[c]⟩).length = z.length := by rw [List.length_map]; simp [Str.length]
  refine lc_seq p f (by rw [hz]; exact hl) (fun i H sm hi => by rw [hz] at hi; exact hi) (fun i H x H' hi sm y => ?_) (fun i H sm hi => by rw [hz] at hi; exact hi) (fun x hx => ?_) hq
  · obtain ⟨e, c, h1, h2⟩ := y
    refine ⟨e, ?_⟩
    rw [List.getElem?_map, h2]
    have : z.cps.toList[i]? = some c := by simpa using h1
    rw [this]; rfl
  · obtain ⟨c, hc, rfl⟩ := List.mem_map.mp hx
    exact ht c hc
theorem lc_range {n : Nat} {k : Nat} {fr : List Nat} {g : TG} {tt : TT} {te : TE} {σ : St} {H0 : Hp} {Q : Addr → Hp → Prop} (lo : Int) (p : V → Bool) (f : V → V) (hl : n ≤ sizeLine)
    (ht : ∀ i, i < n → ∀ H', Same H0 H' → ∀ (C : V → Hp → Prop) (N : Hp → Prop), (∀ H4, Same H' H4 → p (.int (lo + (i : Nat))) = true → C (f (.int (lo + (i : Nat)))) H4) → (∀ H3, Same H' H3 → p (.int (lo + (i : Nat))) = false → N H3) →
      g (.int (lo + (i : Nat))) (nfS k fr σ) H' fun σ2 H2 => nfLe k fr σ σ2 ∧ tt σ2 H2 fun b H3 => if b = true then te σ2 H3 C else N H3)
    (hq : ∀ D H', H0 D = none → Same H0 H' → H' D = some (.lst ((((List.range n).map fun (i : Nat) => V.int (lo + i)).filter p).map f)) → Q D H') : rLC k fr g tt te σ (Itr lo n) H0 Q := by
  have hz : ((List.range n).map fun (i : Nat) => V.int (lo + i)).length = n := by rw [List.length_map, List.length_range]
  refine lc_seq p f (by rw [hz]; exact hl) (fun i H sm hi => by rw [hz] at hi; exact hi) (fun i H x H' hi sm y => ?_) (fun i H sm hi => by rw [hz] at hi; exact hi) (fun x hx => ?_) hq
  · obtain ⟨e, h2⟩ := y
    rw [hz] at hi
    refine ⟨e, ?_⟩
    rw [List.getElem?_map, List.getElem?_range hi, h2]; rfl
  · obtain ⟨i, hi, rfl⟩ := List.mem_map.mp hx
    exact ht i (List.mem_range.mp hi)

/-! ### the names of a block, shown by computation -/
def FreeOk (X : Cx) (scope : Scope) (N' : List Str) : Nat → List Nat → List Str → Prop
  | _, [], [] => True
  | k, j :: fr, x :: xs => X.N[j]? = some x ∧ N'[k]? = some x ∧ (X.env.kindOf x = some .cell ∨ X.env.kindOf x = some .free) ∧
      ((relabel scope X.env).names.lookup x = some .cell ∨ (relabel scope X.env).names.lookup x = some .free) ∧ FreeOk X scope N' (k + 1) fr xs
  | _, _, _ => False
theorem FreeOk.get {X : Cx} {scope : Scope} {N' : List Str} : ∀ {k : Nat} {fr : List Nat} {xs : List Str}, FreeOk X scope N' k fr xs → ∀ (i j : Nat), fr[i]? = some j → ∃ x, X.N[j]? = some x ∧ N'[k + i]? = some x ∧
    (X.env.kindOf x = some .cell ∨ X.env.kindOf x = some .free) ∧ ((relabel scope X.env).names.lookup x = some .cell ∨ (relabel scope X.env).names.lookup x = some .free)
  | _, [], [], _, i, j, e => by simp at e
  | _, [], _ :: _, h, _, _, _ => h.elim
  | _, _ :: _, [], h, _, _, _ => h.elim
  | k, j0 :: fr, x :: xs, h, i, j, e => by
    obtain ⟨h1, h2, h3, h4, h5⟩ := h
    cases i with
    | zero =>
      simp at e
      subst e
      exact ⟨x, h1, h2, h3, h4⟩
    | succ i =>
      have := h5.get i j (by simpa using e)
      have e2 : k + 1 + i = k + (i + 1) := by omega
      rw [e2] at this
      exact this
theorem compN {X : Cx} {scope : Scope} {cl : List (Str × Addr)} {own : List Str} {fr : List Nat} {xs N' : List Str} (cells : CellsIn X.env cl) (free : FreeOk X scope N' own.length fr xs)
    (nd : N'.Nodup) (all : ((relabel scope X.env).names.all fun y => y.2 == .local || y.2 == .globalImplicit || (cl.lookup y.1).isSome) = true := by rfl)
    (kind : scope.kind = .function := by rfl) (len : N'.length = own.length + fr.length := by rfl) : CompN X scope cl own fr N' := by
  refine ⟨kind, cells, fun x hx => ?_, nd, len, fun i j e => free.get i j e⟩
  have key : ∀ k, (relabel scope X.env).names.lookup x = some k → (k = .cell ∨ k = .free) → ∃ c, cl.lookup x = some c := fun k e hk => by
    have hm := PySem.mem_of_lookup e
    have := List.all_eq_true.mp all _ hm
    rcases hk with rfl | rfl
    · simp only [Bool.or_eq_true] at this
      rcases this with (z | z) | z
      · exact absurd z (by decide)
      · exact absurd z (by decide)
      · exact Option.isSome_iff_exists.mp z
    · simp only [Bool.or_eq_true] at this
      rcases this with (z | z) | z
      · exact absurd z (by decide)
      · exact absurd z (by decide)
      · exact Option.isSome_iff_exists.mp z
  rcases hx with e | e
  · exact key _ e (.inl rfl)
  · exact key _ e (.inr rfl)
end L2

namespace L2
open PySem PySem.Spec PyProof.Rows
/-- a def that keeps its promise, with all that a call of it asks -/
structure Def (P : Program) (w : World) (K : PySem.W.Frag) (mg : Str → Option Value) (base : Heap) (k : Nat) (x : Str) (ps : List Str) (sp : Sp) : Prop where
  ex : ∃ f fd, FnOk P w K mg base CX0 k f fd ps sp ∧ mg x = some (.ref f) ∧ PySem.W.keepIn K (.ref f) = true ∧ Binds K fd ps []
section
variable {X : Cx} {k : Nat} {x : Str} {ps : List Str} {sp : Sp} {e : Expr} {es : List Expr} {te : TE} {t : TA} {p pos : Pos}
theorem pe_callD (D : Def X.prog X.w X.K X.mg X.base k x ps sp) (hr : Room k X.A) (ha : PA X (e :: es) t) (hg : Gl X x := by exact rfl) (hdb : (x == ("__debug__" : Str)) = false := by decide)
    (he : starEach (e :: es) X.env = (false, eval e X.env) :: starEach es X.env := by rfl) (hpl : (backTo pos (starEach es X.env)).any (·.1) = false := by rfl) :
    PE X (.Call (.Name x p) (e :: es) [] pos) (tCall sp [] E0 t) := by
  obtain ⟨f, fd, G, hm, hk, hb⟩ := D.ex
  exact pe_call G hr hg hm hk hb .nil pass0 ha hdb he hpl
theorem pe_callD0 (D : Def X.prog X.w X.K X.mg X.base k x ps sp) (hr : Room k X.A) (hg : Gl X x := by exact rfl) (hdb : (x == ("__debug__" : Str)) = false := by decide) :
    PE X (.Call (.Name x p) [] [] pos) (tCall sp [] E0 tNil) := by
  obtain ⟨f, fd, G, hm, hk, hb⟩ := D.ex
  exact pe_call0 G hr hg hm hk hb .nil pass0 hdb

/-! ### argument lists, their stars seen by the first constructor alone -/
def isStar : Expr → Bool
  | .Starred .. => true
  | _ => false
theorem star_cons {e : Expr} {es : List Expr} {env : Env} (h : isStar e = false) : starEach (e :: es) env = (false, eval e env) :: starEach es env := by
  cases e <;> first | rfl | cases h
def noStars : List Expr → Bool
  | [] => true
  | e :: es => !isStar e && noStars es
theorem stars_any {pos : Pos} {env : Env} : ∀ {es : List Expr}, noStars es = true → (backTo pos (starEach es env)).any (·.1) = false
  | [], _ => rfl
  | e :: es, h => by
    unfold noStars at h
    rw [Bool.and_eq_true, Bool.not_eq_true'] at h
    rw [star_cons h.1]
    exact (show (false || (backTo pos (starEach es env)).any (·.1)) = false by rw [stars_any h.2]; rfl)
theorem stars_all {pos : Pos} {env : Env} : ∀ {es : List Expr}, noStars es = true → (backTo pos (starEach es env)).all (fun x => !x.1) = true
  | [], _ => rfl
  | e :: es, h => by
    unfold noStars at h
    rw [Bool.and_eq_true, Bool.not_eq_true'] at h
    rw [star_cons h.1]
    exact (show (true && (backTo pos (starEach es env)).all (fun x => !x.1)) = true by rw [stars_all h.2]; rfl)
theorem pa (ha : PE X e te) (hr : PA X es t) (h : isStar e = false := by rfl) : PA X (e :: es) (tCons te t) := pa_cons ha hr (star_cons h)
theorem few {cpos : Pos} {env : Env} {es : List Expr} (h : noStars es = true) (hl : decide (es.length + ([] : List Keyword).length + (if ([] : List Keyword).isEmpty then 0 else 1) < 30) = true) :
    ((backTo cpos (starEach es env)).all (fun x => !x.1) && (backToKw cpos (keywordEach [] env)).all (fun x => x.1.isSome)
      && decide (es.length + ([] : List Keyword).length + (if ([] : List Keyword).isEmpty then 0 else 1) < 30)) = true := by
  rw [stars_all h, hl]
  rfl
theorem pm {o e : Expr} {es : List Expr} {to : TE} {t : TA} {name : Str} {apos cpos : Pos} {T id : String} {r : V → List V → Hp → VK → Prop} (pa : PlainAttrs T) (slot : Slot T name id) (hty : typeOf (.builtin id) = pure (.type "method_descriptor")) (hm : MtR X id r) (ho : PE X o to) (ha : PA X (e :: es) t)
    (hbase : attributeBase o name X.env (eval o X.env) = eval o X.env) (hst : noStars (e :: es) = true := by rfl) (hl : decide ((e :: es).length + ([] : List Keyword).length + (if ([] : List Keyword).isEmpty then 0 else 1) < 30) = true := by rfl)
    (hline : (apos.endLine == cpos.line) = true := by rfl) : PE X (.Call (.Attribute o name apos) (e :: es) [] cpos) (tBM X.K T r to t) := by
  have h2 : noStars es = true := by
    unfold noStars at hst
    rw [Bool.and_eq_true] at hst
    exact hst.2
  have h1 : isStar e = false := by
    unfold noStars at hst
    rw [Bool.and_eq_true, Bool.not_eq_true'] at hst
    exact hst.1
  exact pe_bm pa slot hty hm ho ha hbase (few hst hl) hline (star_cons h1) (stars_any h2)
/-- the receiver is no bare call without arguments (super()) -/
def plainBase : Expr → Bool
  | .Call (.Name x _) [] [] _ => x != Str.ofString "super"
  | _ => true
theorem base_of {o : Expr} {name : Str} {env : Env} {w : Sem Value} (h : plainBase o = true) : attributeBase o name env w = w := by
  unfold attributeBase
  split
  · rename_i id _ _
    have h : (id != Str.ofString "super") = true := h
    rw [h]
    rfl
  · rfl
theorem cD {k : Nat} {x : Str} {ps : List Str} {sp : Sp} (D : Def X.prog X.w X.K X.mg X.base k x ps sp) (hr : Room k X.A) (ha : PA X (e :: es) t) (hg : Gl X x := by exact rfl) (hdb : (x == ("__debug__" : Str)) = false := by decide)
    (hst : noStars (e :: es) = true := by rfl) : PE X (.Call (.Name x p) (e :: es) [] pos) (tCall sp [] E0 t) := by
  have h2 : noStars es = true := by
    unfold noStars at hst
    rw [Bool.and_eq_true] at hst
    exact hst.2
  have h1 : isStar e = false := by
    unfold noStars at hst
    rw [Bool.and_eq_true, Bool.not_eq_true'] at hst
    exact hst.1
  exact pe_callD D hr ha hg hdb (star_cons h1) (stars_any h2)
theorem cB {id : String} {r : List V → Hp → VK → Prop} (hc : CallR X (.builtin id) r) (hg : Gl X x) (hm : X.mg x = none) (hv : bootBuiltins x = some (.builtin id)) (ha : PA X (e :: es) t) (hn : x ≠ "__name__" := by decide) (hdb : (x == ("__debug__" : Str)) = false := by decide)
    (hst : noStars (e :: es) = true := by rfl) : PE X (.Call (.Name x p) (e :: es) [] pos) (tCB r t) := by
  have h2 : noStars es = true := by
    unfold noStars at hst
    rw [Bool.and_eq_true] at hst
    exact hst.2
  have h1 : isStar e = false := by
    unfold noStars at hst
    rw [Bool.and_eq_true, Bool.not_eq_true'] at hst
    exact hst.1
  exact pe_callB hc hg hm hv ha hn hdb (star_cons h1) (stars_any h2)
/-! ### isinstance of a written type -/
def rIsT (K : PySem.W.Frag) : List V → Hp → VK → Prop := fun xs H Q => ∃ x t T b, xs = [x, .ty T] ∧ TyOf K H x t ∧ PySem.W.kitOne K t (.type T) = some b ∧ Q (.bl b) H
theorem call_isT : CallR X (.builtin "isinstance") (rIsT X.K) := by
  intro pins s σ H xs us Q I r h
  obtain ⟨x, t, T, b, rfl, ty, e, q⟩ := h
  obtain ⟨u, v, rfl, rx, rv⟩ := r.two
  cases rv
  exact wpAny_with_toks (n := 1) I.tk (isinst_ok I rx ty e fun tk htk => ⟨.bl b, H, I.tok _ htk, rfl, q⟩)
theorem kit_same (K : PySem.W.Frag) (t : Value) : PySem.W.kitOne K t t = some true := by
  unfold PySem.W.kitOne
  rw [if_pos (beq_self_eq_true t)]
theorem pe_globS {x y : Str} {pos : Pos} (h : ∃ t, X.mg x = some (.str y t)) (hg : Gl X x := by exact rfl) (hd : (x == ("__debug__" : Str)) = false := by decide) : PE X (.Name x pos) (tC (.str y)) := by
  obtain ⟨t, e⟩ := h
  exact pe_glob hg e ⟨t, rfl⟩ hd
theorem pe_globI {x : Str} {y : Int} {pos : Pos} (h : ∃ t, X.mg x = some (.int y t)) (hg : Gl X x := by exact rfl) (hd : (x == ("__debug__" : Str)) = false := by decide) : PE X (.Name x pos) (tC (.int y)) := by
  obtain ⟨t, e⟩ := h
  exact pe_glob hg e ⟨t, rfl⟩ hd
end
end L2

set_option Elab.async false
set_option linter.all false
set_option maxRecDepth 100000
/-! The judgements as structures: the elaborator does not look behind them. -/
namespace L2
open PySem PySem.Spec PyProof.Rows
structure XE (X : Cx) (e : Expr) (t : TE) : Prop where
  h : PE X e t
structure XT (X : Cx) (e : Expr) (t : TT) : Prop where
  h : PT X e t
structure XW (X : Cx) (e : Expr) (t : TT) : Prop where
  h : PW X e t
structure XA (X : Cx) (e : List Expr) (t : TA) : Prop where
  h : PA X e t
structure XS (X : Cx) (st : Stmt) (t : TS) : Prop where
  h : PS X st t
structure XB (X : Cx) (st : List Stmt) (t : TS) : Prop where
  h : PSs X st t
structure XG (X : Cx) (e : Expr) (t : TG) : Prop where
  h : PG X e t
structure XGs (X : Cx) (e : List Expr) (t : TGs) : Prop where
  h : PGs X e t
structure XI (X : Cx) (tg it : Expr) (t : TI) : Prop where
  h : PI X tg it t
structure XO (X : Cx) (e : Option Expr) (t : TO) : Prop where
  h : PO X e t
structure XQ (X : Cx) (ifs : List Expr) (t : TT) : Prop where
  h : PTs X ifs t
theorem of_XB {X : Cx} {st : List Stmt} {t : TS} {D : Ends} {σ : St} {H : Hp} (h : XB X st t) (q : t D σ H) : ∃ t, PSs X st t ∧ t D σ H := ⟨t, h.h, q⟩
section
variable {X : Cx} {a b c o e : Expr} {ta tb tc te to : TE} {tA tB' : TT} {es : List Expr} {t : TA} {pos p p2 apos cpos : Pos} {x : Str}
/-! blocks -/
theorem xb0 : XB X [] tNext := ⟨pss_nil⟩
theorem xb1 {st : Stmt} {u : TS} (h : XS X st u) : XB X [st] u := ⟨pss_one h.h⟩
theorem xbc {st : Stmt} {sts : List Stmt} {u v : TS} (h : XS X st u) (r : XB X sts v) : XB X (st :: sts) (tSeq u v) := ⟨pss_cons h.h r.h⟩
theorem xret (h : XE X e te) : XS X (.Return (some e) pos) (tRet te) := ⟨ps_ret h.h⟩
theorem xretN : XS X (.Return none pos) tRetN := ⟨ps_retN⟩
theorem xif {f g : List Stmt} {tf tg : TS} (h : XT X c tA) (h1 : XB X f tf) (h2 : XB X g tg) : XS X (.If c f g pos) (tIfS tA tf tg) := ⟨ps_if h.h h1.h h2.h⟩
theorem xnever {st : Stmt} : XS X st tNever := ⟨ps_never⟩
theorem xexpr (h : XE X e te) (hs : swapsWith e none pos.line X.env = pure false := by rfl) : XS X (.Expr e pos) (tDrop te) := ⟨ps_expr h.h hs⟩
theorem xset {i : Nat} {pos' : Pos} (hN : X.N.Nodup) (hi : X.N[i]? = some x) (hx : Loc X.env.scope x) (he : XE X e te) (hs : swapsWith e (some (.Name x pos')) pos.line X.env = pure false := by rfl) (hf : X.fn x = true ∨ X.env.scope.names.lookup x = some .local := by first | exact .inl rfl | exact .inr rfl) :
    XS X (.Assign [.Name x pos'] e pos) (tAsg te (gName i)) := ⟨ps_set hN hi hx he.h hs hf⟩
theorem xgn {i : Nat} (hN : X.N.Nodup) (hi : X.N[i]? = some x) (hx : Loc X.env.scope x) (hf : X.fn x = true ∨ X.env.scope.names.lookup x = some .local := by first | exact .inl rfl | exact .inr rfl) : XG X (.Name x pos) (gName i) := ⟨pg_name hN hi hx hf⟩
theorem xgs0 : XGs X [] gNil := ⟨pgs_nil⟩
theorem xgsc {tg : TG} {tgs : TGs} (h1 : XG X e tg) (h2 : XGs X es tgs) (hs : (assignEach (e :: es) X.env).map (·.2) = assign e X.env :: (assignEach es X.env).map (·.2) := by rfl) : XGs X (e :: es) (gCons tg tgs) := ⟨pgs_cons h1.h h2.h hs⟩
theorem xgt {k n : Nat} {tgs : TGs} (hc : X.calm = true) (h : XGs X es tgs) (hn : (assignEach es X.env).length = n := by rfl) (hst : (assignEach es X.env).findIdx? (·.1) = none := by rfl) : XG X (.Tuple es k pos) (gTup X.K n tgs) := ⟨pg_tup hc h.h hn hst⟩
theorem xasg {tg : Expr} {g : TG} (he : XE X e te) (hg : XG X tg g) (hs : swapsWithSole [tg] e pos.line X.env = pure false := by rfl) (hw : swappedStores [tg] e X.env = pure none := by rfl)
    (h1 : (assignEach [tg] X.env).map (·.2) = [assign tg X.env] := by rfl) : XS X (.Assign [tg] e pos) (tAsg te g) := ⟨ps_asg he.h hg.h hs hw h1⟩
theorem xfor {tg it : Expr} {body : List Stmt} {wi : TI} {g : TG} {tb : TS} (hp : PassesOwn (model X.prog X.w) X.A X.env X.xe) (hc : X.calm = true) (hi : XI X tg it wi) (hg : XG X tg g) (hb : XB X body tb)
    (hs : ∀ x, foldedSetIterable it X.env x = pure x := by intro _; rfl) : XS X (.For tg it body [] pos) (tFor wi g tb) := ⟨ps_for hp hc hi.h hg.h hb.h hs⟩
theorem xwhile {body : List Stmt} {tb : TS} (hp : PassesOwn (model X.prog X.w) X.A X.env X.xe) (hc : XT X c tA) (hb : XB X body tb) : XS X (.While c body [] pos) (tWhile tA tb) := ⟨ps_while hp hc.h hb.h⟩
theorem xgsub {i : Expr} {ti : TE} {t : TSet} (ho : XE X o to) (hi : XE X i ti) (hs : PSet X t)
    (ha : ∀ v, assign (.Subscript o i pos) X.env v = (do
      let ov ← holding [v] (eval o X.env)
      let iv ← holding [v, ov] (eval i X.env)
      standAt pos
      holding [v, ov, iv] (setItem ov iv v)
      release [v, ov, iv] []) := by intro _; rfl) : XG X (.Subscript o i pos) (gSub to ti t) := ⟨pg_sub ho.h hi.h hs ha⟩
/-! iterators -/
theorem xir1 {tg : Expr} (hg : Gl X "range") (hm : X.mg "range" = none) (ha : XA X [a] t) (h : isStar a = false := by rfl) : XI X tg (.Call (.Name "range" p) [a] [] pos) (iRng1 t) := ⟨pi_range1 hg hm ha.h (star_cons h)⟩
theorem xir2 {tg : Expr} (hg : Gl X "range") (hm : X.mg "range" = none) (ha : XA X [a, b] t) (h : isStar a = false := by rfl) (h2 : isStar b = false := by rfl) : XI X tg (.Call (.Name "range" p) [a, b] [] pos) (iRng2 t) :=
  ⟨pi_range2 hg hm ha.h (by rw [star_cons h, star_cons h2]; rfl) (star_cons h2)⟩
theorem xil {tg l : Expr} {tl : TE} (h : XE X l tl) : XI X tg l (iList X.K tl) := ⟨pi_list h.h⟩
theorem xit {tg l : Expr} {tl : TE} (h : XE X l tl) : XI X tg l (iTup X.K tl) := ⟨pi_tup h.h⟩
theorem xis {l : Expr} {tl : TE} {px : Pos} (h : XE X l tl) : XI X (.Name x px) l (iStr tl) := ⟨pi_str h.h⟩
/-! tests -/
theorem xcmpT {op : CmpOp} {r : R2} (ho : OpR X (compareOp op) r) (ha : XE X a ta) (hb : XE X b tb) (hm : behindInMarks op b = false) : XT X (.Compare a [op] [b] pos) (tTest (tOp r ta tb)) := ⟨pt_cmpR ho ha.h hb.h hm⟩
theorem xchT {op op' : CmpOp} {r r' : R2} (ho : OpR X (compareOp op) r) (ho' : OpR X (compareOp op') r') (ha : XE X a ta) (hb : XE X b tb) (hc : XE X c tc) (hm : lastMarks [op, op'] [b, c] = false := by with_unfolding_all rfl) :
    XT X (.Compare a [op, op'] [b, c] pos) (tTest (tChain r r' ta tb tc)) := ⟨pt_chain ho ho' ha.h hb.h hc.h hm⟩
theorem xnotT (h : XT X a tA) : XT X (.UnaryOp .Not a pos) (tNot tA) := ⟨pt_not h.h⟩
theorem xvalT (h : XE X e te) (he : ∀ whole, isTrue e X.env whole = (do let v ← whole; standAt e.pos; holding [v] (truthy v)) := by intro _; rfl) : XT X e (tB te) := ⟨pt_val h.h he⟩
theorem xand1 (h : XT X a tA) : XW X (.BoolOp .And [a] pos) tA := ⟨pw_and1 h.h⟩
theorem xor1 (h : XT X a tA) : XW X (.BoolOp .Or [a] pos) tA := ⟨pw_or1 h.h⟩
theorem xand {rest : List Expr} (h : XT X a tA) (h2 : XW X (.BoolOp .And (b :: rest) pos) tB') : XW X (.BoolOp .And (a :: b :: rest) pos) (tAnd tA tB') := ⟨pw_and h.h h2.h⟩
theorem xor {rest : List Expr} (h : XT X a tA) (h2 : XW X (.BoolOp .Or (b :: rest) pos) tB') : XW X (.BoolOp .Or (a :: b :: rest) pos) (tOr tA tB') := ⟨pw_or h.h h2.h⟩
theorem XW.xt (h : XW X e tA) : XT X e tA := ⟨h.h.pt⟩
/-! expressions -/
theorem xnon {j : Nat} : XE X (.Constant .none j pos) (tC .non) := ⟨pe_non⟩
theorem xbl {k : Bool} {j : Nat} : XE X (.Constant (.bool k) j pos) (tC (.bl k)) := ⟨pe_bl⟩
theorem xint {i : Int} {j : Nat} : XE X (.Constant (.int i) j pos) (tC (.int i)) := ⟨pe_int⟩
theorem xstr {y : Str} {j : Nat} : XE X (.Constant (.str y) j pos) (tC (.str y)) := ⟨pe_str⟩
theorem xv (i : Nat) (hN : X.N[i]? = some x := by rfl) (hv : Vis X.env.scope x := by first | exact Or.inl rfl | exact Or.inr (Or.inl rfl) | exact Or.inr (Or.inr rfl)) (hd : (x == ("__debug__" : Str)) = false := by decide)
    (hcd : (x == ("__classdict__" : Str)) = false := by decide) : XE X (.Name x pos) (tVar i) := ⟨pv i hN hv hd hcd⟩
theorem xgS {y : Str} (h : ∃ t, X.mg x = some (.str y t)) (hg : Gl X x := by exact rfl) (hd : (x == ("__debug__" : Str)) = false := by decide) : XE X (.Name x pos) (tC (.str y)) := ⟨pe_globS h hg hd⟩
theorem xgI {y : Int} (h : ∃ t, X.mg x = some (.int y t)) (hg : Gl X x := by exact rfl) (hd : (x == ("__debug__" : Str)) = false := by decide) : XE X (.Name x pos) (tC (.int y)) := ⟨pe_globI h hg hd⟩
theorem xty {T : String} (hm : X.mg x = none) (hv : bootBuiltins x = some (.type T)) (hg : Gl X x := by exact rfl) (hn : x ≠ "__name__" := by decide) (hd : (x == ("__debug__" : Str)) = false := by decide) : XE X (.Name x pos) (tC (.ty T)) := ⟨pe_bltn hg hm hv rfl hn hd⟩
theorem xop {op : Operator} {r : R2} (ho : OpR X (binaryOp op) r) (ha : XE X a ta) (hb : XE X b tb) : XE X (.BinOp a op b pos) (tOp r ta tb) := ⟨pe_op ho ha.h hb.h⟩
theorem xun {op : UnaryOp} {r : V → Hp → VK → Prop} (ho : UnR X (unaryOp op) r) (ha : XE X a ta) : XE X (.UnaryOp op a pos) (tUn r ta) := ⟨pe_un ho ha.h⟩
theorem xcmp {op : CmpOp} {r : R2} (ho : OpR X (compareOp op) r) (ha : XE X a ta) (hb : XE X b tb) (hm : behindInMarks op b = false) : XE X (.Compare a [op] [b] pos) (tOp r ta tb) := ⟨pe_cmpR ho ha.h hb.h hm⟩
theorem xch {op op' : CmpOp} {r r' : R2} (ho : OpR X (compareOp op) r) (ho' : OpR X (compareOp op') r') (ha : XE X a ta) (hb : XE X b tb) (hc : XE X c tc) (hm : lastMarks [op, op'] [b, c] = false := by with_unfolding_all rfl) :
    XE X (.Compare a [op, op'] [b, c] pos) (tChain r r' ta tb tc) := ⟨pe_chain ho ho' ha.h hb.h hc.h hm⟩
theorem xone {op} (h : XE X a ta) : XE X (.BoolOp op [a] pos) ta := ⟨pe_one h.h⟩
theorem xandV {rest : List Expr} (h : XE X a ta) (h2 : XE X (.BoolOp .And (b :: rest) pos) tb) : XE X (.BoolOp .And (a :: b :: rest) pos) (tAndV ta tb) := ⟨pe_and h.h h2.h⟩
theorem xorV {rest : List Expr} (h : XE X a ta) (h2 : XE X (.BoolOp .Or (b :: rest) pos) tb) : XE X (.BoolOp .Or (a :: b :: rest) pos) (tOrV ta tb) := ⟨pe_or h.h h2.h⟩
theorem xnot (h : XE X a ta) : XE X (.UnaryOp .Not a pos) (tNotV ta) := ⟨pe_not h.h⟩
theorem xifE (h : XT X c tA) (ha : XE X a ta) (hb : XE X b tb) : XE X (.IfExp c a b pos) (tIf tA ta tb) := ⟨pe_ifExp h.h ha.h hb.h⟩
theorem xo0 : XO X none tNoPart := ⟨po_none⟩
theorem xo1 (h : XE X e te) : XO X (some e) (tPart te) := ⟨po_some h.h⟩
theorem xsl {r : V → Option Int → Option Int → Hp → VK → Prop} {lo hi : Option Expr} {tl th : TO} (hr : SlR X r) (he : XE X e te) (hl : XO X lo tl) (hu : XO X hi th) : XE X (.Subscript e (.Slice lo hi none p2) pos) (tSl r te tl th) := ⟨pe_slice hr he.h hl.h hu.h⟩
theorem xix {r : R2} (hr : IxR X r) (ha : XE X a ta) (hb : XE X b tb) (hs : PlainIx b) : XE X (.Subscript a b pos) (tOp r ta tb) := ⟨pe_ix hr ha.h hb.h hs⟩
theorem xa0 : XA X [] tNil := ⟨pa_nil⟩
theorem xac (ha : XE X e te) (hr : XA X es t) (h : isStar e = false := by rfl) : XA X (e :: es) (tCons te t) := ⟨pa ha.h hr.h h⟩
theorem xlst (h : XA X es t) : XE X (.List es pos) (tLst t) := ⟨pe_lst h.h⟩
theorem xtup {k} (h : XA X es t) : XE X (.Tuple es k pos) (tTup t) := ⟨pe_tup h.h⟩
theorem xcD {k : Nat} {ps : List Str} {sp : Sp} (D : Def X.prog X.w X.K X.mg X.base k x ps sp) (hr : Room k X.A) (ha : XA X (e :: es) t) (hg : Gl X x := by exact rfl) (hdb : (x == ("__debug__" : Str)) = false := by decide) (hst : noStars (e :: es) = true := by rfl) :
    XE X (.Call (.Name x p) (e :: es) [] pos) (tCall sp [] E0 t) := ⟨cD D hr ha.h hg hdb hst⟩
theorem xcD0 {k : Nat} {ps : List Str} {sp : Sp} (D : Def X.prog X.w X.K X.mg X.base k x ps sp) (hr : Room k X.A) (hg : Gl X x := by exact rfl) (hdb : (x == ("__debug__" : Str)) = false := by decide) : XE X (.Call (.Name x p) [] [] pos) (tCall sp [] E0 tNil) := ⟨pe_callD0 D hr hg hdb⟩
theorem xcB {id : String} {r : List V → Hp → VK → Prop} (hc : CallR X (.builtin id) r) (hm : X.mg x = none) (hv : bootBuiltins x = some (.builtin id)) (ha : XA X (e :: es) t) (hg : Gl X x := by exact rfl) (hn : x ≠ "__name__" := by decide) (hdb : (x == ("__debug__" : Str)) = false := by decide)
    (hst : noStars (e :: es) = true := by rfl) : XE X (.Call (.Name x p) (e :: es) [] pos) (tCB r t) := ⟨cB hc hg hm hv ha.h hn hdb hst⟩
theorem xcTy {T : String} {r : List V → Hp → VK → Prop} (hc : CallR X (.type T) r) (hm : X.mg x = none) (hv : bootBuiltins x = some (.type T)) (ha : XA X (e :: es) t) (hg : Gl X x := by exact rfl) (hn : x ≠ "__name__" := by decide) (hdb : (x == ("__debug__" : Str)) = false := by decide)
    (hst : noStars (e :: es) = true := by rfl) : XE X (.Call (.Name x p) (e :: es) [] pos) (tCB r t) := by
  have h1 : isStar e = false := by
    have := hst
    unfold noStars at this
    rw [Bool.and_eq_true, Bool.not_eq_true'] at this
    exact this.1
  have h2 : noStars es = true := by
    have := hst
    unfold noStars at this
    rw [Bool.and_eq_true] at this
    exact this.2
  exact ⟨pe_callTy hc hg hm hv ha.h hn hdb (star_cons h1) (stars_any h2)⟩
theorem xm {name : Str} {T id : String} {r : V → List V → Hp → VK → Prop} (pa : PlainAttrs T) (slot : Slot T name id) (hty : typeOf (.builtin id) = pure (.type "method_descriptor")) (hm : MtR X id r) (ho : XE X o to) (ha : XA X (e :: es) t)
    (hb : plainBase o = true := by rfl) (hst : noStars (e :: es) = true := by rfl) (hl : decide ((e :: es).length + ([] : List Keyword).length + (if ([] : List Keyword).isEmpty then 0 else 1) < 30) = true := by rfl)
    (hline : (apos.endLine == cpos.line) = true := by rfl) : XE X (.Call (.Attribute o name apos) (e :: es) [] cpos) (tBM X.K T r to t) := ⟨pm pa slot hty hm ho.h ha.h (base_of hb) hst hl hline⟩
theorem xm0 {name : Str} {T id : String} {r : V → List V → Hp → VK → Prop} (pa : PlainAttrs T) (slot : Slot T name id) (hty : typeOf (.builtin id) = pure (.type "method_descriptor")) (hm : MtR X id r) (ho : XE X o to)
    (hb : plainBase o = true := by rfl) (hline : (apos.endLine == cpos.line) = true := by rfl) : XE X (.Call (.Attribute o name apos) [] [] cpos) (tBM0 X.K T r to) := ⟨pe_bm0 pa slot hty hm ho.h (base_of hb) hline⟩
theorem xrepl {y z : Str} {jy jz : Nat} {py pz : Pos} (ho : XE X o to) (hyz : (y == z) = false) (hzl : z.length ≤ 14) (hb : plainBase o = true := by rfl) (hline : (apos.endLine == cpos.line) = true := by rfl) :
    XE X (.Call (.Attribute o "replace" apos) [.Constant (.str y) jy py, .Constant (.str z) jz pz] [] cpos) (fun σ H Q => to σ H fun x H1 => ∃ w, x = .str w ∧ w.length ≤ 1000000 ∧ Q (.str (Txt.replace w y z)) H1) := ⟨pe_replace ho.h hyz hzl (base_of hb) hline⟩
/-! comprehensions -/
theorem xq0 : XQ X [] tYes := ⟨pts_nil⟩
theorem xq1 (h : XT X c tA) : XQ X [c] tA := ⟨pts_one h.h⟩
section
variable {scope : Scope} {cl : List (Str × Addr)} {own : List Str} {fr : List Nat} {N' : List Str} {tg iter elt : Expr} {ifs : List Expr} {wi : TI} {g : TG} {tt : TT}
theorem xlc (hc : X.calm = true) (Z : CompN X scope cl own fr N') (hcell : ∀ y ∈ scope.names, y.2 ≠ .cell) (hnames : ∀ x ∈ scope.names, x.2 = .local → scope.names.lookup x.1 = some .local) (hclos : closureFor scope X.env = pure cl)
    (hi : XI X tg iter wi) (hg : ∀ C fp s H, XG (compX X scope cl C N' fp s H) tg g) (ht : ∀ C fp s H, XQ (compX X scope cl C N' fp s H) ifs tt) (he : ∀ C fp s H, XE (compX X scope cl C N' fp s H) elt te)
    (hs : ∀ x, foldedSetIterable iter X.env x = pure x := by intro _; rfl) : XE X (.ListComp elt [⟨tg, iter, ifs, 0⟩] scope pos) (tLC wi own.length fr g tt te) :=
  ⟨pe_lc hc Z hcell hnames hclos hi.h (fun C fp s H => (hg C fp s H).h) (fun C fp s H => (ht C fp s H).h) (fun C fp s H => (he C fp s H).h) hs⟩
theorem xslc {i : Nat} {pos' spos : Pos} (hN : X.N.Nodup) (hix : X.N[i]? = some x) (hx : X.env.scope.names.lookup x = some .local) (hc : X.calm = true) (Z : CompN X scope cl own fr N') (hcell : ∀ y ∈ scope.names, y.2 ≠ .cell)
    (hnames : ∀ x ∈ scope.names, x.2 = .local → scope.names.lookup x.1 = some .local) (hclos : closureFor scope X.env = pure cl)
    (hi : XI X tg iter wi) (hg : ∀ C fp s H, XG (compX X scope cl C N' fp s H) tg g) (ht : ∀ C fp s H, XQ (compX X scope cl C N' fp s H) ifs tt) (he : ∀ C fp s H, XE (compX X scope cl C N' fp s H) elt te)
    (hs : ∀ x, foldedSetIterable iter X.env x = pure x := by intro _; rfl) (hsw : swapsWith (.ListComp elt [⟨tg, iter, ifs, 0⟩] scope pos) (some (.Name x pos')) spos.line X.env = pure true := by rfl) :
    XS X (.Assign [.Name x pos'] (.ListComp elt [⟨tg, iter, ifs, 0⟩] scope pos) spos) (tSetLC i wi own.length fr g tt te) :=
  ⟨ps_setlc hN hix hx hc Z hcell hnames hclos hi.h (fun C fp s H => (hg C fp s H).h) (fun C fp s H => (ht C fp s H).h) (fun C fp s H => (he C fp s H).h) hs hsw⟩
end
end
end L2

set_option Elab.async false
set_option linter.all false
set_option maxRecDepth 100000
/-! enumerate over a list, and a list by steps -/
namespace L2
open PySem PySem.Spec PyProof.Rows
section
variable {X : Cx} {pins : List (Addr × Obj)} {σ : St} {H : Hp} {s : Shared} {h' : Heap}
/-- two records of ours have turned, a new object is laid -/
theorem Inv.turned2 {t' : Nat} {e it T : Addr} {o : HO} (I : Inv X pins σ H s) (k : ∀ b ob, b ≠ e → b ≠ it → s.heap.get? b = some ob → h'.get? b = some ob) (fe : FpOk X pins H e) (fi : FpOk X pins H it) (hT : s.heap.objs.size ≤ T)
    (new : ObjOk X.prog X.w (upd H T o) h' T o) (ht : 0 < t') : Inv X pins σ (upd H T o) { s with heap := h', toks := t' } := by
  have hn : H T = none := I.hok.fresh hT
  have ne1 : ∀ b u, H b = some u → b ≠ e := fun b u q z => by rw [z, fe.1] at q; cases q
  have ne2 : ∀ b u, H b = some u → b ≠ it := fun b u q z => by rw [z, fi.1] at q; cases q
  have kk : ∀ b ob, b ∉ [e, it] → s.heap.get? b = some ob → h'.get? b = some ob := fun b ob hb q => k b ob (fun z => hb (by simp [z])) (fun z => hb (by simp [z])) q
  refine I.step (g' := s.gens) (d' := s.drawn) (ch := [e, it]) (fun b hb => ?_) (fun b ob _ _ hc q _ => kk b ob hc q) (fun b ob _ _ hc q _ => ⟨ob.slots, kk b ob hc q⟩) (fun b ob _ q n => ?_)
    (fun b ob hc q => ⟨ob, kk b ob hc q⟩) (fun b xs q => ?_) (fun b ob u q => ?_) (fun b ps q => ⟨#[], ?_⟩) (fun m hm => ?_) (fun b u q => ?_) I.bare
  · rcases List.mem_cons.mp hb with rfl | hb
    · exact ⟨fe.2.2.2.1, fe.2.1, fe.2.2.2.2.1, fe.2.2.2.2.2⟩
    · have z : b = it := by simpa using hb
      subst z
      exact ⟨fi.2.2.2.1, fi.2.1, fi.2.2.2.2.1, fi.2.2.2.2.2⟩
  · rw [upd_ne (Nat.ne_of_lt (Nat.lt_of_lt_of_le (Heap.lt_size q) hT))]; exact n
  · rw [upd_ne (ne_of_none q hn)]; exact q
  · rw [upd_ne (ne_of_none q hn)]; exact q
  · rw [upd_ne (ne_of_none q hn), q]; simp
  · obtain ⟨ob, es, ep, ho, r⟩ := hm
    exact ⟨ob, es, ep, k _ ob (Ne.symm fe.2.1) (Ne.symm fi.2.1) ho, r⟩
  · by_cases hb : b = T
    · subst hb; rw [upd_same] at q; cases q; exact new
    · rw [upd_ne hb] at q
      refine (I.hok b u q).stay (fun c v hc q2 => ?_) (fun c q2 => by rw [upd_ne (ne_of_none q2 hn)]; exact q2) fun c xs q2 => by rw [upd_ne (ne_of_none q2 hn)]; exact q2
      rcases hc with z | z
      · subst z; exact k _ v (ne1 _ u q) (ne2 _ u q) q2
      · exact k c v (ne1 c _ z) (ne2 c _ z) q2
/-- (0, x), (1, y), .. of the list at a: a new tuple each -/
def Ite (K : PySem.W.Frag) (a : Addr) : It :=
  ⟨fun i H => ∃ xs x, SqL K H a xs ∧ xs[i]? = some x, fun i H x H' => ∃ T y, (∀ xs, SqL K H a xs → xs[i]? = some y) ∧ H T = none ∧ x = .ref T ∧ H' = upd H T (.tup [.int i, y]), fun i H => ∃ xs, SqL K H a xs ∧ xs.length ≤ i⟩
theorem turn_enum {P : Program} {w : World} {K : PySem.W.Frag} {elts : List Expr} {k : Nat} {pos : Pos} (a e it : Addr) (hne : e ≠ it) :
    Turn P w K (.Tuple elts k pos) (Ite K a) [e, it] e (fun i h => (∃ old, IsEnum h e it i old) ∧ h.IsListIter it a i) where
  mem := by simp
  obj := fun i h st b hb => by
    obtain ⟨⟨old, h1⟩, o, h2, h3, h4⟩ := st
    rcases List.mem_cons.mp hb with rfl | hb
    · exact ⟨_, h1, fun v z => by cases z⟩
    · have z : b = it := by simpa using hb
      subst z
      exact ⟨o, h2, fun v z => by rw [h4] at z; cases z⟩
  keep := fun i h h' st kk => by
    obtain ⟨⟨old, h1⟩, o, h2, h3⟩ := st
    exact ⟨⟨old, kk e (by simp) _ h1⟩, o, kk it (by simp) o h2, h3⟩
  item := by
    intro X hP hw hK hc i pins s σ H E I hf st hg
    subst hP hw hK
    obtain ⟨xs, x, hq, hx⟩ := hg
    obtain ⟨its, rv, p, hz⟩ := I.list hq
    obtain ⟨u, hu, ru⟩ := rv.get hx
    obtain ⟨⟨old, h1⟩, h2⟩ := st
    have fe := hf e (by simp)
    have fi := hf it (by simp)
    have hL := p.isList
    have hae : a ≠ e := fun z => by
      obtain ⟨o, q1, q2, _⟩ := hL
      rw [z, h1] at q1
      cases q1
      exact absurd (Value.type.inj q2) (by decide)
    have hai : a ≠ it := fun z => by
      obtain ⟨o, q1, q2, _⟩ := hL
      obtain ⟨o', q3, q4, _⟩ := h2
      rw [z, q3] at q1
      cases q1
      rw [q4] at q2
      exact absurd (Value.type.inj q2) (by decide)
    refine wpAny_pyNext_enum_item h1 h2 hL (x := u) (by simpa using hu) hne fun h' g1 g2 g3 g4 g5 => ⟨_, rfl, ?_⟩
    have hle : e < s.heap.objs.size := Heap.lt_size h1
    obtain ⟨oi, hoi, _⟩ := id h2
    have hli : it < s.heap.objs.size := Heap.lt_size hoi
    have hTe : s.heap.objs.size ≠ e := Nat.ne_of_gt hle
    have hTi : s.heap.objs.size ≠ it := Nat.ne_of_gt hli
    have hL' : h'.IsList a its.toArray := by
      obtain ⟨o, q1, q2, q3⟩ := hL
      exact ⟨o, g5 a o hae hai q1, q2, q3⟩
    refine (WalksT.enumerate (I.ok.hd hc) e it a hne hae hai its.toArray).go elts k pos i s.heap.objs.size _ _ _ ⟨⟨_, g1⟩, g2, hL', hTe, hTi⟩ fun h2 st2 kp => ?_
    have hT : h2.get? s.heap.objs.size = some { cls := .type "tuple", data := .seq #[.int i s.toks, u] } := kp _ _ (by simp [hTe, hTi]) g3
    refine ⟨.ref s.heap.objs.size, upd H s.heap.objs.size (.tup [.int i, x]), ?_, rfl, ⟨s.heap.objs.size, x, fun ys hy => by rw [I.list_inj hy hq]; exact hx, I.hok.fresh (Nat.le_refl _), rfl, rfl⟩, ⟨?_, ?_⟩, ?_⟩
    · refine I.turned2 (t' := s.toks + 1) (fun b ob n1 n2 q => kp b ob (by simp [n1, n2]) (g5 b ob n1 n2 q)) fe fi (Nat.le_refl _) ?_ (Nat.succ_pos _)
      refine ⟨by show 2 ≤ sizeLine; rw [sizeLine_eq]; decide, [.int i s.toks, u], .cons ⟨_, rfl⟩ (.cons ru .nil), ?_⟩
      exact ⟨_, hT, rfl, 0, rfl⟩
    · obtain ⟨old2, q⟩ := st2.1
      exact ⟨old2, by simpa using q⟩
    · exact st2.2.1
    · intro b hb
      rcases List.mem_cons.mp hb with rfl | hb
      · rw [upd_ne (Ne.symm hTe)]; exact fe.1
      · have z : b = it := by simpa using hb
        subst z
        rw [upd_ne (Ne.symm hTi)]; exact fi.1
  done := by
    intro X hP hw hK hc i pins s σ H E I hf st hg
    subst hP hw hK
    obtain ⟨xs, hq, hx⟩ := hg
    obtain ⟨its, rv, p, hz⟩ := I.list hq
    obtain ⟨⟨old, h1⟩, h2⟩ := st
    obtain ⟨f0, f1, f2, f3, f4, f5⟩ := hf it (by simp)
    have hl := rv.length
    exact wpAny_pyNext_enum_end (I.ok.hd hc) h1 h2 p.isList (by simp; omega) fun h' eb => ⟨rfl, I.turned (t' := s.toks) (fun b o hb e => eb b o hb e) f0 f1 f3 f4 f5⟩
  self := fun _ _ _ _ _ st h => by
    obtain ⟨⟨old, h1⟩, _⟩ := st
    exact wpAny_pyIter_enum h1 h
def iEnum (K : PySem.W.Frag) (ta : TA) : TI := fun σ H R => ta σ H fun vs H1 => ∃ a xs, vs = [.ref a] ∧ H1 a = some (.lst xs) ∧ R (Ite K a) H1
theorem pi_enum {l : Expr} {ta : TA} {p pos : Pos} {elts : List Expr} {k : Nat} {pos' : Pos} (hg : Gl X "enumerate") (hm : X.mg "enumerate" = none) (ha : PA X [l] ta) (hs : starEach [l] X.env = [(false, eval l X.env)] := by rfl) :
    PI X (.Tuple elts k pos') (.Call (.Name "enumerate" p) [l] [] pos) (iEnum X.K ta) := by
  intro pins s σ H R I h
  refine Call_ (ld_blt I hg hm boot_enumerate (PyProof.Rows.callWith_type1 (thn (ha pos pins s σ H _ I h) fun us s1 ⟨vs, H1, I1, r1, q1⟩ => ?_) hs rfl))
  obtain ⟨a, xs, e, hq, q⟩ := q1
  subst e
  obtain ⟨u, rfl, ru⟩ := r1.one
  cases ru
  obtain ⟨z, its, n, r, hl, e⟩ := I1.lstM hq
  refine call_enumerate_1 e fun h' g1 g2 g3 g4 => ?_
  have hne : s1.heap.objs.size + 1 ≠ s1.heap.objs.size := by omega
  refine wpAny_pyIter_enum g1 ?_
  refine ⟨s1.heap.objs.size + 1, [s1.heap.objs.size + 1, s1.heap.objs.size], _, _, H1, rfl, I1.kept (t' := s1.toks) g4, turn_enum a _ _ hne, ⟨⟨_, g1⟩, g2⟩, fun b hb => ?_, q⟩
  have hb' : s1.heap.objs.size ≤ b := by
    rcases List.mem_cons.mp hb with rfl | hb
    · omega
    · have z : b = s1.heap.objs.size := by simpa using hb
      exact Nat.le_of_eq z.symm
  exact I1.fpOk hb' (I1.hok.fresh hb')
theorem pick_vals {xs : List V} {its : List Value} (r : Vals xs its) : ∀ ix : List Nat, Vals (ix.filterMap (xs[·]?)) (ix.filterMap (its[·]?))
  | [] => .nil
  | i :: ix => by
    rw [List.filterMap_cons, List.filterMap_cons]
    cases hx : xs[i]? with
    | none =>
      have : its[i]? = none := by
        rw [List.getElem?_eq_none_iff] at hx ⊢
        rw [← r.length]; exact hx
      rw [this]
      exact pick_vals r ix
    | some x =>
      obtain ⟨u, hu, ru⟩ := r.get hx
      rw [hu]
      exact .cons ru (pick_vals r ix)
theorem pick_len {α : Type} (xs : List α) : ∀ ix : List Nat, (ix.filterMap (xs[·]?)).length ≤ ix.length := fun ix => List.length_filterMap_le _ ix
theorem range_rev (n : Nat) : (sliceRange (sliceBounds none none (some (-1)) n).fst (sliceBounds none none (some (-1)) n).snd.fst (sliceBounds none none (some (-1)) n).snd.snd).length ≤ n := by
  unfold sliceRange sliceBounds
  simp only [Option.getD_some, List.length_map, List.length_range]
  have e1 : (if (-1 : Int) > 0 then (0 : Int) else (n : Int) - 1) = (n : Int) - 1 := if_neg (by decide)
  have e2 : (if (-1 : Int) > 0 then (n : Int) else (-1 : Int)) = -1 := if_neg (by decide)
  rw [e1, e2, if_neg (by decide), show (- -1 : Int) = 1 from rfl, Int.ediv_one]
  split <;> omega
/-- xs[::-1]: items of xs, no more than it has -/
def tRev (K : PySem.W.Frag) (te : TE) : TE := fun σ H Q => te σ H fun x H1 => ∃ a xs, x = .ref a ∧ SqL K H1 a xs ∧ ∀ ys : List V, (∀ y ∈ ys, y ∈ xs) → ys.length ≤ xs.length → ∀ p, H1 p = none → Q (.ref p) (upd H1 p (.lst ys))
theorem pe_rev {e : Expr} {te : TE} {j : Nat} {p1 p2 p3 pos : Pos} (he : PE X e te) : PE X (.Subscript e (.Slice none none (some (.UnaryOp .USub (.Constant (.int 1) j p1) p3)) p2) pos) (tRev X.K te) := by
  intro pins s σ H Q I h
  refine Subscript_ (thn (he pins s σ H _ I h) fun v s1 ⟨x, H1, I1, r1, q1⟩ => ?_)
  obtain ⟨a, xs, rfl, hx, q⟩ := q1
  cases r1
  refine wpAny_Slice ?_
  rw [evalPart_none]
  refine wpAny_pure (wpAny_pure ?_)
  rw [evalPart_some]
  refine thn ((pe_un un_neg pe_int (pos := p3)) pins s1 σ H1 (fun y H' => y = .int (-1) ∧ H' = H1) I1 ⟨1, rfl, rfl, rfl⟩) fun st s2 ⟨y, H2, I2, r2, e1, e2⟩ => ?_
  subst e1 e2
  obtain ⟨t, rfl⟩ := r2
  have I4 : Inv X pins σ H2 { s2 with heap := s2.heap.push { cls := .type "slice", data := .fields #[.none, .none, .int (-1) t] } } := I2.kept (t' := s2.toks) fun b ob q => Heap.get?_push_of_some _ q
  obtain ⟨its, r, ht, hz⟩ := I4.list hx
  have hlen := r.length
  show wpAny (model X.prog X.w) X.A (subscriptTail e (.Slice none none (some (.UnaryOp .USub (.Constant (.int 1) j p1) p3)) p2) (.ref a) (.ref s2.heap.objs.size)) (EP X pins σ Q) X.xe { s2 with heap := s2.heap.push { cls := .type "slice", data := .fields #[.none, .none, .int (-1) t] } }
  refine tail_any (ops := [.ref a, .ref s2.heap.objs.size]) ht.isList.typeIs slot_list_getitem.lookup ?_ (by with_unfolding_all rfl)
  refine wpAny_getItem_list_slice ht.isList (Heap.IsSliceOf.new ..) .none .none (.int (-1) t) (by decide) ?_ (by rw [List.size_toArray] <;> omega)
  have hsz : its.toArray.size = xs.length := by rw [List.size_toArray]; omega
  have hr := range_rev xs.length
  have hp := pick_len xs (sliceRange (sliceBounds none none (some (-1)) xs.length).fst (sliceBounds none none (some (-1)) xs.length).snd.fst (sliceBounds none none (some (-1)) xs.length).snd.snd)
  have e : slicePick its.toArray none none (some (-1)) = ((sliceRange (sliceBounds none none (some (-1)) xs.length).fst (sliceBounds none none (some (-1)) xs.length).snd.fst (sliceBounds none none (some (-1)) xs.length).snd.snd).filterMap (its[·]?)).toArray := by
    unfold slicePick
    rw [hsz]
    simp
  rw [e]
  refine ⟨.ref _, _, I4.laid (t' := s2.toks) (o := .lst _) (fun b ob q => Heap.get?_push_of_some _ q) (Nat.le_refl _) ?_, rfl, q _ (fun y hy => ?_) (Nat.le_trans hp hr) _ (I4.hok.fresh (Nat.le_refl _))⟩
  · exact ⟨Nat.le_trans (Nat.le_trans hp hr) hz, _, 0, pick_vals r _, Heap.get?_push_size _ rfl⟩
  · obtain ⟨i, _, hi⟩ := List.mem_filterMap.mp hy
    exact List.mem_of_getElem? hi
end
/-! ### isinstance of several written types -/
inductive Flt (H : Hp) : V → Value → Prop where
  | int (i : Int) : Flt H (.int i) (.type "int")
  | str (x : Str) : Flt H (.str x) (.type "str")
  | lst {a : Addr} {xs : List V} : H a = some (.lst xs) → Flt H (.ref a) (.type "list")
theorem vals_ty : ∀ {Ts : List String} {us : List Value}, Vals (Ts.map V.ty) us → us = Ts.map Value.type
  | [], _, .nil => rfl
  | T :: Ts, _, .cons r t => by
    cases r
    rw [vals_ty t]; rfl
def rIsTs (K : PySem.W.Frag) : List V → Hp → VK → Prop := fun xs H Q => ∃ (x : V) (t : Value) (p : Addr) (Ts : List String) (b : Bool), xs = [x, .ref p] ∧ Flt H x t ∧ H p = some (.tup (Ts.map V.ty)) ∧ PySem.W.kitAny K t (Ts.map Value.type) = some b ∧ Q (.bl b) H
theorem call_isTs {X : Cx} : CallR X (.builtin "isinstance") (rIsTs X.K) := by
  intro pins s σ H xs us Q I r h
  obtain ⟨x, t, p, Ts, b, rfl, ty, hp, e, q⟩ := h
  obtain ⟨u, v, rfl, rx, rv⟩ := r.two
  cases rv
  obtain ⟨hz, its, rt, o, h1, h2, n, h3⟩ := (show ObjOk X.prog X.w H s.heap p (.tup (Ts.map V.ty)) from I.hok p _ hp)
  obtain ⟨oc, od, oda, osl⟩ := o
  cases h2
  have h3 : oda = .seq its.toArray n := h3
  subst h3
  rw [vals_ty rt] at h1
  cases ty with
  | int i =>
    obtain ⟨t, z⟩ := (show ∃ t, u = Value.int i t from rx)
    cases z
    exact wpAny_with_toks (n := 1) I.tk (PySem.W.kia_tup PySem.W.kitx_int I.kIn True.intro h1 e (fun z => nomatch z) fun tk htk => ⟨.bl b, H, I.tok _ htk, rfl, q⟩)
  | str y =>
    obtain ⟨t, z⟩ := (show ∃ t, u = Value.str y t from rx)
    cases z
    exact wpAny_with_toks (n := 1) I.tk (PySem.W.kia_tup PySem.W.kitx_str I.kIn True.intro h1 e (fun z => nomatch z) fun tk htk => ⟨.bl b, H, I.tok _ htk, rfl, q⟩)
  | @lst a xs ea =>
    cases (show u = Value.ref a from rx)
    obtain ⟨_, _, n, _, h4⟩ := (show ObjOk X.prog X.w H s.heap a (.lst xs) from I.hok a _ ea)
    exact wpAny_with_toks (n := 1) I.tk (PySem.W.kia_tup PySem.W.kitx_list I.kIn ⟨_, h4, rfl⟩ h1 e (fun z => nomatch z) fun tk htk => ⟨.bl b, H, I.tok _ htk, rfl, q⟩)
section
variable {X : Cx} {e l : Expr} {te : TE} {t : TA} {pos p p1 p2 p3 : Pos}
theorem xie {elts : List Expr} {k : Nat} {pos' : Pos} (hm : X.mg "enumerate" = none) (ha : XA X [l] t) (hg : Gl X "enumerate" := by exact rfl) (h : isStar l = false := by rfl) : XI X (.Tuple elts k pos') (.Call (.Name "enumerate" p) [l] [] pos) (iEnum X.K t) := ⟨pi_enum hg hm ha.h (star_cons h)⟩
theorem xgtC {scope : Scope} {cl : List (Str × Addr)} {C : Addr} {N' : List Str} {fp : List Addr} {s : Shared} {H : Hp} {es : List Expr} {k n : Nat} {tgs : TGs} (hc : X.calm = true) (h : XGs (compX X scope cl C N' fp s H) es tgs)
    (hn : (assignEach es (compX X scope cl C N' fp s H).env).length = n := by rfl) (hst : (assignEach es (compX X scope cl C N' fp s H).env).findIdx? (·.1) = none := by rfl) : XG (compX X scope cl C N' fp s H) (.Tuple es k pos) (gTup X.K n tgs) := ⟨pg_tup hc h.h hn hst⟩
theorem call_isTC {scope : Scope} {cl : List (Str × Addr)} {C : Addr} {N' : List Str} {fp : List Addr} {s : Shared} {H : Hp} : CallR (compX X scope cl C N' fp s H) (.builtin "isinstance") (rIsT X.K) := call_isT (X := compX X scope cl C N' fp s H)
section
variable {scope : Scope} {cl : List (Str × Addr)} {C : Addr} {N' : List Str} {fp : List Addr} {s : Shared} {H : Hp}
theorem op_neDC (hu : X.A.units + 64 < cLine) : OpR (compX X scope cl C N' fp s H) (compareOp .NotEq) (rEqD X.K false) := op_neD (X := compX X scope cl C N' fp s H) hu
theorem op_eqDC (hu : X.A.units + 64 < cLine) : OpR (compX X scope cl C N' fp s H) (compareOp .Eq) (rEqD X.K true) := op_eqD (X := compX X scope cl C N' fp s H) hu
theorem ix_tupC : IxR (compX X scope cl C N' fp s H) (rIxT X.K) := ix_tup (X := compX X scope cl C N' fp s H)
theorem ix_listC : IxR (compX X scope cl C N' fp s H) (rIxL X.K) := ix_list (X := compX X scope cl C N' fp s H)
end
theorem xrev {j : Nat} (he : XE X e te) : XE X (.Subscript e (.Slice none none (some (.UnaryOp .USub (.Constant (.int 1) j p1) p3)) p2) pos) (tRev X.K te) := ⟨pe_rev he.h⟩
end
end L2

/-! Texts as lists of signs: splitting, words, tidy, cells. -/
namespace Lm
/-- the pieces of l between the signs c -/
def splitC (c : Nat) : List Nat → List (List Nat)
  | [] => [[]]
  | x :: r => if x = c then [] :: splitC c r else
    match splitC c r with
    | h :: t => (x :: h) :: t
    | [] => [[x]]
theorem splitC_ne (c : Nat) : ∀ l : List Nat, splitC c l ≠ []
  | [] => by simp [splitC]
  | x :: r => by
    unfold splitC
    split
    · simp
    · split <;> simp
theorem splitC_cons (c x : Nat) (r : List Nat) (h : x ≠ c) : ∃ p t, splitC c r = p :: t ∧ splitC c (x :: r) = (x :: p) :: t := by
  have e : splitC c (x :: r) = match splitC c r with
      | h :: t => (x :: h) :: t
      | [] => [[x]] := by
    rw [splitC, if_neg h]
  cases q : splitC c r with
  | nil => exact absurd q (splitC_ne c r)
  | cons p t => exact ⟨p, t, rfl, by rw [e, q]⟩
theorem splitC_sep (c : Nat) (r : List Nat) : splitC c (c :: r) = [] :: splitC c r := by rw [splitC, if_pos rfl]
theorem splitC_free (c : Nat) : ∀ l : List Nat, c ∉ l → splitC c l = [l]
  | [], _ => rfl
  | x :: r, h => by
    have hx : x ≠ c := fun e => h (by simp [e])
    have ih := splitC_free c r fun z => h (List.mem_cons_of_mem _ z)
    obtain ⟨p, t, e1, e2⟩ := splitC_cons c x r hx
    rw [ih] at e1
    cases e1
    exact e2
theorem splitC_app (c : Nat) : ∀ (a r : List Nat), c ∉ a → splitC c (a ++ c :: r) = a :: splitC c r
  | [], r, _ => by rw [List.nil_append, splitC_sep]
  | x :: a, r, h => by
    have hx : x ≠ c := fun e => h (by simp [e])
    have ih := splitC_app c a r fun z => h (List.mem_cons_of_mem _ z)
    obtain ⟨p, t, e1, e2⟩ := splitC_cons c x (a ++ c :: r) hx
    rw [ih] at e1
    cases e1
    exact e2
/-- the general step: a piece without c in front is glued to the first piece -/
theorem splitC_pre (c : Nat) : ∀ (a r : List Nat), c ∉ a → ∀ p t, splitC c r = p :: t → splitC c (a ++ r) = (a ++ p) :: t
  | [], r, _, p, t, e => by simpa using e
  | x :: a, r, h, p, t, e => by
    have hx : x ≠ c := fun e => h (by simp [e])
    have ih := splitC_pre c a r (fun z => h (List.mem_cons_of_mem _ z)) p t e
    obtain ⟨p', t', e1, e2⟩ := splitC_cons c x (a ++ r) hx
    rw [ih] at e1
    cases e1
    exact e2
theorem splitC_mem (c : Nat) : ∀ (l : List Nat), ∀ p ∈ splitC c l, c ∉ p
  | [], p, h => by simp [splitC] at h; subst h; simp
  | x :: r, p, h => by
    by_cases hx : x = c
    · subst hx
      rw [splitC_sep] at h
      rcases List.mem_cons.mp h with rfl | h
      · simp
      · exact splitC_mem x r p h
    · obtain ⟨q, t, e1, e2⟩ := splitC_cons c x r hx
      rw [e2] at h
      rcases List.mem_cons.mp h with rfl | h
      · intro z
        rcases List.mem_cons.mp z with z | z
        · exact hx z.symm
        · exact splitC_mem c r q (by rw [e1]; simp) z
      · exact splitC_mem c r p (by rw [e1]; exact List.mem_cons_of_mem _ h)
theorem splitC_len (c : Nat) : ∀ (l : List Nat), (splitC c l).length ≤ l.length + 1
  | [] => by simp [splitC]
  | x :: r => by
    have ih := splitC_len c r
    by_cases hx : x = c
    · subst hx
      rw [splitC_sep]; simp only [List.length_cons]; omega
    · obtain ⟨q, t, e1, e2⟩ := splitC_cons c x r hx
      rw [e2]
      rw [e1] at ih
      simp only [List.length_cons] at ih ⊢
      omega
/-- glue -/
def glueC (g : List Nat) : List (List Nat) → List Nat
  | [] => []
  | [p] => p
  | p :: q :: r => p ++ g ++ glueC g (q :: r)
theorem glueC_cons (g p : List Nat) (r : List (List Nat)) (h : r ≠ []) : glueC g (p :: r) = p ++ g ++ glueC g r := by
  cases r with
  | nil => exact absurd rfl h
  | cons q r => rfl
theorem glue_split (c : Nat) : ∀ l : List Nat, glueC [c] (splitC c l) = l
  | [] => rfl
  | x :: r => by
    have ih := glue_split c r
    by_cases hx : x = c
    · subst hx
      rw [splitC_sep, glueC_cons _ _ _ (splitC_ne x r), ih]; rfl
    · obtain ⟨q, t, e1, e2⟩ := splitC_cons c x r hx
      rw [e2]
      rw [e1] at ih
      cases t with
      | nil =>
        simp only [glueC] at ih ⊢
        rw [ih]
      | cons u t =>
        rw [glueC_cons _ _ _ (by simp)] at ih ⊢
        rw [← ih]; simp
theorem split_glue (c : Nat) : ∀ ps : List (List Nat), ps ≠ [] → (∀ p ∈ ps, c ∉ p) → splitC c (glueC [c] ps) = ps
  | [], h, _ => absurd rfl h
  | [p], _, hp => splitC_free c p (hp p (by simp))
  | p :: q :: r, _, hp => by
    show splitC c (p ++ [c] ++ glueC [c] (q :: r)) = _
    rw [List.append_assoc, List.singleton_append, splitC_app c p _ (hp p (by simp)), split_glue c (q :: r) (by simp) fun z hz => hp z (List.mem_cons_of_mem _ hz)]
/-- words -/
def wordsC (l : List Nat) : List (List Nat) := (splitC 32 l).filter (fun w => w ≠ [])
def tidyC (l : List Nat) : List Nat := glueC [32] (wordsC l)
theorem words_mem {l w : List Nat} (h : w ∈ wordsC l) : w ≠ [] ∧ 32 ∉ w := by
  obtain ⟨h1, h2⟩ := List.mem_filter.mp h
  exact ⟨by simpa using h2, splitC_mem 32 l w h1⟩
theorem words_glue {ws : List (List Nat)} (h : ∀ w ∈ ws, w ≠ [] ∧ 32 ∉ w) : wordsC (glueC [32] ws) = ws := by
  cases ws with
  | nil => simp [glueC, wordsC, splitC]
  | cons w r =>
    unfold wordsC
    rw [split_glue 32 _ (by simp) fun z hz => (h z hz).2]
    exact List.filter_eq_self.mpr fun z hz => by simpa using (h z hz).1
theorem words_tidy (l : List Nat) : wordsC (tidyC l) = wordsC l := words_glue fun _ h => words_mem h
theorem tidy_tidy (l : List Nat) : tidyC (tidyC l) = tidyC l := by unfold tidyC; rw [show glueC [32] (wordsC l) = tidyC l from rfl, words_tidy]; rfl
theorem words_blank (l : List Nat) : wordsC (32 :: l) = wordsC l := by simp [wordsC, splitC_sep]
theorem words_app (a r : List Nat) (ha : 32 ∉ a) (hn : a ≠ []) : wordsC (a ++ 32 :: r) = a :: wordsC r := by
  simp [wordsC, splitC_app 32 a r ha, hn]
theorem words_one (a : List Nat) (ha : 32 ∉ a) (hn : a ≠ []) : wordsC a = [a] := by
  simp [wordsC, splitC_free 32 a ha, hn]
theorem words_nil : wordsC [] = [] := rfl
theorem words_app_blank (l : List Nat) : wordsC (l ++ [32]) = wordsC l := by
  have key : ∀ l : List Nat, splitC 32 (l ++ [32]) = splitC 32 l ++ [[]] := by
    intro l
    induction l with
    | nil => rfl
    | cons x r ih =>
      by_cases hx : x = 32
      · subst hx; rw [List.cons_append, splitC_sep, splitC_sep, ih]; rfl
      · obtain ⟨q, t, e1, e2⟩ := splitC_cons 32 x r hx
        obtain ⟨q', t', e1', e2'⟩ := splitC_cons 32 x (r ++ [32]) hx
        rw [List.cons_append, e2', e2]
        rw [ih, e1] at e1'
        cases e1'
        rfl
  unfold wordsC
  rw [key, List.filter_append]
  simp
end Lm

set_option linter.all false
namespace Lm
open PySem PySem.Builtin PySem.Builtin.Str PySem.StrLaws
abbrev S (l : List Nat) : Str := ⟨l.toArray⟩
theorem S_len (l : List Nat) : (S l).length = l.length := by simp [Str.length]
theorem S_list (l : List Nat) : (S l).cps.toList = l := by simp
theorem S_of (x : Str) : S x.cps.toList = x := by cases x; simp
theorem S_inj {a b : List Nat} (h : S a = S b) : a = b := by
  have := congrArg (fun x : Str => x.cps.toList) h
  simpa using this
theorem S_app (a b : List Nat) : S a ++ S b = S (a ++ b) := by
  show Str.append (S a) (S b) = _
  simp [Str.append]
theorem S_eq_iff (a b : List Nat) : S a = S b ↔ a = b := ⟨S_inj, fun h => by rw [h]⟩
theorem join_S (g : List Nat) : ∀ ps : List Str, (Str.join (S g) ps).cps.toList = glueC g (ps.map fun p => p.cps.toList)
  | [] => rfl
  | [p] => rfl
  | p :: q :: r => by
    show ((p ++ S g ++ Str.join (S g) (q :: r)) : Str).cps.toList = _
    rw [Str.cps_append, Str.cps_append, Array.toList_append, Array.toList_append, join_S g (q :: r)]
    rfl
theorem split_S (c : Nat) (l : List Nat) : Txt.split (S l) (S [c]) = (splitC c l).map S := by
  have h1 := join_split (S l) (S [c])
  have h2 := split_free (S l) c
  have h3 : ∀ ps : List Str, ps = (ps.map fun p => p.cps.toList).map S := fun ps => by
    rw [List.map_map]
    conv => lhs; rw [← List.map_id ps]
    refine List.map_congr_left fun p _ => ?_
    exact (S_of p).symm
  have h4 : glueC [c] ((Txt.split (S l) (S [c])).map fun p => p.cps.toList) = l := by
    have := congrArg (fun x : Str => x.cps.toList) h1
    simp only [S_list] at this
    rw [← join_S]
    exact this
  have ne : (Txt.split (S l) (S [c])).map (fun p => p.cps.toList) ≠ [] := by
    unfold Txt.split
    split
    · simp
    · split
      · simp
      · rw [partsBetween_eq]
        obtain ⟨p, r, e⟩ := partsFrom_ne (S l) (S [c]).length 0 (occurrences (S l) (S [c]) 0 (S l).length ((S l).length + 1))
        rw [e]; simp
  have h5 := split_glue c _ ne (fun p hp => by
    obtain ⟨q, hq, rfl⟩ := List.mem_map.mp hp
    exact h2 q hq)
  rw [h4] at h5
  rw [h5]
  exact h3 _
theorem glued_S (g : List Nat) (ps : List (List Nat)) : glued (S g) (ps.map S) = S (glueC g ps) := by
  have key : ∀ (ps : List (List Nat)) (acc : List Nat), (ps.map S).foldl (fun acc p => acc ++ (S g).cps ++ p.cps) acc.toArray = (acc ++ (ps.map fun p => g ++ p).flatten).toArray := by
    intro ps
    induction ps with
    | nil => intro acc; simp
    | cons p r ih =>
      intro acc
      rw [List.map_cons, List.foldl_cons]
      have e : acc.toArray ++ (S g).cps ++ (S p).cps = (acc ++ g ++ p).toArray := by simp
      rw [e, ih]
      simp
  have gl : ∀ (p : List Nat) (r : List (List Nat)), glueC g (p :: r) = p ++ (r.map fun p => g ++ p).flatten := by
    intro p r
    induction r generalizing p with
    | nil => simp [glueC]
    | cons q r ih => rw [glueC_cons g p (q :: r) (by simp), ih q]; simp
  unfold glued
  cases ps with
  | nil => rfl
  | cons p r =>
    rw [gl]
    show (⟨(List.drop 1 (S p :: r.map S)).foldl _ (S p).cps⟩ : Str) = _
    rw [List.drop_one, List.tail_cons, key]
theorem joinT_S (g : List Nat) (ps : List (List Nat)) : Txt.join (S g) (ps.map S) = S (glueC g ps) := glued_S g ps
/-! ### stripping -/
def rstripL (p : Nat → Bool) (l : List Nat) : List Nat := (l.reverse.dropWhile p).reverse
theorem take_len_sub (l : List Nat) (p : Nat → Bool) : l.take (l.length - (l.reverse.takeWhile p).length) = rstripL p l := by
  unfold rstripL
  have h : l.reverse = l.reverse.takeWhile p ++ l.reverse.dropWhile p := (List.takeWhile_append_dropWhile).symm
  have h2 : l = (l.reverse.dropWhile p).reverse ++ (l.reverse.takeWhile p).reverse := by
    have := congrArg List.reverse h
    rw [List.reverse_reverse, List.reverse_append] at this
    exact this
  conv => lhs; arg 2; rw [h2]
  have e : l.length - (l.reverse.takeWhile p).length = (l.reverse.dropWhile p).reverse.length := by
    have := congrArg List.length h
    rw [List.length_append, List.length_reverse] at this
    rw [List.length_reverse]
    omega
  rw [e, List.take_left]
theorem rstrip_S (l y : List Nat) : Txt.rstripChars (S l) (S y) = S (rstripL y.contains l) := by
  have e : (S y).cps.contains = y.contains := by funext c; simp
  unfold Txt.rstripChars Txt.stripBy
  rw [e]
  have h0 : stripLo y.contains false (S l) = 0 := rfl
  have h1 : stripHi y.contains true (S l) 0 = l.length - (l.reverse.takeWhile y.contains).length := by
    simp [stripHi, Str.length]
  split
  · rename_i h
    rw [stripSame, h0, h1] at h
    simp only [beq_self_eq_true, Bool.true_and, beq_iff_eq, S_len] at h
    rw [← take_len_sub, h, List.take_length]
  · rw [stripped, h0, h1]
    unfold strSub
    rw [← take_len_sub]
    simp
theorem lstrip_S (l y : List Nat) : Txt.lstripChars (S l) (S y) = S (l.dropWhile y.contains) := by
  have e : (S y).cps.contains = y.contains := by funext c; simp
  have hd : l.drop (l.takeWhile y.contains).length = l.dropWhile y.contains := by
    conv => lhs; arg 2; rw [← List.takeWhile_append_dropWhile (p := y.contains) (l := l)]
    rw [List.drop_left]
  unfold Txt.lstripChars Txt.stripBy
  rw [e]
  have h0 : stripLo y.contains true (S l) = (l.takeWhile y.contains).length := by simp [stripLo]
  have h1 : ∀ k, stripHi y.contains false (S l) k = l.length := fun k => by simp [stripHi, Str.length]
  split
  · rename_i h
    rw [stripSame, h0, h1] at h
    simp only [Bool.and_eq_true, beq_iff_eq] at h
    rw [← hd, h.1, List.drop_zero]
  · rw [stripped, h0, h1]
    unfold strSub
    rw [← hd]
    simp only [List.extract_toArray, List.extract_eq_take_drop]
    rw [List.take_of_length_le (by rw [List.length_drop]; exact Nat.le_refl _)]
/-! ### occurrences -/
theorem subAt_S (l y : List Nat) (i : Nat) : subAt (S l) (S y) i = decide ((l.drop i).take y.length = y) := by
  unfold subAt
  rw [Bool.eq_iff_iff]
  simp only [beq_iff_eq, decide_eq_true_eq]
  rw [← Array.toList_inj]
  simp [S_len]
theorem At_S (l y : List Nat) (i : Nat) : At (S l) (S y) (S l).length i ↔ i + y.length ≤ l.length ∧ (l.drop i).take y.length = y := by
  unfold At
  rw [subAt_S, S_len, S_len]
  simp
theorem starts_S (l y : List Nat) : Txt.startswith (S l) (S y) = y.isPrefixOf l := by
  unfold Txt.startswith
  rw [subAt_S, S_len, S_len, Bool.eq_iff_iff]
  simp only [Nat.zero_add, List.drop_zero, Bool.and_eq_true, decide_eq_true_eq, List.isPrefixOf_iff_prefix]
  constructor
  · rintro ⟨_, h⟩
    exact ⟨l.drop y.length, by conv => lhs; arg 1; rw [← h]
                               exact List.take_append_drop _ _⟩
  · rintro ⟨t, rfl⟩
    simp
theorem lower_S (l : List Nat) (h : ∀ c ∈ l, c < 128) : Txt.lower (S l) = S (l.map PyProof.Rows.lo1) := by
  rw [PyProof.Rows.lower_ascii (by simpa using h)]
  simp
/-- the first place of y in l, or none -/
def findL (y : List Nat) : List Nat → Option Nat
  | [] => if y = [] then some 0 else none
  | x :: r => if y.isPrefixOf (x :: r) then some 0 else (findL y r).map (· + 1)
theorem pre_iff (l y : List Nat) (i : Nat) : (i + y.length ≤ l.length ∧ (l.drop i).take y.length = y) ↔ i ≤ l.length ∧ y <+: l.drop i := by
  constructor
  · rintro ⟨h1, h2⟩
    exact ⟨by omega, List.prefix_iff_eq_take.mpr h2.symm⟩
  · rintro ⟨h1, h2⟩
    have := List.prefix_iff_eq_take.mp h2
    have hl := h2.length_le
    rw [List.length_drop] at hl
    exact ⟨by omega, this.symm⟩
theorem findL_none (y : List Nat) : ∀ l : List Nat, findL y l = none ↔ ∀ i, ¬ (i ≤ l.length ∧ y <+: l.drop i)
  | [] => by
    unfold findL
    split
    · rename_i h; subst h
      simp only [reduceCtorEq, false_iff]
      intro h
      exact h 0 ⟨Nat.le_refl _, by simp⟩
    · rename_i h
      simp only [true_iff]
      rintro i ⟨_, hp⟩
      simp at hp
      exact h hp
  | x :: r => by
    unfold findL
    split
    · rename_i h
      simp only [reduceCtorEq, false_iff]
      intro q
      exact q 0 ⟨Nat.zero_le _, by simpa using List.isPrefixOf_iff_prefix.mp h⟩
    · rename_i h
      rw [Option.map_eq_none_iff, findL_none y r]
      constructor
      · intro q i
        cases i with
        | zero =>
          rintro ⟨_, hp⟩
          exact h (List.isPrefixOf_iff_prefix.mpr (by simpa using hp))
        | succ i =>
          rintro ⟨h1, hp⟩
          exact q i ⟨by simpa using h1, by simpa using hp⟩
      · rintro q i ⟨h1, hp⟩
        exact q (i + 1) ⟨by simpa using h1, by simpa using hp⟩
theorem findL_some (y : List Nat) : ∀ (l : List Nat) (i : Nat), findL y l = some i ↔ (i ≤ l.length ∧ y <+: l.drop i) ∧ ∀ k, k < i → ¬ (k ≤ l.length ∧ y <+: l.drop k)
  | [], i => by
    unfold findL
    split
    · rename_i h; subst h
      simp only [Option.some.injEq, List.length_nil, Nat.le_zero_eq, List.nil_prefix, and_true]
      constructor
      · rintro rfl; exact ⟨rfl, fun k hk => by omega⟩
      · rintro ⟨h, _⟩; exact h.symm
    · rename_i h
      simp only [reduceCtorEq, false_iff]
      rintro ⟨⟨_, hp⟩, _⟩
      simp at hp
      exact h hp
  | x :: r, i => by
    unfold findL
    split
    · rename_i h
      have h0 := List.isPrefixOf_iff_prefix.mp h
      simp only [Option.some.injEq]
      constructor
      · rintro rfl; exact ⟨⟨Nat.zero_le _, by simpa using h0⟩, fun k hk => by omega⟩
      · rintro ⟨_, hn⟩
        cases i with
        | zero => rfl
        | succ i => exact absurd ⟨Nat.zero_le _, by simpa using h0⟩ (hn 0 (by omega))
    · rename_i h
      have h0 : ¬ y <+: x :: r := fun q => h (List.isPrefixOf_iff_prefix.mpr q)
      rw [Option.map_eq_some_iff]
      constructor
      · rintro ⟨j, hj, rfl⟩
        obtain ⟨⟨h1, h2⟩, h3⟩ := (findL_some y r j).mp hj
        refine ⟨⟨by simpa using h1, by simpa using h2⟩, fun k hk => ?_⟩
        cases k with
        | zero => rintro ⟨_, hp⟩; exact h0 (by simpa using hp)
        | succ k => rintro ⟨q1, q2⟩; exact h3 k (by omega) ⟨by simpa using q1, by simpa using q2⟩
      · rintro ⟨⟨h1, h2⟩, h3⟩
        cases i with
        | zero => exact absurd (by simpa using h2) h0
        | succ i => exact ⟨i, (findL_some y r i).mpr ⟨⟨by simpa using h1, by simpa using h2⟩, fun k hk q => h3 (k + 1) (by omega) ⟨by simpa using q.1, by simpa using q.2⟩⟩, rfl⟩
theorem find_S (l y : List Nat) : Txt.find (S l) (S y) = match findL y l with | some i => (i : Int) | none => -1 := by
  rcases PyProof.Rows.find_whole (S l) (S y) with ⟨e, hn⟩ | ⟨i, e, hi, hn⟩
  · rw [e, (findL_none y l).mpr fun i q => hn i ((At_S l y i).mpr ((pre_iff l y i).mpr q))]
  · rw [e, (findL_some y l i).mpr ⟨(pre_iff l y i).mp ((At_S l y i).mp hi), fun k hk q => hn k hk ((At_S l y k).mpr ((pre_iff l y k).mpr q))⟩]
theorem contains_S (l : List Nat) (c : Nat) : (!(occurrences (S l) (S [c]) 0 (S l).length 1).isEmpty) = l.contains c := by
  rw [found_one, Bool.eq_iff_iff]
  simp

/-! ### replace -/
theorem replace_eq (x y z : Str) : Txt.replace x y z = glued z (partsBetween x (occurrences x y 0 x.length (x.length + 1)) y.length) := by
  unfold Txt.replace
  split
  · rename_i h
    rcases Bool.or_eq_true_iff.mp h with h | h
    · rw [List.isEmpty_iff.mp h]
      have e : partsBetween x [] y.length = [x] := by
        rw [partsBetween_eq]; show [strSub x 0 x.length] = [x]; rw [sub_whole]
      rw [e]; rfl
    · simp only [Bool.and_eq_true, beq_iff_eq] at h
      have e : z = y := by
        obtain ⟨a⟩ := y; obtain ⟨b⟩ := z
        simp only [Str.length, Array.size_eq_zero_iff] at h; rw [h.1, h.2]
      rw [e, glued_between_self]
  · rfl
theorem cuts_one (c : Nat) (l : List Nat) : partsBetween (S l) (occurrences (S l) (S [c]) 0 (S l).length ((S l).length + 1)) (S [c]).length = (splitC c l).map S := by
  have h := split_S c l
  unfold Txt.split at h
  split at h
  · rename_i hk
    have no : occurrences (S l) (S [c]) 0 (S l).length ((S l).length + 1) = [] := by
      have hc : c ∉ l := by
        rw [Bool.or_eq_true, decide_eq_true_eq, decide_eq_true_eq] at hk
        rcases hk with hk | hk
        · rw [S_len, S_len] at hk
          have : l = [] := by cases l; rfl; simp at hk
          subst this; simp
        · have := kind_free (S l) c hk
          simpa using this
      cases q : occurrences (S l) (S [c]) 0 (S l).length ((S l).length + 1) with
      | nil => rfl
      | cons i r =>
        obtain ⟨f, hG, _⟩ := occ_tight (S l) (S [c]) (Nat.le_refl 1)
        rw [q] at hG
        have := (subAt_one (S l) c i).mp hG.2.1
        rw [S_list] at this
        exact absurd (List.mem_of_getElem? this) hc
    rw [no, partsBetween_eq]
    show [strSub (S l) 0 (S l).length] = _
    rw [sub_whole]
    exact h
  · split at h
    · rename_i he
      rw [List.isEmpty_iff.mp he, partsBetween_eq]
      show [strSub (S l) 0 (S l).length] = _
      rw [sub_whole]
      exact h
    · exact h
theorem replace_one (c : Nat) (z l : List Nat) : Txt.replace (S l) (S [c]) (S z) = S (glueC z (splitC c l)) := by
  rw [replace_eq, cuts_one, glued_S]
/-- without the backslashes that stand right ahead of a bar -/
def unesc : List Nat → List Nat
  | [] => []
  | [x] => [x]
  | x :: y :: r => if x = 92 ∧ y = 124 then unesc (y :: r) else x :: unesc (y :: r)
theorem unesc_pre : ∀ (p : List Nat) (r : List Nat), (∀ k, ¬ [92, 124] <+: p.drop k) → (∀ t, r ≠ 124 :: t) → unesc (p ++ r) = p ++ unesc r
  | [], r, _, _ => rfl
  | [x], r, h, hr => by
    cases r with
    | nil => rfl
    | cons y t =>
      show unesc (x :: y :: t) = x :: unesc (y :: t)
      rw [unesc, if_neg]
      rintro ⟨_, rfl⟩
      exact hr t rfl
  | x :: y :: p, r, h, hr => by
    have ih := unesc_pre (y :: p) r (fun k => by simpa using h (k + 1)) hr
    show unesc (x :: y :: (p ++ r)) = _
    rw [unesc, if_neg]
    · show x :: unesc ((y :: p) ++ r) = _
      rw [ih]; rfl
    · rintro ⟨rfl, rfl⟩
      exact h 0 ⟨p, rfl⟩
theorem unesc_bar (r : List Nat) : unesc (124 :: r) = 124 :: unesc r := by
  cases r with
  | nil => rfl
  | cons y t =>
    rw [unesc, if_neg]
    rintro ⟨h, _⟩
    cases h
theorem unesc_glue : ∀ ps : List (List Nat), (∀ p ∈ ps, ∀ k, ¬ [92, 124] <+: p.drop k) → unesc (glueC [92, 124] ps) = glueC [124] ps
  | [], _ => rfl
  | [p], h => by
    have := unesc_pre p [] (h p (by simp)) (by simp)
    simpa [glueC, unesc] using this
  | p :: q :: r, h => by
    have ih := unesc_glue (q :: r) fun z hz => h z (List.mem_cons_of_mem _ hz)
    show unesc (p ++ [92, 124] ++ glueC [92, 124] (q :: r)) = p ++ [124] ++ glueC [124] (q :: r)
    rw [List.append_assoc, unesc_pre p _ (h p (by simp)) (by intro t e; cases e)]
    show p ++ unesc (92 :: 124 :: glueC [92, 124] (q :: r)) = _
    rw [unesc, if_pos ⟨rfl, rfl⟩, unesc_bar, ih]
    simp
theorem parts_two (x : Str) : ∀ (cuts : List Nat) (a f : Nat), ChainG x (S [92, 124]) x.length a cuts f → (∀ k, f ≤ k → ¬ At x (S [92, 124]) x.length k) → a ≤ x.length →
    ∀ p ∈ partsFrom x 2 a cuts, ∀ k, ¬ [92, 124] <+: p.cps.toList.drop k := by
  have part : ∀ (a b : Nat), b ≤ x.length → (∀ k, a ≤ k → k < b → ¬ At x (S [92, 124]) x.length k) → ∀ k, ¬ [92, 124] <+: (strSub x a b).cps.toList.drop k := by
    intro a b hb hn k hp
    rw [strSub_toList] at hp
    have hl := hp.length_le
    rw [List.length_drop, List.length_take, List.length_drop] at hl
    have hx : x.cps.toList.length = x.length := by simp [Str.length]
    have hl' : [92, 124].length = 2 := rfl
    rw [hl'] at hl
    refine hn (a + k) (by omega) (by omega) ?_
    have hx2 : x = S x.cps.toList := (S_of x).symm
    rw [hx2, At_S, pre_iff]
    refine ⟨by omega, ?_⟩
    rw [List.drop_take] at hp
    have := hp.trans (List.take_prefix _ _)
    rwa [List.drop_drop] at this
  intro cuts
  induction cuts with
  | nil =>
    intro a f h hn ha p hp
    have e : f = a := h
    subst e
    rw [List.mem_singleton.mp hp]
    exact part f x.length (Nat.le_refl _) fun k h1 _ => hn k h1
  | cons d r ih =>
    intro a f h hn ha p hp
    rcases List.mem_cons.mp hp with rfl | hp'
    · exact part a d (by have := h.2.1.1; omega) h.2.2.1
    · refine ih (d + 2) f h.2.2.2 hn ?_ p hp'
      have := h.2.1.1
      have e : (S [92, 124]).length = 2 := rfl
      omega
theorem replace_unesc (l : List Nat) : Txt.replace (S l) (S [92, 124]) (S [124]) = S (unesc l) := by
  obtain ⟨f, hG, hn⟩ := occ_tight (S l) (S [92, 124]) (by decide)
  have hp := parts_two (S l) _ 0 f hG hn (Nat.zero_le _)
  have hg := glued_between_self (S l) (S [92, 124]) ((S l).length + 1)
  rw [replace_eq]
  rw [partsBetween_eq] at hg ⊢
  have e2 : (S [92, 124]).length = 2 := rfl
  rw [e2] at hg ⊢
  generalize partsFrom (S l) 2 0 (occurrences (S l) (S [92, 124]) 0 (S l).length ((S l).length + 1)) = ps at hp hg ⊢
  have eS : ps = (ps.map fun p => p.cps.toList).map S := by
    rw [List.map_map]
    conv => lhs; rw [← List.map_id ps]
    exact List.map_congr_left fun p _ => (S_of p).symm
  rw [eS, glued_S] at hg ⊢
  have hl := S_inj hg
  rw [← hl, unesc_glue]
  intro p hp' k
  obtain ⟨q, hq, rfl⟩ := List.mem_map.mp hp'
  exact hp q hq k
/-! ### slices -/
def clipL (n : Nat) (d : Nat) : Option Int → Nat
  | none => d
  | some i => (max 0 (min (if i < 0 then i + n else i) n)).toNat
def cutL (l : List Nat) (lo hi : Option Int) : List Nat := (l.drop (clipL l.length 0 lo)).take (clipL l.length l.length hi - clipL l.length 0 lo)
theorem filterMap_range (l : List Nat) : ∀ (n a : Nat), a + n ≤ l.length → ((List.range n).map fun (k : Nat) => a + k).filterMap (l[·]?) = (l.drop a).take n := by
  intro n
  induction n with
  | zero => intro a _; simp
  | succ n ih =>
    intro a h
    rw [List.range_succ, List.map_append, List.filterMap_append, ih a (by omega), List.take_add_one]
    have : a + n < l.length := by omega
    simp [List.getElem?_drop, this]
theorem slice_S (l : List Nat) (lo hi : Option Int) : Txt.slice (S l) lo hi = S (cutL l lo hi) := by
  have key : ∃ (a b : Nat), a = clipL l.length 0 lo ∧ b = clipL l.length l.length hi ∧ a ≤ l.length ∧ b ≤ l.length ∧ strSliceIndices lo hi 1 l.length = (List.range (b - a)).map fun (k : Nat) => a + k := by
    refine ⟨_, _, rfl, rfl, ?_, ?_, ?_⟩
    · cases lo <;> simp only [clipL] <;> omega
    · cases hi <;> simp only [clipL] <;> omega
    · unfold strSliceIndices sliceRange
      have e1 : (1 : Int) > 0 := by decide
      simp only [e1, if_true]
      cases lo <;> cases hi <;> simp only [clipL] <;> (refine congr (congrArg List.map ?_) (congrArg List.range ?_)) <;> first | (funext k; omega) | (split <;> omega) | (split <;> (try split) <;> omega)
  obtain ⟨a, b, ea, eb, ha, hb, e⟩ := key
  unfold Txt.slice cutL
  rw [S_len, e, ← ea, ← eb]
  simp only [List.length_map, List.length_range]
  split
  · rename_i h
    simp only [beq_self_eq_true, Bool.true_and, beq_iff_eq] at h
    have h1 : a = 0 := by omega
    have h2 : b = l.length := by omega
    rw [h1, h2]
    simp
  · rename_i h
    congr 1
    have q := filterMap_range l (b - a) a (by omega)
    rw [← q]
    congr 2
    funext i
    simp
end Lm

set_option linter.all false
namespace Lm
/-! ### the texts between bars -/
def consH (x : Nat) : List (List Nat) → List (List Nat)
  | h :: t => (x :: h) :: t
  | [] => [[x]]
def cellsAux : Nat → List Nat → List (List Nat)
  | _, [] => [[]]
  | prev, x :: r => if x = 124 ∧ prev ≠ 92 then [] :: cellsAux x r else consH x (cellsAux x r)
def rawCells (l : List Nat) : List (List Nat) := cellsAux 0 l
theorem cellsAux_ne : ∀ (l : List Nat) (p : Nat), cellsAux p l ≠ []
  | [], _ => by simp [cellsAux]
  | x :: r, p => by
    unfold cellsAux
    split
    · simp
    · cases h : cellsAux x r <;> simp [consH]
/-- is a parting bar at place i -/
def isBar (l : List Nat) (i : Nat) : Bool := l[i]? == some 124 && (i == 0 || l[i - 1]? != some 92)
def barsFrom : Nat → Nat → List Nat → List Nat
  | _, _, [] => []
  | prev, k, x :: r => if x = 124 ∧ prev ≠ 92 then k :: barsFrom x (k + 1) r else barsFrom x (k + 1) r
theorem isBar_at (pre r : List Nat) (x : Nat) : isBar (pre ++ x :: r) pre.length = decide (x = 124 ∧ pre.getLastD 0 ≠ 92) := by
  unfold isBar
  have e1 : (pre ++ x :: r)[pre.length]? = some x := by simp
  rw [e1]
  rcases List.eq_nil_or_concat pre with rfl | ⟨p, y, rfl⟩
  · rw [Bool.eq_iff_iff]; simp
  · have e2 : (p.concat y ++ x :: r)[(p.concat y).length - 1]? = some y := by
      rw [List.concat_eq_append, List.append_assoc]
      simp
    rw [e2, Bool.eq_iff_iff]
    simp
theorem filter_bars : ∀ (suf pre : List Nat), ((List.range' pre.length suf.length).filter (isBar (pre ++ suf))) = barsFrom (pre.getLastD 0) pre.length suf
  | [], pre => rfl
  | x :: r, pre => by
    have ih := filter_bars r (pre ++ [x])
    rw [List.length_append, List.append_assoc] at ih
    simp only [List.length_cons, List.length_nil, Nat.zero_add, List.singleton_append] at ih
    rw [List.length_cons, List.range'_succ, List.filter_cons, isBar_at, barsFrom]
    have e : (pre ++ [x]).getLastD 0 = x := by simp
    rw [e] at ih
    by_cases h : x = 124 ∧ pre.getLastD 0 ≠ 92
    · rw [if_pos h]
      simp only [h, and_self, decide_true, if_true, ne_eq, not_false_eq_true]
      have e124 := h.1
      subst e124
      rw [ih]
    · rw [if_neg h, if_neg (by simpa using h), ih]
theorem filter_bars0 (l : List Nat) : (List.range l.length).filter (isBar l) = barsFrom 0 0 l := by
  have := filter_bars l []
  simpa [List.range_eq_range'] using this
/-- the pieces, from begin on, cut at the places -/
def partsAt (l : List Nat) : Nat → List Nat → List (List Nat)
  | _, [] => []
  | b, p :: r => (l.drop b).take (p - b) :: partsAt l (p + 1) r
theorem parts_bars : ∀ (suf pre : List Nat) (b : Nat), b ≤ pre.length →
    ∃ h t, cellsAux (pre.getLastD 0) suf = h :: t ∧ partsAt (pre ++ suf) b (barsFrom (pre.getLastD 0) pre.length suf ++ [(pre ++ suf).length]) = (pre.drop b ++ h) :: t
  | [], pre, b, hb => by
    refine ⟨[], [], rfl, ?_⟩
    show [((pre ++ []).drop b).take ((pre ++ []).length - b)] = _
    rw [List.append_nil, List.append_nil, List.take_of_length_le (by rw [List.length_drop]; exact Nat.le_refl _)]
  | x :: r, pre, b, hb => by
    have e : (pre ++ [x]).getLastD 0 = x := by simp
    have el : (pre ++ [x]).length = pre.length + 1 := by simp
    have ea : (pre ++ [x]) ++ r = pre ++ x :: r := by simp
    rw [cellsAux, barsFrom]
    by_cases h : x = 124 ∧ pre.getLastD 0 ≠ 92
    · obtain ⟨h1, t1, q1, q2⟩ := parts_bars r (pre ++ [x]) (pre.length + 1) (by rw [el]; exact Nat.le_refl _)
      rw [e] at q1 q2
      rw [el, ea] at q2
      rw [if_pos h, if_pos h]
      refine ⟨[], cellsAux x r, rfl, ?_⟩
      rw [List.cons_append, partsAt, q2, q1]
      have d : (pre ++ [x]).drop (pre.length + 1) = [] := by rw [← el]; exact List.drop_length
      rw [d, List.nil_append, List.append_nil, List.drop_append_of_le_length hb, List.take_append_of_le_length (by rw [List.length_drop]; exact Nat.le_refl _), List.take_of_length_le (by rw [List.length_drop]; exact Nat.le_refl _)]
    · obtain ⟨h1, t1, q1, q2⟩ := parts_bars r (pre ++ [x]) b (by rw [el]; omega)
      rw [e] at q1 q2
      rw [el, ea] at q2
      rw [if_neg h, if_neg h, q1]
      refine ⟨x :: h1, t1, rfl, ?_⟩
      rw [q2, List.drop_append_of_le_length hb]
      simp
theorem parts_cells (l : List Nat) : partsAt l 0 ((List.range l.length).filter (isBar l) ++ [l.length]) = rawCells l := by
  obtain ⟨h, t, q1, q2⟩ := parts_bars l [] 0 (Nat.le_refl _)
  rw [filter_bars0]
  have q2' : partsAt l 0 (barsFrom 0 0 l ++ [l.length]) = h :: t := by simpa using q2
  rw [q2']
  exact q1.symm
/-! ### one more sign -/
def addLast (x : Nat) (ps : List (List Nat)) : List (List Nat) := ps.dropLast ++ [ps.getLastD [] ++ [x]]
theorem consH_snoc (x : Nat) (ps : List (List Nat)) (h : ps ≠ []) : consH x (ps ++ [[]]) = consH x ps ++ [[]] := by
  cases ps with
  | nil => exact absurd rfl h
  | cons p r => rfl
theorem consH_addLast (x y : Nat) (ps : List (List Nat)) (h : ps ≠ []) : consH x (addLast y ps) = addLast y (consH x ps) := by
  cases ps with
  | nil => exact absurd rfl h
  | cons p r =>
    cases r with
    | nil => simp [addLast, consH]
    | cons q r => simp [addLast, consH]
theorem cellsAux_snoc : ∀ (l : List Nat) (p x : Nat), cellsAux p (l ++ [x]) = if x = 124 ∧ (p :: l).getLastD 0 ≠ 92 then cellsAux p l ++ [[]] else addLast x (cellsAux p l)
  | [], p, x => by
    show (if x = 124 ∧ p ≠ 92 then [] :: cellsAux x [] else consH x (cellsAux x [])) = _
    by_cases h : x = 124 ∧ p ≠ 92
    · rw [if_pos h, if_pos (by simpa using h)]; rfl
    · rw [if_neg h, if_neg (by simpa using h)]; rfl
  | y :: l, p, x => by
    have ih := cellsAux_snoc l y x
    rw [List.cons_append, cellsAux, ih, cellsAux]
    have e : (p :: y :: l).getLastD 0 = (y :: l).getLastD 0 := by simp
    rw [e]
    by_cases h1 : y = 124 ∧ p ≠ 92
    · rw [if_pos h1, if_pos h1]
      by_cases h2 : x = 124 ∧ (y :: l).getLastD 0 ≠ 92
      · rw [if_pos h2, if_pos h2]; rfl
      · rw [if_neg h2, if_neg h2]
        have := cellsAux_ne l y
        cases q : cellsAux y l with
        | nil => exact absurd q this
        | cons a b => simp [addLast]
    · rw [if_neg h1, if_neg h1]
      by_cases h2 : x = 124 ∧ (y :: l).getLastD 0 ≠ 92
      · rw [if_pos h2, if_pos h2, consH_snoc _ _ (cellsAux_ne l y)]
      · rw [if_neg h2, if_neg h2, consH_addLast _ _ _ (cellsAux_ne l y)]
theorem rawCells_snoc (l : List Nat) (x : Nat) : rawCells (l ++ [x]) = if x = 124 ∧ l.getLastD 0 ≠ 92 then rawCells l ++ [[]] else addLast x (rawCells l) := by
  have h := cellsAux_snoc l 0 x
  have e : (0 :: l).getLastD 0 = l.getLastD 0 := by cases l <;> simp
  rw [e] at h
  exact h
/-- the last piece ends as the text does, where that is no parting bar -/
theorem last_piece : ∀ (l : List Nat), l.getLastD 0 ≠ 124 → ((rawCells l).getLastD []).getLastD 0 = l.getLastD 0 := by
  intro l h
  rcases List.eq_nil_or_concat l with rfl | ⟨p, y, rfl⟩
  · rfl
  · rw [List.concat_eq_append] at h ⊢
    have hy : y ≠ 124 := by simpa using h
    rw [rawCells_snoc, if_neg (fun q => hy q.1)]
    simp [addLast]
theorem rawCells_ne (l : List Nat) : rawCells l ≠ [] := cellsAux_ne l 0
/-! ### bars with a backslash -/
theorem unesc_snoc : ∀ (c : List Nat) (x : Nat), unesc (c ++ [x]) = if x = 124 ∧ c.getLastD 0 = 92 then (unesc c).dropLast ++ [124] else unesc c ++ [x]
  | [], x => by simp [unesc]
  | [y], x => by
    show (if y = 92 ∧ x = 124 then unesc [x] else y :: unesc [x]) = _
    by_cases h : y = 92 ∧ x = 124
    · rw [if_pos h, if_pos (by simpa using ⟨h.2, h.1⟩)]; simp [unesc, h.2]
    · rw [if_neg h, if_neg (by simpa using fun a b => h ⟨b, a⟩)]; simp [unesc]
  | y :: z :: c, x => by
    have ih := unesc_snoc (z :: c) x
    have e : (y :: z :: c).getLastD 0 = (z :: c).getLastD 0 := by simp
    rw [e]
    show unesc (y :: z :: (c ++ [x])) = _
    rw [unesc, unesc]
    have ih' : unesc (z :: (c ++ [x])) = if x = 124 ∧ (z :: c).getLastD 0 = 92 then (unesc (z :: c)).dropLast ++ [124] else unesc (z :: c) ++ [x] := ih
    have ne : unesc (z :: c) ≠ [] := by
      cases c with
      | nil => simp [unesc]
      | cons w c =>
        rw [unesc]
        split
        · rename_i hh
          have : w = 124 := hh.2
          subst this
          rw [unesc_bar]; simp
        · simp
    by_cases h1 : y = 92 ∧ z = 124
    · rw [if_pos h1, if_pos h1, ih']
    · rw [if_neg h1, if_neg h1, ih']
      by_cases h2 : x = 124 ∧ (z :: c).getLastD 0 = 92
      · rw [if_pos h2, if_pos h2]
        rw [List.dropLast_cons_of_ne_nil ne]
        rfl
      · rw [if_neg h2, if_neg h2]; rfl
theorem unesc_nil_iff (c : List Nat) : unesc c = [] ↔ c = [] := by
  constructor
  · intro h
    rcases List.eq_nil_or_concat c with rfl | ⟨p, y, rfl⟩
    · rfl
    · rw [List.concat_eq_append, unesc_snoc] at h
      split at h <;> simp at h
  · rintro rfl; rfl
theorem unesc_last (c : List Nat) (h : c ≠ []) : (unesc c).getLastD 0 = c.getLastD 0 := by
  rcases List.eq_nil_or_concat c with rfl | ⟨p, y, rfl⟩
  · exact absurd rfl h
  · rw [List.concat_eq_append, unesc_snoc]
    split
    · rename_i q; simp [q.1]
    · simp
theorem split_unesc : ∀ c : List Nat, splitC 32 (unesc c) = (splitC 32 c).map unesc
  | [] => rfl
  | [x] => by
    by_cases h : x = 32
    · subst h; simp [unesc, splitC]
    · simp [unesc, splitC, h]
  | x :: y :: r => by
    have ih := split_unesc (y :: r)
    rw [unesc]
    by_cases h : x = 92 ∧ y = 124
    · rw [if_pos h, ih]
      obtain ⟨rfl, rfl⟩ := h
      obtain ⟨p, t, e1, e2⟩ := splitC_cons 32 92 (124 :: r) (by decide)
      obtain ⟨p', t', e1', e2'⟩ := splitC_cons 32 124 r (by decide)
      rw [e2, e1]
      rw [e2'] at e1
      cases e1
      simp [unesc]
    · rw [if_neg h]
      by_cases hx : x = 32
      · subst hx
        rw [splitC_sep, splitC_sep, ih]
        simp [unesc]
      · obtain ⟨p, t, e1, e2⟩ := splitC_cons 32 x (y :: r) hx
        obtain ⟨p', t', e1', e2'⟩ := splitC_cons 32 x (unesc (y :: r)) hx
        rw [e2', e2]
        rw [ih, e1] at e1'
        simp only [List.map_cons, List.cons.injEq] at e1' ⊢
        obtain ⟨a, b⟩ := e1'
        refine ⟨?_, b.symm⟩
        rw [← a]
        by_cases hy : y = 32
        · subst hy
          rw [splitC_sep] at e1
          cases e1
          simp [unesc]
        · obtain ⟨p2, t2, f1, f2⟩ := splitC_cons 32 y r hy
          rw [f2] at e1
          cases e1
          rw [unesc, if_neg h]
theorem unesc_blank : ∀ (p r : List Nat), unesc (p ++ 32 :: r) = unesc p ++ 32 :: unesc r
  | [], r => by
    show unesc (32 :: r) = 32 :: unesc r
    cases r with
    | nil => rfl
    | cons y t => rw [unesc, if_neg (fun h => by cases h.1)]
  | [x], r => by
    have q : unesc (x :: 32 :: r) = x :: unesc (32 :: r) := by
      rw [unesc, if_neg (fun h => by cases h.2)]
    show unesc (x :: 32 :: r) = _
    rw [q]
    have := unesc_blank [] r
    simp only [List.nil_append] at this
    rw [this]
    simp [unesc]
  | x :: y :: p, r => by
    have ih := unesc_blank (y :: p) r
    show unesc (x :: y :: (p ++ 32 :: r)) = _
    rw [unesc, unesc]
    have ih' : unesc (y :: (p ++ 32 :: r)) = unesc (y :: p) ++ 32 :: unesc r := ih
    by_cases h : x = 92 ∧ y = 124
    · rw [if_pos h, if_pos h, ih']
    · rw [if_neg h, if_neg h, ih']; rfl
theorem glue_unesc : ∀ ws : List (List Nat), glueC [32] (ws.map unesc) = unesc (glueC [32] ws)
  | [] => rfl
  | [p] => rfl
  | p :: q :: r => by
    have ih := glue_unesc (q :: r)
    show unesc p ++ [32] ++ glueC [32] ((q :: r).map unesc) = unesc (p ++ [32] ++ glueC [32] (q :: r))
    rw [ih, List.append_assoc p, List.singleton_append, unesc_blank]
    simp
theorem words_unesc (c : List Nat) : wordsC (unesc c) = (wordsC c).map unesc := by
  unfold wordsC
  rw [split_unesc, List.filter_map]
  congr 1
  apply List.filter_congr
  intro w _
  have := unesc_nil_iff w
  by_cases h : w = []
  · subst h; simp [unesc]
  · have h2 : unesc w ≠ [] := fun q => h (this.mp q)
    simp [h, h2]
theorem tidy_unesc (c : List Nat) : tidyC (unesc c) = unesc (tidyC c) := by
  unfold tidyC
  rw [words_unesc, glue_unesc]
/-- the texts of a row of cells -/
def cellsC (l : List Nat) : List (List Nat) := (rawCells l).map fun c => tidyC (unesc c)
theorem cellsC_eq (l : List Nat) : cellsC l = (rawCells l).map fun c => unesc (tidyC c) := by
  unfold cellsC
  exact List.map_congr_left fun c _ => tidy_unesc c
end Lm

set_option linter.all false
namespace Lm
/-! ### blanks at the ends -/
theorem mem_tw {p : Nat → Bool} : ∀ {l : List Nat} {c : Nat}, c ∈ l.takeWhile p → p c = true
  | [], _, h => by simp at h
  | x :: r, c, h => by
    rw [List.takeWhile_cons] at h
    split at h
    · rename_i hx
      rcases List.mem_cons.mp h with rfl | h
      · exact hx
      · exact mem_tw h
    · simp at h
theorem tw_self {p : Nat → Bool} : ∀ {l : List Nat}, l.takeWhile p = l ↔ ∀ c ∈ l, p c = true
  | [] => by simp
  | x :: r => by
    rw [List.takeWhile_cons]
    split
    · rename_i hx
      rw [List.cons.injEq, tw_self (l := r)]
      simp [hx]
    · rename_i hx
      simp [hx]
theorem dw_nil {p : Nat → Bool} : ∀ {l : List Nat}, l.dropWhile p = [] ↔ ∀ c ∈ l, p c = true
  | [] => by simp
  | x :: r => by
    rw [List.dropWhile_cons]
    split
    · rename_i hx
      rw [dw_nil (l := r)]
      simp [hx]
    · rename_i hx
      simp [hx]
theorem dw_head {p : Nat → Bool} : ∀ {l : List Nat} {y : Nat} {q : List Nat}, l.dropWhile p = y :: q → p y = false
  | [], _, _, h => by simp at h
  | x :: r, y, q, h => by
    rw [List.dropWhile_cons] at h
    split at h
    · exact dw_head h
    · rename_i hx
      cases h
      simpa using hx
def bl (c : Nat) : Bool := ([32] : List Nat).contains c
theorem bl_iff (c : Nat) : bl c = true ↔ c = 32 := by simp [bl]
def bareC (l : List Nat) : List Nat := rstripL ([32] : List Nat).contains l
def bodyC (l : List Nat) : List Nat := (bareC l).dropWhile ([32] : List Nat).contains
def begC (l : List Nat) : Nat := (l.takeWhile ([32] : List Nat).contains).length
theorem rstrip_split (p : Nat → Bool) (l : List Nat) : ∃ t, l = rstripL p l ++ t ∧ (∀ c ∈ t, p c = true) ∧ (rstripL p l = [] ∨ ∃ q y, rstripL p l = q ++ [y] ∧ p y = false) := by
  refine ⟨(l.reverse.takeWhile p).reverse, ?_, ?_, ?_⟩
  · unfold rstripL
    rw [← List.reverse_append, List.takeWhile_append_dropWhile, List.reverse_reverse]
  · intro c hc
    rw [List.mem_reverse] at hc
    exact mem_tw hc
  · unfold rstripL
    cases h : l.reverse.dropWhile p with
    | nil => exact .inl rfl
    | cons y q =>
      refine .inr ⟨q.reverse, y, by simp, ?_⟩
      exact dw_head h
theorem rstrip_prefix (p : Nat → Bool) (l : List Nat) : rstripL p l <+: l := by
  obtain ⟨t, e, _⟩ := rstrip_split p l
  exact ⟨t, e.symm⟩
theorem bare_take (l : List Nat) : bareC l = l.take (bareC l).length := by
  obtain ⟨t, e⟩ := rstrip_prefix ([32] : List Nat).contains l
  conv => rhs; arg 2; rw [← e]
  exact (List.take_left' rfl).symm
theorem bare_len (l : List Nat) : (bareC l).length ≤ l.length := (rstrip_prefix _ l).length_le
theorem bare_nil_iff (l : List Nat) : bareC l = [] ↔ ∀ c ∈ l, c = 32 := by
  obtain ⟨t, e, ht, hh⟩ := rstrip_split ([32] : List Nat).contains l
  constructor
  · intro h c hc
    have : l = t := by rw [e]; show bareC l ++ t = t; rw [h]; rfl
    rw [this] at hc
    simpa using ht c hc
  · intro h
    rcases hh with hh | ⟨q, y, e2, hy⟩
    · exact hh
    · have : y ∈ l := by rw [e, e2]; simp
      rw [h y this] at hy
      simp at hy
theorem words_bare (l : List Nat) : wordsC (bareC l) = wordsC l := by
  obtain ⟨t, e, ht, _⟩ := rstrip_split ([32] : List Nat).contains l
  have key : ∀ (t a : List Nat), (∀ c ∈ t, ([32] : List Nat).contains c = true) → wordsC (a ++ t) = wordsC a := by
    intro t
    induction t with
    | nil => intro a _; simp
    | cons c t ih =>
      intro a h
      have hc : c = 32 := by simpa using h c (by simp)
      subst hc
      have : a ++ 32 :: t = (a ++ [32]) ++ t := by simp
      rw [this, ih (a ++ [32]) fun d hd => h d (List.mem_cons_of_mem _ hd), words_app_blank]
  conv => rhs; rw [e]
  exact (key t _ ht).symm
theorem words_dropBlank : ∀ l : List Nat, wordsC (l.dropWhile ([32] : List Nat).contains) = wordsC l
  | [] => rfl
  | x :: r => by
    rw [List.dropWhile_cons]
    split
    · rename_i h
      have hx : x = 32 := by simpa using h
      subst hx
      rw [words_dropBlank r, words_blank]
    · rfl
theorem words_body (l : List Nat) : wordsC (bodyC l) = wordsC l := by unfold bodyC; rw [words_dropBlank, words_bare]
theorem tidy_body (l : List Nat) : tidyC (bodyC l) = tidyC l := by unfold tidyC; rw [words_body]
/-! ### names -/
def nameSigns : List Nat := [97, 98, 99, 100, 101, 102, 103, 104, 105, 106, 107, 108, 109, 110, 111, 112, 113, 114, 115, 116, 117, 118, 119, 120, 121, 122, 65, 66, 67, 68, 69, 70, 71, 72, 73, 74, 75, 76, 77, 78, 79, 80, 81, 82, 83, 84, 85, 86, 87, 88, 89, 90, 48, 49, 50, 51, 52, 53, 54, 55, 56, 57]
def isNameC (l : List Nat) : Bool := decide (1 ≤ l.length) && decide (l.length ≤ 12) && l.all nameSigns.contains
def smallC (l : List Nat) : List Nat := l.map PyProof.Rows.lo1
/-! ### sorts -/
inductive Srt where
  | empty | fence
  | quote (r : List Nat)
  | heading (lv : Nat) (w : List Nat)
  | cells (ts : List (List Nat))
  | note (n w : List Nat)
  | name (n t : List Nat)
  | item (far : Nat) (sg : Nat) (w : List Nat)
  | plain (far : Nat) (w : List Nat)
def restQ (l : List Nat) : List Nat := if [62, 32].isPrefixOf l then l.drop 2 else l.drop 1
def levelC (b : List Nat) : Nat := (b.takeWhile ([61] : List Nat).contains).length
def headC (b : List Nat) : Nat := if levelC b > 3 ∨ ¬ [32].isPrefixOf (b.drop (levelC b)) then 0 else levelC b
def isCellsC (b : List Nat) : Bool := decide (2 ≤ b.length) && [124].isPrefixOf b && isBar b (b.length - 1)
def defC (b : List Nat) : Option Srt :=
  match findL [93, 58, 32] b with
  | none => none
  | some p =>
    if ¬ [91].isPrefixOf b then none
    else if [91, 94].isPrefixOf b ∧ isNameC ((b.drop 2).take (p - 2)) then some (.note (smallC ((b.drop 2).take (p - 2))) (glueC [32] (wordsC (b.drop (p + 3)))))
    else if isNameC ((b.drop 1).take (p - 1)) ∧ (wordsC (b.drop (p + 3))).length = 1 then some (.name (smallC ((b.drop 1).take (p - 1))) ((wordsC (b.drop (p + 3))).headD []))
    else none
def itemC (b : List Nat) : Srt :=
  let body := b.dropWhile ([32] : List Nat).contains
  if [45, 32].isPrefixOf body ∨ [43, 32].isPrefixOf body then .item (b.length - body.length) (body.headD 0) (tidyC (body.drop 2)) else .plain (b.length - body.length) (tidyC body)
def sortC (l : List Nat) : Srt :=
  let b := bareC l
  if b = [] then .empty
  else if [62].isPrefixOf b then .quote (restQ l)
  else if b = [126, 126, 126] then .fence
  else if headC b > 0 then .heading (headC b) (tidyC (b.drop (headC b)))
  else if isCellsC b then .cells (cellsC ((b.drop 1).take (b.length - 2)))
  else match defC b with
    | some d => d
    | none => itemC b
/-! ### the law's way -/
def flushL (l b : List Nat) : Option Srt :=
  if b.headD 0 = 62 then some (.quote (if (l.drop 1).take 1 = [32] then l.drop 2 else l.drop 1))
  else if b = [126, 126, 126] then some .fence
  else if b.take 2 = [61, 32] then some (.heading 1 (tidyC (b.drop 1)))
  else if b.take 3 = [61, 61, 32] then some (.heading 2 (tidyC (b.drop 2)))
  else if b.take 4 = [61, 61, 61, 32] then some (.heading 3 (tidyC (b.drop 3)))
  else if 1 < b.length ∧ b.headD 0 = 124 ∧ b.getLastD 0 = 124 ∧ (b.take (b.length - 1)).drop (b.length - 2) ≠ [92] then some (.cells (cellsC ((b.drop 1).take (b.length - 2))))
  else defC b
def dueL (l : List Nat) : Srt :=
  if begC l = l.length then .empty
  else if begC l = 0 ∧ (flushL l (bareC l)).isSome then (flushL l (bareC l)).getD .empty
  else if (l[begC l]? = some 45 ∨ l[begC l]? = some 43) ∧ (l.drop (begC l + 1)).take 1 = [32] ∧ begC l + 1 < (bareC l).length then
    .item (begC l) (l.getD (begC l) 0) (tidyC (((bareC l).drop (begC l + 1))))
  else .plain (begC l) (tidyC l)
theorem begC_len_iff (l : List Nat) : begC l = l.length ↔ bareC l = [] := by
  rw [bare_nil_iff]
  unfold begC
  constructor
  · intro h c hc
    have e : l.takeWhile ([32] : List Nat).contains = l := by
      have := List.takeWhile_prefix (p := ([32] : List Nat).contains) (l := l)
      exact this.eq_of_length h
    rw [← e] at hc
    simpa using mem_tw hc
  · intro h
    have e : l.takeWhile ([32] : List Nat).contains = l := by
      rw [tw_self]
      intro c hc
      rw [h c hc]; rfl
    rw [e]
theorem takeWhile_bare (l : List Nat) (h : bareC l ≠ []) : (bareC l).takeWhile ([32] : List Nat).contains = l.takeWhile ([32] : List Nat).contains := by
  obtain ⟨t, e, ht, hh⟩ := rstrip_split ([32] : List Nat).contains l
  rcases hh with hh | ⟨q, y, e2, hy⟩
  · exact absurd hh h
  · conv => rhs; rw [e, e2]
    show (rstripL ([32] : List Nat).contains l).takeWhile _ = _
    rw [e2]
    rw [List.takeWhile_append, List.takeWhile_append (xs := q ++ [y])]
    have ne : ((q ++ [y]).takeWhile ([32] : List Nat).contains).length ≠ (q ++ [y]).length := by
      intro q1
      have := (List.takeWhile_prefix (p := ([32] : List Nat).contains) (l := q ++ [y])).eq_of_length q1
      rw [tw_self] at this
      have := this y (by simp)
      rw [hy] at this
      cases this
    rw [if_neg ne, List.takeWhile_append]
theorem beg_bare (l : List Nat) (h : bareC l ≠ []) : begC l = (bareC l).length - (bodyC l).length := by
  unfold begC bodyC
  rw [← takeWhile_bare l h]
  have := congrArg List.length (List.takeWhile_append_dropWhile (p := ([32] : List Nat).contains) (l := bareC l))
  rw [List.length_append] at this
  omega
theorem body_drop (l : List Nat) (h : bareC l ≠ []) : bodyC l = (bareC l).drop (begC l) := by
  unfold begC bodyC
  rw [← takeWhile_bare l h]
  conv => rhs; arg 2; rw [← List.takeWhile_append_dropWhile (p := ([32] : List Nat).contains) (l := bareC l)]
  rw [List.drop_left]
theorem beg_lt (l : List Nat) (h : bareC l ≠ []) : begC l < (bareC l).length := by
  have h1 := body_drop l h
  obtain ⟨t, e, ht, hh⟩ := rstrip_split ([32] : List Nat).contains l
  rcases hh with hh | ⟨q, y, e2, hy⟩
  · exact absurd hh h
  · have hb : bodyC l ≠ [] := by
      intro q1
      unfold bodyC at q1
      rw [dw_nil] at q1
      have := q1 y (by show y ∈ rstripL _ l; rw [e2]; simp)
      rw [hy] at this
      cases this
    rw [h1] at hb
    have := List.length_pos_iff.mpr hb
    rw [List.length_drop] at this
    omega
theorem get_bare (l : List Nat) (i : Nat) (h : i < (bareC l).length) : (bareC l)[i]? = l[i]? := by
  obtain ⟨t, e⟩ := rstrip_prefix ([32] : List Nat).contains l
  have e' : bareC l ++ t = l := e
  conv => rhs; rw [← e']
  rw [List.getElem?_append_left h]
theorem pre1 (x : Nat) (l : List Nat) : [x].isPrefixOf l = true ↔ l[0]? = some x := by
  cases l with
  | nil => simp
  | cons y r => simp; exact eq_comm
theorem pre2 (x y : Nat) (l : List Nat) : [x, y].isPrefixOf l = true ↔ l[0]? = some x ∧ l[1]? = some y := by
  cases l with
  | nil => simp
  | cons a r =>
    cases r with
    | nil => simp
    | cons b r =>
      simp
      constructor
      · rintro ⟨rfl, rfl⟩; exact ⟨rfl, rfl⟩
      · rintro ⟨rfl, rfl⟩; exact ⟨rfl, rfl⟩
theorem headD_iff (l : List Nat) (x : Nat) (hx : x ≠ 0) : l.headD 0 = x ↔ l[0]? = some x := by
  cases l with
  | nil => simp [Ne.symm hx]
  | cons y r => simp
theorem take1_iff (l : List Nat) (i x : Nat) : (l.drop i).take 1 = [x] ↔ l[i]? = some x := by
  have e : (l.drop i).take 1 = (l[i]?).toList := by
    rw [List.take_one, List.head?_drop]
  rw [e]
  cases l[i]? <;> simp
/-! headings -/
theorem level_take (b : List Nat) (n : Nat) : (b.take (n + 1) = List.replicate n 61 ++ [32]) ↔ levelC b = n ∧ [32].isPrefixOf (b.drop n) = true := by
  induction n generalizing b with
  | zero =>
    cases b with
    | nil => simp [levelC]
    | cons x r =>
      by_cases h : x = 61
      · subst h; simp [levelC]
      · have : levelC (x :: r) = 0 := by simp [levelC, h]
        rw [this]
        simp
        exact eq_comm
  | succ n ih =>
    cases b with
    | nil => simp [levelC]
    | cons x r =>
      have e : List.replicate (n + 1) 61 = 61 :: List.replicate n 61 := rfl
      rw [List.take_succ_cons, e, List.cons_append, List.cons.injEq, ih r, List.drop_succ_cons]
      by_cases h : x = 61
      · subst h
        have : levelC (61 :: r) = levelC r + 1 := by simp [levelC]
        rw [this]; simp
      · have : levelC (x :: r) = 0 := by simp [levelC, h]
        rw [this]; simp [h]
theorem due_sort (l : List Nat) : dueL l = sortC l := by
  unfold dueL sortC
  by_cases h0 : bareC l = []
  · rw [if_pos ((begC_len_iff l).mpr h0)]
    simp only [h0, if_true]
  · rw [if_neg (fun q => h0 ((begC_len_iff l).mp q))]
    simp only [h0, if_false]
    have hlt := beg_lt l h0
    have hb0 : (bareC l)[0]? = l[0]? := get_bare l 0 (by omega)
    have item : (if (l[begC l]? = some 45 ∨ l[begC l]? = some 43) ∧ (l.drop (begC l + 1)).take 1 = [32] ∧ begC l + 1 < (bareC l).length then
        Srt.item (begC l) (l.getD (begC l) 0) (tidyC (((bareC l).drop (begC l + 1)))) else .plain (begC l) (tidyC l)) = itemC (bareC l) := by
      unfold itemC
      show _ = if [45, 32].isPrefixOf (bodyC l) = true ∨ [43, 32].isPrefixOf (bodyC l) = true then Srt.item ((bareC l).length - (bodyC l).length) ((bodyC l).headD 0) (tidyC ((bodyC l).drop 2)) else .plain ((bareC l).length - (bodyC l).length) (tidyC (bodyC l))
      rw [← beg_bare l h0, tidy_body]
      have e0 : (bodyC l)[0]? = l[begC l]? := by rw [body_drop l h0, List.getElem?_drop, Nat.add_zero, get_bare l _ hlt]
      have e1 : begC l + 1 < (bareC l).length → (bodyC l)[1]? = l[begC l + 1]? := fun q => by rw [body_drop l h0, List.getElem?_drop, get_bare l _ q]
      have e1n : ¬ begC l + 1 < (bareC l).length → (bodyC l)[1]? = none := fun q => by
        rw [List.getElem?_eq_none_iff, body_drop l h0, List.length_drop]; omega
      have i1 := pre2 45 32 (bodyC l)
      have i2 := pre2 43 32 (bodyC l)
      have i3 := take1_iff l (begC l + 1) 32
      rw [e0] at i1 i2
      simp only [i1, i2, i3]
      by_cases hl : begC l + 1 < (bareC l).length
      · rw [e1 hl]
        by_cases c : (l[begC l]? = some 45 ∨ l[begC l]? = some 43) ∧ l[begC l + 1]? = some 32
        · rw [if_pos ⟨c.1, c.2, hl⟩, if_pos (by rcases c with ⟨c | c, d⟩; exact .inl ⟨c, d⟩; exact .inr ⟨c, d⟩)]
          have hd : (bodyC l).headD 0 = l.getD (begC l) 0 := by
            rw [List.getD_eq_getElem?_getD, ← e0]
            cases bodyC l <;> simp
          rw [hd]
          congr 1
          have e2 : (bareC l).drop (begC l + 1) = 32 :: (bodyC l).drop 2 := by
            rw [body_drop l h0, List.drop_drop]
            have := List.drop_eq_getElem_cons hl
            rw [this]
            congr 1
            have q := get_bare l _ hl
            rw [c.2, List.getElem?_eq_getElem hl] at q
            exact Option.some.inj q
          unfold tidyC
          rw [e2, words_blank]
        · rw [if_neg (fun q => c ⟨q.1, q.2.1⟩), if_neg]
          rintro (q | q)
          · exact c ⟨.inl q.1, q.2⟩
          · exact c ⟨.inr q.1, q.2⟩
      · rw [if_neg (fun q => hl q.2.2), e1n hl, if_neg]
        rintro (q | q) <;> cases q.2
    rw [item]
    by_cases hz : begC l = 0
    · -- far is 0
      have q1 : ((bareC l).headD 0 = 62) ↔ [62].isPrefixOf (bareC l) = true := by rw [pre1, headD_iff _ _ (by decide)]
      have l1 := level_take (bareC l) 1
      have l2 := level_take (bareC l) 2
      have l3 := level_take (bareC l) 3
      have cellsI : (1 < (bareC l).length ∧ (bareC l).headD 0 = 124 ∧ (bareC l).getLastD 0 = 124 ∧ ((bareC l).take ((bareC l).length - 1)).drop ((bareC l).length - 2) ≠ [92]) ↔ isCellsC (bareC l) = true := by
        generalize bareC l = b
        unfold isCellsC
        rw [Bool.and_eq_true, Bool.and_eq_true, decide_eq_true_eq, pre1, headD_iff _ _ (by decide)]
        constructor
        · rintro ⟨a1, a2, a3, a4⟩
          refine ⟨⟨by omega, a2⟩, ?_⟩
          unfold isBar
          have e3 : b[b.length - 1]? = some 124 := by
            rw [← List.getLast?_eq_getElem?]
            cases q : b.getLast? with
            | none => rw [List.getLast?_eq_none_iff] at q; subst q; simp at a1
            | some z => rw [List.getLastD_eq_getLast?, q] at a3; simp at a3; rw [a3]
          rw [e3]
          simp only [beq_self_eq_true, Bool.true_and, Bool.or_eq_true, beq_iff_eq, bne_iff_ne, ne_eq]
          right
          intro q
          apply a4
          rw [List.drop_take]
          have : b.length - 1 - (b.length - 2) = 1 := by omega
          rw [this, take1_iff]
          have : b.length - 2 = b.length - 1 - 1 := by omega
          rw [this]; exact q
        · rintro ⟨⟨a1, a2⟩, a3⟩
          unfold isBar at a3
          simp only [Bool.and_eq_true, beq_iff_eq, Bool.or_eq_true, bne_iff_ne, ne_eq] at a3
          obtain ⟨b1, b2⟩ := a3
          refine ⟨by omega, a2, ?_, ?_⟩
          · rw [List.getLastD_eq_getLast?, List.getLast?_eq_getElem?, b1]; rfl
          · intro q
            rw [List.drop_take] at q
            have : b.length - 1 - (b.length - 2) = 1 := by omega
            rw [this, take1_iff] at q
            have : b.length - 2 = b.length - 1 - 1 := by omega
            rw [this] at q
            rcases b2 with b2 | b2
            · omega
            · exact b2 q
      have quoteI : [62].isPrefixOf (bareC l) = true → (if (l.drop 1).take 1 = [32] then l.drop 2 else l.drop 1) = restQ l := by
        intro q
        unfold restQ
        rw [pre1, hb0] at q
        by_cases r : l[1]? = some 32
        · rw [if_pos ((take1_iff l 1 32).mpr r), if_pos ((pre2 62 32 l).mpr ⟨q, r⟩)]
        · rw [if_neg (fun z => r ((take1_iff l 1 32).mp z)), if_neg (fun z => r ((pre2 62 32 l).mp z).2)]
      have headI : ∀ n, 1 ≤ n → n ≤ 3 → (bareC l).take (n + 1) = List.replicate n 61 ++ [32] → headC (bareC l) = n := by
        intro n a1 a2 q
        obtain ⟨b1, b2⟩ := (level_take (bareC l) n).mp q
        unfold headC
        rw [b1, if_neg]
        rintro (z | z)
        · omega
        · exact z b2
      have headN : ¬ ((bareC l).take 2 = [61, 32]) → ¬ ((bareC l).take 3 = [61, 61, 32]) → ¬ ((bareC l).take 4 = [61, 61, 61, 32]) → ¬ headC (bareC l) > 0 := by
        intro n1 n2 n3 q
        unfold headC at q
        split at q
        · exact absurd q (by omega)
        · rename_i c
          have c1 : ¬ levelC (bareC l) > 3 := fun z => c (.inl z)
          have c2 : [32].isPrefixOf ((bareC l).drop (levelC (bareC l))) = true := by
            cases z : [32].isPrefixOf ((bareC l).drop (levelC (bareC l))) with
            | true => rfl
            | false => exact absurd (.inr (by rw [z]; simp)) c
          have key := (level_take (bareC l) (levelC (bareC l))).mpr ⟨rfl, c2⟩
          have : levelC (bareC l) = 1 ∨ levelC (bareC l) = 2 ∨ levelC (bareC l) = 3 := by omega
          rcases this with z | z | z <;> rw [z] at key
          · exact n1 key
          · exact n2 key
          · exact n3 key
      unfold flushL
      by_cases c1 : [62].isPrefixOf (bareC l) = true
      · simp only [q1.mpr c1, if_true, c1, hz, Option.isSome_some, and_self, Option.getD_some]
        rw [quoteI c1]
      · have c1' : ¬ (bareC l).headD 0 = 62 := fun z => c1 (q1.mp z)
        simp only [c1', if_false, c1]
        by_cases c2 : bareC l = [126, 126, 126]
        · simp [c2, hz]
        · simp only [c2, if_false]
          by_cases d1 : (bareC l).take 2 = [61, 32]
          · have := headI 1 (by omega) (by omega) d1
            simp [d1, hz, this]
          · by_cases d2 : (bareC l).take 3 = [61, 61, 32]
            · have := headI 2 (by omega) (by omega) d2
              simp [d1, d2, hz, this]
            · by_cases d3 : (bareC l).take 4 = [61, 61, 61, 32]
              · have := headI 3 (by omega) (by omega) d3
                simp [d1, d2, d3, hz, this]
              · have hn := headN d1 d2 d3
                simp only [d1, d2, d3, if_false, hn]
                by_cases c4 : isCellsC (bareC l) = true
                · have := cellsI.mpr c4
                  rw [if_pos this, if_pos c4]
                  simp [hz]
                · rw [if_neg (fun z => c4 (cellsI.mp z)), if_neg c4]
                  cases q : defC (bareC l) with
                  | none => simp
                  | some d => simp [hz]
    · -- blanks ahead
      rw [if_neg (fun q => hz q.1)]
      have hsp : (bareC l)[0]? = some 32 := by
        rw [hb0]
        unfold begC at hz
        cases l with
        | nil => simp at hz
        | cons x r =>
          by_cases q : x = 32
          · subst q; rfl
          · simp [q] at hz
      have n1 : ¬ [62].isPrefixOf (bareC l) = true := by rw [pre1, hsp]; simp
      have n2 : ¬ bareC l = [126, 126, 126] := by intro q; rw [q] at hsp; simp at hsp
      have n3 : ¬ headC (bareC l) > 0 := by
        have : levelC (bareC l) = 0 := by
          unfold levelC
          cases q : bareC l with
          | nil => rfl
          | cons x r => rw [q] at hsp; simp at hsp; subst hsp; rfl
        unfold headC
        rw [this]; split <;> omega
      have n4 : ¬ isCellsC (bareC l) = true := by
        unfold isCellsC
        rw [Bool.and_eq_true, Bool.and_eq_true, pre1, hsp]
        simp
      have n5 : defC (bareC l) = none := by
        unfold defC
        cases q : findL [93, 58, 32] (bareC l) with
        | none => rfl
        | some p =>
          have : ¬ [91].isPrefixOf (bareC l) = true := by rw [pre1, hsp]; simp
          simp [this]
      simp only [n1, n2, n3, n4, n5, if_false, Bool.false_eq_true]
end Lm

set_option linter.all false
namespace Lm
/-! ### lengths -/
theorem split_sum (c : Nat) : ∀ l : List Nat, ((splitC c l).map List.length).sum + (splitC c l).length = l.length + 1
  | [] => by simp [splitC]
  | x :: r => by
    have ih := split_sum c r
    by_cases hx : x = c
    · subst hx
      rw [splitC_sep]
      simp only [List.map_cons, List.length_nil, List.sum_cons, List.length_cons]
      omega
    · obtain ⟨q, t, e1, e2⟩ := splitC_cons c x r hx
      rw [e2]
      rw [e1] at ih
      simp only [List.map_cons, List.length_cons, List.sum_cons] at ih ⊢
      omega
theorem filter_sum (p : List Nat → Bool) : ∀ ps : List (List Nat), ((ps.filter p).map List.length).sum + (ps.filter p).length ≤ (ps.map List.length).sum + ps.length
  | [] => by simp
  | q :: r => by
    have ih := filter_sum p r
    rw [List.filter_cons]
    split
    · simp only [List.map_cons, List.sum_cons, List.length_cons]; omega
    · simp only [List.map_cons, List.sum_cons, List.length_cons]; omega
theorem words_sum (l : List Nat) : ((wordsC l).map List.length).sum + (wordsC l).length ≤ l.length + 1 := by
  have h1 := split_sum 32 l
  have h2 := filter_sum (fun w => w ≠ []) (splitC 32 l)
  unfold wordsC
  omega
theorem words_len (l : List Nat) : (wordsC l).length ≤ l.length + 1 := by have := words_sum l; omega
theorem glue_len : ∀ ps : List (List Nat), (glueC [32] ps).length + 1 ≤ (ps.map List.length).sum + ps.length + 1
  | [] => by simp [glueC]
  | [p] => by simp [glueC]
  | p :: q :: r => by
    have ih := glue_len (q :: r)
    show (p ++ [32] ++ glueC [32] (q :: r)).length + 1 ≤ _
    simp only [List.length_append, List.map_cons, List.sum_cons, List.length_cons, List.length_nil] at ih ⊢
    omega
theorem glue_len' : ∀ ps : List (List Nat), ps ≠ [] → (glueC [32] ps).length + 1 = (ps.map List.length).sum + ps.length
  | [], h => absurd rfl h
  | [p], _ => by simp [glueC]
  | p :: q :: r, _ => by
    have ih := glue_len' (q :: r) (by simp)
    show (p ++ [32] ++ glueC [32] (q :: r)).length + 1 = _
    simp only [List.length_append, List.map_cons, List.sum_cons, List.length_cons, List.length_nil] at ih ⊢
    omega
theorem tidy_len (l : List Nat) : (tidyC l).length ≤ l.length := by
  unfold tidyC
  cases h : wordsC l with
  | nil => simp [glueC]
  | cons p r =>
    have h1 := glue_len' (p :: r) (by simp)
    have h2 := words_sum l
    rw [h] at h2
    omega
theorem len_map_S (ps : List (List Nat)) : ((ps.map S).map PySem.Str.length) = ps.map List.length := by
  rw [List.map_map]
  exact List.map_congr_left fun p _ => S_len p
theorem unesc_len : ∀ c : List Nat, (unesc c).length ≤ c.length
  | [] => by simp [unesc]
  | [x] => by simp [unesc]
  | x :: y :: r => by
    have ih := unesc_len (y :: r)
    rw [unesc]
    split
    · simp only [List.length_cons] at ih ⊢; omega
    · simp only [List.length_cons] at ih ⊢; omega
theorem raw_sum : ∀ (l : List Nat) (p : Nat), ((cellsAux p l).map List.length).sum + (cellsAux p l).length = l.length + 1
  | [], _ => by simp [cellsAux]
  | x :: r, p => by
    have ih := raw_sum r x
    rw [cellsAux]
    split
    · simp only [List.map_cons, List.length_nil, List.sum_cons, List.length_cons]; omega
    · cases h : cellsAux x r with
      | nil => exact absurd h (cellsAux_ne r x)
      | cons a b =>
        rw [h] at ih
        simp only [consH, List.map_cons, List.length_cons, List.sum_cons] at ih ⊢
        omega
theorem raw_count (l : List Nat) : (rawCells l).length ≤ l.length + 1 := by have := raw_sum l 0; unfold rawCells; omega
/-! ### signs below 128 -/
def Asc (l : List Nat) : Prop := ∀ c ∈ l, c < 128
theorem Asc.sub {a b : List Nat} (h : Asc b) (s : ∀ c ∈ a, c ∈ b) : Asc a := fun c hc => h c (s c hc)
theorem Asc.drop {l : List Nat} (h : Asc l) (n : Nat) : Asc (l.drop n) := h.sub fun c hc => List.mem_of_mem_drop hc
theorem Asc.take {l : List Nat} (h : Asc l) (n : Nat) : Asc (l.take n) := h.sub fun c hc => List.mem_of_mem_take hc
theorem Asc.bare {l : List Nat} (h : Asc l) : Asc (bareC l) := h.sub fun c hc => (rstrip_prefix _ l).subset hc
theorem Asc.dw {l : List Nat} (h : Asc l) (p : Nat → Bool) : Asc (l.dropWhile p) := h.sub fun c hc => (List.dropWhile_sublist p).subset hc
theorem mem_split (c : Nat) : ∀ (l p : List Nat) (x : Nat), p ∈ splitC c l → x ∈ p → x ∈ l
  | [], p, x, hp, hx => by simp [splitC] at hp; subst hp; simp at hx
  | y :: r, p, x, hp, hx => by
    by_cases hy : y = c
    · subst hy
      rw [splitC_sep] at hp
      rcases List.mem_cons.mp hp with rfl | hp
      · simp at hx
      · exact List.mem_cons_of_mem _ (mem_split y r p x hp hx)
    · obtain ⟨q, t, e1, e2⟩ := splitC_cons c y r hy
      rw [e2] at hp
      rcases List.mem_cons.mp hp with rfl | hp
      · rcases List.mem_cons.mp hx with rfl | hx
        · simp
        · exact List.mem_cons_of_mem _ (mem_split c r q x (by rw [e1]; simp) hx)
      · exact List.mem_cons_of_mem _ (mem_split c r p x (by rw [e1]; exact List.mem_cons_of_mem _ hp) hx)
theorem Asc.word {l w : List Nat} (h : Asc l) (hw : w ∈ wordsC l) : Asc w := h.sub fun c hc => mem_split 32 l w c (List.mem_filter.mp hw).1 hc
theorem mem_glue (g : List Nat) : ∀ (ps : List (List Nat)) (x : Nat), x ∈ glueC g ps → x ∈ g ∨ ∃ p ∈ ps, x ∈ p
  | [], x, h => by simp [glueC] at h
  | [p], x, h => .inr ⟨p, by simp, h⟩
  | p :: q :: r, x, h => by
    rw [glueC_cons g p (q :: r) (by simp)] at h
    rcases List.mem_append.mp h with h | h
    · rcases List.mem_append.mp h with h | h
      · exact .inr ⟨p, by simp, h⟩
      · exact .inl h
    · rcases mem_glue g (q :: r) x h with h | ⟨p', hp, hx⟩
      · exact .inl h
      · exact .inr ⟨p', List.mem_cons_of_mem _ hp, hx⟩
theorem Asc.glue {ws : List (List Nat)} (h : ∀ w ∈ ws, Asc w) : Asc (glueC [32] ws) := fun c hc => by
  rcases mem_glue [32] ws c hc with h1 | ⟨p, hp, hx⟩
  · have : c = 32 := by simpa using h1
    omega
  · exact h p hp c hx
theorem Asc.tidy {l : List Nat} (h : Asc l) : Asc (tidyC l) := Asc.glue fun w hw => h.word hw
theorem mem_unesc : ∀ (c : List Nat) (x : Nat), x ∈ unesc c → x ∈ c
  | [], x, h => h
  | [y], x, h => h
  | y :: z :: r, x, h => by
    rw [unesc] at h
    split at h
    · exact List.mem_cons_of_mem _ (mem_unesc (z :: r) x h)
    · rcases List.mem_cons.mp h with rfl | h
      · simp
      · exact List.mem_cons_of_mem _ (mem_unesc (z :: r) x h)
theorem Asc.unesc {l : List Nat} (h : Asc l) : Asc (unesc l) := h.sub fun c hc => mem_unesc l c hc
theorem mem_raw : ∀ (l : List Nat) (q : Nat) (p : List Nat) (x : Nat), p ∈ cellsAux q l → x ∈ p → x ∈ l
  | [], _, p, x, hp, hx => by simp [cellsAux] at hp; subst hp; simp at hx
  | y :: r, q, p, x, hp, hx => by
    rw [cellsAux] at hp
    split at hp
    · rcases List.mem_cons.mp hp with rfl | hp
      · simp at hx
      · exact List.mem_cons_of_mem _ (mem_raw r y p x hp hx)
    · cases h : cellsAux y r with
      | nil => exact absurd h (cellsAux_ne r y)
      | cons a b =>
        rw [h] at hp
        rcases List.mem_cons.mp hp with rfl | hp
        · rcases List.mem_cons.mp hx with rfl | hx
          · simp
          · exact List.mem_cons_of_mem _ (mem_raw r y a x (by rw [h]; simp) hx)
        · exact List.mem_cons_of_mem _ (mem_raw r y p x (by rw [h]; exact List.mem_cons_of_mem _ hp) hx)
theorem Asc.cells {l t : List Nat} (h : Asc l) (ht : t ∈ cellsC l) : Asc t := by
  obtain ⟨c, hc, rfl⟩ := List.mem_map.mp ht
  exact Asc.tidy (Asc.unesc (h.sub fun x hx => mem_raw l 0 c x hc hx))
theorem lo1_lt (c : Nat) (h : c < 128) : PyProof.Rows.lo1 c < 128 := by unfold PyProof.Rows.lo1; split <;> omega
theorem Asc.small {l : List Nat} (h : Asc l) : Asc (smallC l) := fun c hc => by
  obtain ⟨d, hd, rfl⟩ := List.mem_map.mp hc
  exact lo1_lt d (h d hd)
theorem strOk_S {l : List Nat} (h : Asc l) : PySem.PyData.strOk (S l) = true := by
  unfold PySem.PyData.strOk
  rw [Array.all_eq_true_iff_forall_mem]
  intro c hc
  have : c ∈ l := by simpa using hc
  have := h c this
  exact decide_eq_true (by omega)
/-! ### the pieces between places -/
theorem partsAt_len (l : List Nat) : ∀ (ps : List Nat) (b : Nat), (partsAt l b ps).length = ps.length
  | [], _ => rfl
  | p :: r, b => by rw [partsAt, List.length_cons, partsAt_len l r (p + 1), List.length_cons]
def begAt (b : Nat) (ps : List Nat) (i : Nat) : Nat := if i = 0 then b else ps.getD (i - 1) 0 + 1
theorem partsAt_get (l : List Nat) : ∀ (ps : List Nat) (b i p : Nat), ps[i]? = some p → (partsAt l b ps)[i]? = some ((l.drop (begAt b ps i)).take (p - begAt b ps i))
  | [], _, _, _, h => by simp at h
  | q :: r, b, 0, p, h => by
    simp at h
    subst h
    rfl
  | q :: r, b, i + 1, p, h => by
    have ih := partsAt_get l r (q + 1) i p (by simpa using h)
    rw [partsAt, List.getElem?_cons_succ, ih]
    have e : begAt (q + 1) r i = begAt b (q :: r) (i + 1) := by
      cases i with
      | zero => simp [begAt]
      | succ i => simp [begAt]
    rw [e]
end Lm

set_option Elab.async false
set_option linter.all false
set_option maxRecDepth 100000
set_option maxHeartbeats 4000000
namespace Lw
open PySem L2 Lm
/-- the built-ins and constants that the defs name -/
structure Tx (mg : Str → Option Value) : Prop where
  n_len : mg "len" = none
  n_range : mg "range" = none
  n_isinstance : mg "isinstance" = none
  n_all : mg "all" = none
  n_str : mg "str" = none
  n_bool : mg "bool" = none
  n_tuple : mg "tuple" = none
  n_enumerate : mg "enumerate" = none
  n_int : mg "int" = none
  n_list : mg "list" = none
  g_NAME_SIGNS : ∃ t, mg "NAME_SIGNS" = some (.str (S nameSigns) t)
  g_LONGEST_NAME : ∃ t, mg "LONGEST_NAME" = some (.int 12 t)
  g_FENCE : ∃ t, mg "FENCE" = some (.str (S [126, 126, 126]) t)
  g_DEEPEST_HEADING : ∃ t, mg "DEEPEST_HEADING" = some (.int 3 t)
  g_NAME_END : ∃ t, mg "NAME_END" = some (.str (S [93, 58, 32]) t)
theorem big {n : Nat} (h : n ≤ 1000000) : n ≤ sizeLine := by rw [sizeLine_eq]; omega
theorem bigS {l : List Nat} (h : l.length ≤ 1000000) : (S l).length ≤ sizeLine := by rw [S_len]; exact big h
theorem at_S {l : List Nat} {i : Nat} (h : i < l.length) : atI (S l).cps.toList (i : Int) = some (l.getD i 0) := by
  rw [S_list]
  refine atI_nat ?_
  rw [List.getD_eq_getElem?_getD, List.getElem?_eq_getElem h]
  simp
theorem getD_some {l : List Nat} {i : Nat} (h : i < l.length) : l[i]? = some (l.getD i 0) := by
  rw [List.getD_eq_getElem?_getD, List.getElem?_eq_getElem h]
  simp
section
variable {a b : List Nat} {x y : V}
theorem neT (h : (!decide (x = y)) = true) (ex : x = V.str (S a)) (ey : y = V.str (S b)) : a ≠ b := by
  subst ex ey
  intro e
  subst e
  simp at h
theorem neF (h : ¬ (!decide (x = y)) = true) (ex : x = V.str (S a)) (ey : y = V.str (S b)) : a = b := by
  subst ex ey
  have h2 : V.str (S a) = V.str (S b) := by simpa using h
  exact S_inj (V.str.inj h2)
theorem eqT (h : decide (x = y) = true) (ex : x = V.str (S a)) (ey : y = V.str (S b)) : a = b := by
  subst ex ey
  exact S_inj (V.str.inj (of_decide_eq_true h))
theorem eqF (h : ¬ decide (x = y) = true) (ex : x = V.str (S a)) (ey : y = V.str (S b)) : a ≠ b := by
  subst ex ey
  intro e
  subst e
  simp at h
end
section
variable {P : Program} {w : World} {K : PySem.W.Frag} {mg : Str → Option Value} {base : Heap}
/-! is_parting_bar -/
def spBar : Sp := fun vs H Q _ => ∃ (l : List Nat) (i : Nat), vs = [.str (S l), .int i] ∧ l.length ≤ 1000000 ∧ i < l.length ∧ Q (.bl (isBar l i)) H
/-! words_of -/
def spWords : Sp := fun vs H Q _ => ∃ l : List Nat, vs = [.str (S l)] ∧ l.length ≤ 1000000 ∧ ∀ r H', Same H H' → H r = none → H' r = some (.lst ((wordsC l).map fun w => V.str (S w))) → Q (.ref r) H'
/-! tidy -/
def spTidy : Sp := fun vs H Q _ => ∃ l : List Nat, vs = [.str (S l)] ∧ l.length ≤ 1000000 ∧ ∀ H', Same H H' → Q (.str (S (tidyC l))) H'
theorem map_S_V (ws : List (List Nat)) : (ws.map fun w => V.str (S w)) = (ws.map S).map V.str := by rw [List.map_map]; rfl
theorem words_fit (l : List Nat) (h : l.length ≤ 1000000) : (((wordsC l).map S).map (·.length)).sum + ((wordsC l).map S).length * (S [32]).length ≤ sizeLine := by
  have h1 := words_sum l
  have h2 : sizeLine = 16777216 := sizeLine_eq
  have h3 : (((wordsC l).map S).map (·.length)) = (wordsC l).map List.length := len_map_S _
  rw [h3, List.length_map]
  have h4 : (S [32]).length = 1 := rfl
  rw [h4]
  omega
end
abbrev vS (l : List Nat) : V := .str (S l)
section
variable {P : Program} {w : World} {K : PySem.W.Frag} {mg : Str → Option Value} {base : Heap}
/-! split_cells -/
def spCells : Sp := fun vs H Q _ => ∃ l : List Nat, vs = [vS l] ∧ l.length ≤ 1000000 ∧ ∀ r H', Same H H' → H r = none → H' r = some (.lst ((cellsC l).map vS)) → Q (.ref r) H'
theorem take_map_get {α β : Type} (f : α → β) (xs : List α) (i : Nat) (x : α) (h : xs[i]? = some x) : (xs.take i).map f ++ [f x] = (xs.take (i + 1)).map f := by
  rw [List.take_succ, h]; simp
theorem begAt_succ {ps : List Nat} {i p : Nat} (h : ps[i]? = some p) : begAt 0 ps (i + 1) = p + 1 := by
  unfold begAt
  rw [if_neg (by omega), Nat.add_sub_cancel, List.getD_eq_getElem?_getD, h]; rfl
theorem clip_nat (n d b : Nat) (hb : b ≤ n) : clipL n d (some (b : Int)) = b := by
  unfold clipL
  simp only []
  omega
theorem cut_mid (l : List Nat) (b p : Nat) (hp : p ≤ l.length) (hb : b ≤ l.length) : cutL l (some (b : Int)) (some (p : Int)) = (l.drop b).take (p - b) := by
  unfold cutL
  rw [clip_nat _ _ _ hp, clip_nat _ _ _ hb]
def pInt (p : Nat → Bool) : V → Bool
  | .int i => p i.toNat
  | _ => false
theorem filter_int (p : Nat → Bool) (n : Nat) : ((((List.range n).map fun (i : Nat) => V.int (0 + (i : Int))).filter (pInt p)).map id) = ((List.range n).filter p).map fun (i : Nat) => V.int i := by
  rw [List.map_id, List.filter_map]
  have : (List.range n).filter (pInt p ∘ fun (i : Nat) => V.int (0 + (i : Int))) = (List.range n).filter p := by
    refine List.filter_congr fun i _ => ?_
    show p (0 + (i : Int)).toNat = p i
    congr 1
    omega
  rw [this]
  refine List.map_congr_left fun i _ => ?_
  rw [Int.zero_add]
theorem bars_len (l : List Nat) : ((List.range l.length).filter (isBar l)).length ≤ l.length := by
  have := List.length_filter_le (isBar l) (List.range l.length)
  rwa [List.length_range] at this
theorem beg_bars {l : List Nat} {i p : Nat} (hp : ((List.range l.length).filter (isBar l) ++ [l.length])[i]? = some p) : begAt 0 ((List.range l.length).filter (isBar l) ++ [l.length]) i ≤ l.length := by
  unfold begAt
  split
  · exact Nat.zero_le _
  · rename_i h0
    have hi := (List.getElem?_eq_some_iff.mp hp).1
    rw [List.length_append, List.length_singleton] at hi
    have h1 : i - 1 < ((List.range l.length).filter (isBar l)).length := by omega
    rw [List.getD_eq_getElem?_getD, List.getElem?_append_left h1, List.getElem?_eq_getElem h1]
    have := List.mem_range.mp (List.mem_filter.mp (List.getElem_mem h1)).1
    show ((List.range l.length).filter (isBar l))[i - 1] + 1 ≤ l.length
    omega
end
theorem cut_from (l : List Nat) (b : Nat) : cutL l (some (b : Int)) none = l.drop b := by
  unfold cutL
  have e : clipL l.length 0 (some (b : Int)) = min b l.length := by unfold clipL; simp only []; omega
  rw [e]
  show (l.drop (min b l.length)).take (l.length - min b l.length) = l.drop b
  rcases Nat.le_total b l.length with h | h
  · rw [Nat.min_eq_left h, List.take_of_length_le (by rw [List.length_drop]; exact Nat.le_refl _)]
  · rw [Nat.min_eq_right h, Nat.sub_self, List.take_zero, List.drop_eq_nil_of_le h]
theorem cut_to (l : List Nat) (p : Nat) : cutL l none (some (p : Int)) = l.take p := by
  unfold cutL
  have e : clipL l.length l.length (some (p : Int)) = min p l.length := by unfold clipL; simp only []; omega
  rw [e]
  show (l.drop 0).take (min p l.length - 0) = l.take p
  rw [List.drop_zero, Nat.sub_zero]
  rcases Nat.le_total p l.length with h | h
  · rw [Nat.min_eq_left h]
  · rw [Nat.min_eq_right h, List.take_of_length_le (Nat.le_refl _), List.take_of_length_le h]
theorem cut_any (l : List Nat) (b p : Nat) : cutL l (some (b : Int)) (some (p : Int)) = (l.drop b).take (p - b) := by
  unfold cutL
  have e : clipL l.length 0 (some (b : Int)) = min b l.length := by unfold clipL; simp only []; omega
  have e2 : clipL l.length l.length (some (p : Int)) = min p l.length := by unfold clipL; simp only []; omega
  rw [e, e2]
  rcases Nat.le_total b l.length with h | h
  · rw [Nat.min_eq_left h]
    rcases Nat.le_total p l.length with h2 | h2
    · rw [Nat.min_eq_left h2]
    · rw [Nat.min_eq_right h2, List.take_of_length_le (by rw [List.length_drop]; exact Nat.le_refl _), List.take_of_length_le (by rw [List.length_drop]; omega)]
  · rw [Nat.min_eq_right h, List.drop_eq_nil_of_le h, List.drop_eq_nil_of_le (Nat.le_refl _)]; simp
theorem cut_inner (l : List Nat) (h : 2 ≤ l.length) : cutL l (some 1) (some (-1)) = (l.drop 1).take (l.length - 2) := by
  unfold cutL
  have e : clipL l.length 0 (some 1) = 1 := by unfold clipL; simp only []; omega
  have e2 : clipL l.length l.length (some (-1)) = l.length - 1 := by unfold clipL; simp only []; omega
  rw [e, e2]
  rfl
theorem sl_from (l : List Nat) (b : Nat) : Txt.slice (S l) (some (b : Int)) none = S (l.drop b) := by rw [slice_S, cut_from]
section
variable {P : Program} {w : World} {K : PySem.W.Frag} {mg : Str → Option Value} {base : Heap}
/-! is_name -/
def spName : Sp := fun vs H Q _ => ∃ l : List Nat, vs = [vS l] ∧ l.length ≤ 1000000 ∧ ∀ H', Same H H' → Q (.bl (isNameC l)) H'
def inNames : V → V
  | .str x => .bl (x.cps.toList.all nameSigns.contains)
  | _ => .bl false
/-! name_of -/
def spNameOf : Sp := fun vs H Q _ => ∃ l : List Nat, vs = [vS l] ∧ l.length ≤ 1000000 ∧ isNameC l = true ∧ ∀ H', Same H H' → Q (vS (smallC l)) H'
theorem name_asc {l : List Nat} (h : isNameC l = true) : Asc l := by
  intro c hc
  unfold isNameC at h
  rw [Bool.and_eq_true] at h
  have := List.all_eq_true.mp h.2 c hc
  have key : ∀ x ∈ nameSigns, x < 128 := by decide
  exact key c (by simpa using this)
/-! rest_of_quote -/
def spRest : Sp := fun vs H Q _ => ∃ l : List Nat, vs = [vS l] ∧ l.length ≤ 1000000 ∧ Q (vS (restQ l)) H
/-! heading_level -/
def spHead : Sp := fun vs H Q _ => ∃ l : List Nat, vs = [vS l] ∧ l.length ≤ 1000000 ∧ Q (.int (headC l)) H
theorem tw_dw_len (p : Nat → Bool) (l : List Nat) : (l.takeWhile p).length + (l.dropWhile p).length = l.length := by
  rw [← List.length_append, List.takeWhile_append_dropWhile]
/-! is_cells -/
def spIsC : Sp := fun vs H Q _ => ∃ l : List Nat, vs = [vS l] ∧ l.length ≤ 1000000 ∧ Q (.bl (isCellsC l)) H
end
theorem sl_any (l : List Nat) (b p : Nat) : Txt.slice (S l) (some (b : Int)) (some (p : Int)) = S ((l.drop b).take (p - b)) := by rw [slice_S, cut_any]
def wEmpty : List Nat := [101, 109, 112, 116, 121]
def wQuote : List Nat := [113, 117, 111, 116, 101]
def wFence : List Nat := [102, 101, 110, 99, 101]
def wHeading : List Nat := [104, 101, 97, 100, 105, 110, 103]
def wCells : List Nat := [99, 101, 108, 108, 115]
def wNote : List Nat := [110, 111, 116, 101]
def wName : List Nat := [110, 97, 109, 101]
def wItem : List Nat := [105, 116, 101, 109]
def wPlain : List Nat := [112, 108, 97, 105, 110]
/-- the tuple at p tells the sort -/
def SrtAt (K : PySem.W.Frag) (H : Hp) (p : Addr) : Srt → Prop
  | .empty => H p = some (.tup [vS wEmpty])
  | .fence => H p = some (.tup [vS wFence])
  | .quote r => H p = some (.tup [vS wQuote, vS r])
  | .heading lv w => H p = some (.tup [vS wHeading, .int lv, vS w])
  | .cells ts => ∃ q, H p = some (.tup [vS wCells, .ref q]) ∧ H q = some (.lst (ts.map vS))
  | .note n w => H p = some (.tup [vS wNote, vS n, vS w])
  | .name n t => H p = some (.tup [vS wName, vS n, vS t])
  | .item far sg w => H p = some (.tup [vS wItem, .int far, vS [sg], vS w])
  | .plain far w => H p = some (.tup [vS wPlain, .int far, vS w])
def DefV (K : PySem.W.Frag) (H : Hp) (v : V) : Option Srt → Prop
  | none => v = .non
  | some d => ∃ p, v = .ref p ∧ SrtAt K H p d
/-- what a test tells, the heap grown -/
def Tells (t : TT) (σ : St) (H : Hp) (a : Bool) : Prop := ∀ R : Bool → Hp → Prop, (∀ H', Same H H' → R a H') → t σ H R
theorem t_and {t u : TT} {σ : St} {H : Hp} (a b : Bool) (ht : Tells t σ H a) (hu : a = true → ∀ H1, Same H H1 → Tells u σ H1 b) : Tells (tAnd t u) σ H (a && b) := by
  intro R k
  refine ht _ fun H1 s1 => ?_
  cases a with
  | true => exact hu rfl H1 s1 R fun H' s' => k H' (s1.trans s')
  | false => exact k H1 s1
theorem t_or {t u : TT} {σ : St} {H : Hp} (a b : Bool) (ht : Tells t σ H a) (hu : a = false → ∀ H1, Same H H1 → Tells u σ H1 b) : Tells (tOr t u) σ H (a || b) := by
  intro R k
  refine ht _ fun H1 s1 => ?_
  cases a with
  | false => exact hu rfl H1 s1 R fun H' s' => k H' (s1.trans s')
  | true => exact k H1 s1
theorem t_not {t : TT} {σ : St} {H : Hp} (a : Bool) (ht : Tells t σ H a) : Tells (tNot t) σ H (!a) := fun R k => ht _ fun H1 s1 => k H1 s1
theorem s_if {t : TT} {f g : TS} {D : Ends} {σ : St} {H : Hp} (a : Bool) (ht : Tells t σ H a) (k1 : ∀ H', Same H H' → a = true → f D σ H') (k2 : ∀ H', Same H H' → a = false → g D σ H') : tIfS t f g D σ H :=
  ht _ fun H' s' => ite2 (k1 H' s') fun c => k2 H' s' (Bool.eq_false_iff.mpr c)
/-- a test of a first text -/
theorem t_starts {K : PySem.W.Frag} {te : TE} {σ : St} {H : Hp} {y : Str} (l z : List Nat) (hl : l.length ≤ 1000000) (ey : y = S z) (he : ∀ R' : VK, R' (vS l) H → te σ H R') :
    Tells (tB (tBM K "str" (rS2 fun z y => .bl (Txt.startswith z y)) te (tCons (tC (.str y)) tNil))) σ H (z.isPrefixOf l) := by
  intro R k
  refine he _ ⟨rfl, _, _, rfl, rfl, bigS hl, _, rfl, ?_⟩
  rw [ey, starts_S]
  exact k H (Same.refl H)
section
variable {P : Program} {w : World} {K : PySem.W.Frag} {mg : Str → Option Value} {base : Heap}
/-! definition_of -/
def spDef (K : PySem.W.Frag) : Sp := fun vs H Q _ => ∃ l : List Nat, vs = [vS l] ∧ l.length ≤ 1000000 ∧ ∀ v H', Same H H' → DefV K H' v (defC l) → Q v H'
end
section
variable {P : Program} {w : World} {K : PySem.W.Frag} {mg : Str → Option Value} {base : Heap}
/-! item_or_plain -/
def spItem (K : PySem.W.Frag) : Sp := fun vs H Q _ => ∃ l : List Nat, vs = [vS l] ∧ l.length ≤ 1000000 ∧ ∀ p H', Same H H' → SrtAt K H' p (itemC l) → Q (.ref p) H'
/-! sort_of -/
def spSort (K : PySem.W.Frag) : Sp := fun vs H Q _ => ∃ l : List Nat, vs = [vS l] ∧ l.length ≤ 1000000 ∧ ∀ p H', Same H H' → SrtAt K H' p (sortC l) → Q (.ref p) H'
/-- two texts told apart -/
theorem t_eq {te : TE} {σ : St} {H : Hp} {y : Str} (a b : List Nat) (ey : y = S b) (he : ∀ R' : VK, R' (vS a) H → te σ H R') : Tells (tTest (tOp rEq te (tC (.str y)))) σ H (decide (a = b)) := by
  intro R k
  refine he _ ⟨rfl, _, rfl, ?_⟩
  have : decide (vS a = V.str y) = decide (a = b) := by
    rw [ey]
    exact decide_eq_decide.mpr ⟨fun h => S_inj (V.str.inj h), fun h => by rw [h]⟩
  rw [this]
  exact k H (Same.refl H)
end
theorem for_str {z : Str} {g : TG} {tb : TS} {D : Ends} {σ : St} {H : Hp} (Pv : Nat → St → Hp → Prop) (h0 : Pv 0 σ H)
    (hs : ∀ i c σ H, z.cps.toList[i]? = some c → Pv i σ H → g (.str ⟨#[c]⟩) σ H fun σ2 H2 => tb { D with nx := Pv (i + 1), ct := Pv (i + 1), bk := D.nx } σ2 H2) (hd : ∀ σ H, Pv z.length σ H → D.nx σ H) :
    ∃ W : Nat → Nat → St → Hp → Prop, (∃ m, W 0 m σ H) ∧ ∀ i m σ H, W i m σ H →
      ((Its z).stop i H ∧ D.nx σ H) ∨ ((Its z).go i H ∧ ∃ N : St → Hp → Prop, (∀ σ' H', N σ' H' → ∃ m', m' < m ∧ W (i + 1) m' σ' H') ∧ ∀ x H', (Its z).yld i H x H' → g x σ H' fun σ2 H2 => tb { D with nx := N, ct := N, bk := D.nx } σ2 H2) := by
  refine ⟨fun i m σ H => m = z.length - i ∧ i ≤ z.length ∧ Pv i σ H, ⟨z.length, by simp, Nat.zero_le _, h0⟩, ?_⟩
  rintro i m σ H ⟨rfl, hi, p⟩
  by_cases hlt : i < z.length
  · refine .inr ⟨hlt, Pv (i + 1), fun σ' H' q => ⟨z.length - (i + 1), by omega, rfl, hlt, q⟩, ?_⟩
    rintro x H' ⟨rfl, c, hc, rfl⟩
    exact hs i c σ H' (by simpa using hc) p
  · have e : i = z.length := by omega
    subst e
    exact .inl ⟨Nat.le_refl _, hd σ H p⟩
section
variable {P : Program} {w : World} {K : PySem.W.Frag} {mg : Str → Option Value} {base : Heap}
/-! _law_mixed -/
def spMixed : Sp := fun vs H Q _ => ∃ c k : Int, vs = [.int c, .int k] ∧ 0 ≤ k ∧ k ≤ 100 ∧ ∀ i : Int, 0 ≤ i → Q (.int i) H
/-! _law_signs -/
def spSigns : Sp := fun vs H Q _ => vs = [] ∧ ∀ l : List Nat, Asc l → 0 < l.length → l.length ≤ 1000 → Q (vS l) H
def ascB (x : Str) : Bool := x.cps.toList.all fun c => decide (c < 128)
theorem asc_of {x : Str} (h : ascB x = true) : Asc x.cps.toList := fun c hc => of_decide_eq_true (List.all_eq_true.mp h c hc)
end
def okV (n : Nat) : V → Bool
  | .str x => ascB x && decide (x.length ≤ n)
  | _ => false
theorem okV_txt {n : Nat} {v : V} (h : okV n v = true) : ∃ l, v = vS l ∧ Asc l ∧ l.length ≤ n := by
  cases v with
  | str x =>
    have h : (ascB x && decide (x.length ≤ n)) = true := h
    rw [Bool.and_eq_true] at h
    refine ⟨x.cps.toList, by rw [vS, S_of], asc_of h.1, ?_⟩
    have := of_decide_eq_true h.2
    simpa [Str.length] using this
  | _ => exact Bool.noConfusion h
theorem at_all {xs : List V} {i : Int} {Pr : V → Prop} (h : ∀ v ∈ xs, Pr v) (h0 : 0 ≤ i) (h1 : i < (xs.length : Nat)) : ∃ v, atI xs i = some v ∧ Pr v := by
  have hi : i.toNat < xs.length := by omega
  refine ⟨xs[i.toNat], ?_, h _ (List.getElem_mem hi)⟩
  have := atI_nat (List.getElem?_eq_getElem hi)
  rwa [show ((i.toNat : Nat) : Int) = i by omega] at this
theorem at_ok {xs : List V} {i : Int} {n m : Nat} (h : xs.all (okV n) = true) (hm : xs.length = m) (h0 : 0 ≤ i) (h1 : i < (m : Nat)) : ∃ l, atI xs i = some (vS l) ∧ Asc l ∧ l.length ≤ n := by
  obtain ⟨v, e, p⟩ := at_all (Pr := fun v => okV n v = true) (fun v hv => List.all_eq_true.mp h v hv) h0 (by omega)
  obtain ⟨l, rfl, h2, h3⟩ := okV_txt p
  exact ⟨l, e, h2, h3⟩
theorem asc_app {a b : List Nat} (h : Asc a) (k : Asc b) : Asc (a ++ b) := fun c hc => by
  rcases List.mem_append.mp hc with hc | hc
  · exact h c hc
  · exact k c hc
theorem w_ixl {K : PySem.W.Frag} {H : Hp} {p : Addr} {xs : List V} {i : Int} {n m : Nat} {Q : VK} (hq : SqL K H p xs) (h : xs.all (okV n) = true) (hm : xs.length = m) (h0 : 0 ≤ i) (h1 : i < (m : Nat)) (k : ∀ l, Asc l → l.length ≤ n → Q (vS l) H) : rIxL K (.ref p) (.int i) H Q := by
  obtain ⟨l, e, a, b⟩ := at_ok h hm h0 h1
  exact ⟨p, xs, i, _, rfl, rfl, hq, e, k l a b⟩
theorem w_ixs {H : Hp} {l : List Nat} {i : Int} {Q : VK} (hl : l.length ≤ 1000000) (h0 : 0 ≤ i) (h1 : i < (l.length : Nat)) (k : Q (vS [l.getD i.toNat 0]) H) : rIxS (vS l) (.int i) H Q := by
  have e := at_S (l := l) (i := i.toNat) (by omega)
  rw [show ((i.toNat : Nat) : Int) = i by omega] at e
  exact ⟨_, i, _, rfl, rfl, bigS hl, e, k⟩
section
variable {P : Program} {w : World} {K : PySem.W.Frag} {mg : Str → Option Value} {base : Heap}
/-! _law_row -/
def spRow : Sp := fun vs H Q _ => ∃ c : Int, vs = [.int c] ∧ ∀ l H', Asc l → l.length ≤ 1000 → Same H H' → Q (vS l) H'
end
/-- text, told apart -/
theorem t_ne {te : TE} {σ : St} {H : Hp} {y : Str} (a b : List Nat) (ey : y = S b) (he : ∀ R' : VK, R' (vS a) H → te σ H R') : Tells (tTest (tOp rNe te (tC (.str y)))) σ H (decide (a ≠ b)) := by
  intro R k
  refine he _ ⟨rfl, _, rfl, ?_⟩
  have : (!decide (vS a = V.str y)) = decide (a ≠ b) := by
    rw [ey, ← decide_not]
    exact decide_eq_decide.mpr ⟨fun h e => h (by rw [e]), fun h e => h (S_inj (V.str.inj e))⟩
  rw [this]
  exact k H (Same.refl H)
theorem at_last (xs : List (List Nat)) (x : List Nat) : atI ((xs ++ [x]).map vS) (-1) = some (vS x) := by
  rw [List.map_append]; exact atI_last _ _
theorem ix_last (xs : List (List Nat)) (x : List Nat) : ixN ((xs ++ [x]).map vS).length (-1) = some xs.length := by
  unfold ixN
  rw [List.length_map, List.length_append, List.length_singleton, if_neg (by decide), if_pos (by omega)]
  congr 1
  omega
theorem set_last (xs : List (List Nat)) (x y : List Nat) : ((xs ++ [x]).map vS).set xs.length (vS y) = (xs ++ [y]).map vS := by
  rw [List.map_append, List.map_append, List.set_append_right _ _ (by simp)]
  simp
/-- what is read of the words ahead -/
theorem words_end {l cur : List Nat} {ds : List (List Nat)} (h : ∀ r, wordsC (l ++ r) = ds ++ wordsC (cur ++ r)) (hc : 32 ∉ cur) (hd : ∀ d ∈ ds, d ≠ []) : (ds ++ [cur]).filter (fun w => decide (w ≠ [])) = wordsC l := by
  have e := h []
  rw [List.append_nil, List.append_nil] at e
  rw [e, List.filter_append, List.filter_eq_self.mpr fun d hd' => decide_eq_true (hd d hd')]
  congr 1
  by_cases z : cur = []
  · subst z; rfl
  · rw [words_one cur hc z]
    simp [z]
/-! what an expression tells, the heap as it was -/
def Ev (te : TE) (σ : St) (H : Hp) (v : V) : Prop := ∀ R : VK, R v H → te σ H R
def EvO (t : TO) (σ : St) (H : Hp) (o : Option Int) : Prop := ∀ R : Option Int → Hp → Prop, R o H → t σ H R
section
variable {σ : St} {H : Hp} {ta tb : TE} {i j : Int} {a b l : List Nat} {v : V}
theorem ev_v {k : Nat} (h : σ[k]? = some (some v)) : Ev (tVar k) σ H v := fun R r => ⟨v, h, r⟩
theorem ev_c : Ev (tC v) σ H v := fun R r => r
theorem ev_lit {y : Str} (e : y = S b) : Ev (tC (.str y)) σ H (vS b) := fun R r => by rw [e]; exact r
theorem ev_len (hl : l.length ≤ 1000000) (h : Ev ta σ H (vS l)) : Ev (tCB (fun xs H Q => ∃ z, xs = [.str z] ∧ z.length ≤ sizeLine ∧ Q (.int z.length) H) (tCons ta tNil)) σ H (.int l.length) := fun R r =>
  h _ ⟨_, rfl, bigS hl, by rw [S_len]; exact r⟩
theorem ev_op {g : Int → Int → V} (h1 : Ev ta σ H (.int i)) (h2 : Ev tb σ H (.int j)) (e : g i j = v) : Ev (tOp (rI0 g) ta tb) σ H v := fun R r => h1 _ (h2 _ ⟨i, j, rfl, rfl, by rw [e]; exact r⟩)
theorem ev_un {g : Int → V} (h1 : Ev ta σ H (.int i)) (e : g i = v) : Ev (tUn (rU g) ta) σ H v := fun R r => h1 _ ⟨i, rfl, by rw [e]; exact r⟩
theorem ev_ix (hl : l.length ≤ 1000000) (h1 : Ev ta σ H (vS l)) (h2 : Ev tb σ H (.int i)) (h0 : 0 ≤ i) (hi : i < (l.length : Nat)) : Ev (tOp rIxS ta tb) σ H (vS [l.getD i.toNat 0]) := fun R r => h1 _ (h2 _ (w_ixs hl h0 hi r))
theorem evo_n : EvO tNoPart σ H none := fun R r => r
theorem evo_s (h : Ev ta σ H (.int i)) : EvO (tPart ta) σ H (some i) := fun R r => h _ ⟨i, rfl, r⟩
theorem ev_sl {tl th : TO} {lo hi : Option Int} (hl : l.length ≤ 1000000) (h1 : Ev ta σ H (vS l)) (h2 : EvO tl σ H lo) (h3 : EvO th σ H hi) (e : cutL l lo hi = a) : Ev (tSl rSlS ta tl th) σ H (vS a) := fun R r =>
  h1 _ (h2 _ (h3 _ ⟨_, rfl, bigS hl, by rw [slice_S, e]; exact r⟩))
theorem ev_cat (h1 : Ev ta σ H (vS a)) (h2 : Ev tb σ H (vS b)) (hz : a.length + b.length ≤ 1000000) : Ev (tOp (fun x y H Q => ∃ i j, x = .str i ∧ y = .str j ∧ i.length + j.length ≤ sizeLine ∧ Q (.str (i ++ j)) H) ta tb) σ H (vS (a ++ b)) := fun R r =>
  h1 _ (h2 _ ⟨_, _, rfl, rfl, by rw [S_len, S_len]; exact big hz, by rw [S_app]; exact r⟩)
theorem t_eqs (h1 : Ev ta σ H (vS a)) (h2 : Ev tb σ H (vS b)) : Tells (tTest (tOp rEq ta tb)) σ H (decide (a = b)) := fun R k => h1 _ (h2 _ ⟨rfl, _, rfl, by
  have : decide (vS a = vS b) = decide (a = b) := decide_eq_decide.mpr ⟨fun h => S_inj (V.str.inj h), fun h => by rw [h]⟩
  rw [this]
  exact k H (Same.refl H)⟩)
theorem t_nes (h1 : Ev ta σ H (vS a)) (h2 : Ev tb σ H (vS b)) : Tells (tTest (tOp rNe ta tb)) σ H (decide (a ≠ b)) := fun R k => h1 _ (h2 _ ⟨rfl, _, rfl, by
  have : (!decide (vS a = vS b)) = decide (a ≠ b) := by
    rw [← decide_not]
    exact decide_eq_decide.mpr ⟨fun h e => h (by rw [e]), fun h e => h (S_inj (V.str.inj e))⟩
  rw [this]
  exact k H (Same.refl H)⟩)
theorem t_eqi (h1 : Ev ta σ H (.int i)) (h2 : Ev tb σ H (.int j)) : Tells (tTest (tOp rEq ta tb)) σ H (decide (i = j)) := fun R k => h1 _ (h2 _ ⟨rfl, _, rfl, by
  rw [show decide (V.int i = V.int j) = decide (i = j) from decide_eq_decide.mpr ⟨fun h => V.int.inj h, fun h => by rw [h]⟩]
  exact k H (Same.refl H)⟩)
theorem t_cmp {g : Int → Int → V} {c : Bool} (h1 : Ev ta σ H (.int i)) (h2 : Ev tb σ H (.int j)) (e : g i j = .bl c) : Tells (tTest (tOp (rI0 g) ta tb)) σ H c := fun R k => h1 _ (h2 _ ⟨i, j, rfl, rfl, _, e, k H (Same.refl H)⟩)
theorem t_in (c : Nat) (h1 : Ev ta σ H (vS [c])) (h2 : Ev tb σ H (vS l)) : Tells (tTest (tOp (fun x y H Q => ∃ i j, x = .str i ∧ y = .str j ∧ Q (.bl (!(Builtin.Str.occurrences j i 0 j.length 1).isEmpty)) H) ta tb)) σ H (l.contains c) := fun R k =>
  h1 _ (h2 _ ⟨_, _, rfl, rfl, _, rfl, by rw [contains_S]; exact k H (Same.refl H)⟩)
theorem t_notin (c : Nat) (h1 : Ev ta σ H (vS [c])) (h2 : Ev tb σ H (vS l)) : Tells (tTest (tOp (fun x y H Q => ∃ i j, x = .str i ∧ y = .str j ∧ Q (.bl (!(!(Builtin.Str.occurrences j i 0 j.length 1).isEmpty))) H) ta tb)) σ H (!l.contains c) := fun R k =>
  h1 _ (h2 _ ⟨_, _, rfl, rfl, _, rfl, by rw [contains_S]; exact k H (Same.refl H)⟩)
end
theorem while_t {c : TT} {tb : TS} {D : Ends} {σ : St} {H : Hp} (Pv : Nat → St → Hp → Prop) (m0 : Nat) (h0 : Pv m0 σ H)
    (hs : ∀ m σ H, Pv m σ H → ∃ a, Tells c σ H a ∧ (a = true → ∀ H', Same H H' → tb { D with nx := fun σ' H' => ∃ m', m' < m ∧ Pv m' σ' H', ct := fun σ' H' => ∃ m', m' < m ∧ Pv m' σ' H', bk := D.nx } σ H') ∧ (a = false → ∀ H', Same H H' → D.nx σ H')) : tWhile c tb D σ H := by
  refine ⟨Pv, ⟨m0, h0⟩, fun m σ H p => ?_⟩
  obtain ⟨a, ht, h1, h2⟩ := hs m σ H p
  exact ht _ fun H' s' => ite2 (fun c => ⟨fun σ' H' => ∃ m', m' < m ∧ Pv m' σ' H', fun σ' H' h => h, h1 c H' s'⟩) fun c => h2 (Bool.eq_false_iff.mpr c) H' s'
/-! ### the bounds -/
def endC (l : List Nat) : Nat := if bareC l = [] then l.length else (bareC l).length
theorem begC_of {l : List Nat} {i : Nat} (hi : i ≤ l.length) (hb : ∀ c ∈ l.take i, c = 32) (he : i = l.length ∨ l.getD i 0 ≠ 32) : begC l = i := by
  unfold begC
  have e : l = l.take i ++ l.drop i := (List.take_append_drop i l).symm
  have h1 : (l.take i ++ l.drop i).takeWhile ([32] : List Nat).contains = l.take i ++ (l.drop i).takeWhile ([32] : List Nat).contains :=
    List.takeWhile_append_of_pos fun c hc => by simp [hb c hc]
  rw [← e] at h1
  have h2 : (l.drop i).takeWhile ([32] : List Nat).contains = [] := by
    cases hd : l.drop i with
    | nil => rfl
    | cons x r =>
      rcases he with he | he
      · rw [he, List.drop_length] at hd; cases hd
      · have hx : l.getD i 0 = x := by
          have : l[i]? = some x := by
            have := congrArg (fun t => t[0]?) hd
            simpa using this
          rw [List.getD_eq_getElem?_getD, this]; rfl
        rw [hx] at he
        rw [List.takeWhile_cons_of_neg (by simpa using he)]
  rw [h1, h2, List.append_nil, List.length_take]
  omega
theorem endC_of {l : List Nat} {j : Nat} (hb : begC l ≤ j) (hj : j ≤ l.length) (hd : ∀ c ∈ l.drop j, c = 32) (he : j = begC l ∨ l.getD (j - 1) 0 ≠ 32) : endC l = j := by
  unfold endC
  by_cases hn : bareC l = []
  · rw [if_pos hn]
    have := (begC_len_iff l).mpr hn
    omega
  · rw [if_neg hn]
    obtain ⟨t, e, ht, hh⟩ := rstrip_split ([32] : List Nat).contains l
    have hlt := beg_lt l hn
    have hlen : l.length = (bareC l).length + t.length := by
      have := congrArg List.length e
      rw [List.length_append] at this
      exact this
    rcases hh with hh | ⟨q, y, e2, hy⟩
    · exact absurd hh hn
    have e2 : bareC l = q ++ [y] := e2
    have hy : y ≠ 32 := by simpa using hy
    have hbl : (bareC l).length = q.length + 1 := by rw [e2]; simp
    have hly : l[q.length]? = some y := by
      rw [e]
      show (bareC l ++ t)[q.length]? = some y
      rw [e2]
      simp
    have h1 : (bareC l).length ≤ j := by
      rcases Nat.lt_or_ge j (bareC l).length with h | h
      · exfalso
        refine hy (hd y ?_)
        have : (l.drop j)[q.length - j]? = some y := by
          rw [List.getElem?_drop, show j + (q.length - j) = q.length by omega]; exact hly
        exact List.mem_of_getElem? this
      · exact h
    rcases he with he | he
    · omega
    rcases Nat.lt_or_ge (bareC l).length j with h | h
    · exfalso
      refine he ?_
      have h3 : j - 1 < l.length := by omega
      have h4 : l[j - 1]? = t[j - 1 - (bareC l).length]? := by
        conv => lhs; rw [e]
        exact List.getElem?_append_right (show (bareC l).length ≤ j - 1 by omega)
      have h5 : j - 1 - (bareC l).length < t.length := by omega
      rw [List.getD_eq_getElem?_getD, h4, List.getElem?_eq_getElem h5]
      have := ht _ (List.getElem_mem h5)
      show t[j - 1 - (bareC l).length] = 32
      simpa using this
    · omega
section
variable {P : Program} {w : World} {K : PySem.W.Frag} {mg : Str → Option Value} {base : Heap}
/-! _law_bounds -/
def spBounds : Sp := fun vs H Q _ => ∃ l : List Nat, vs = [vS l] ∧ l.length ≤ 1000000 ∧ ∀ p H', Same H H' → H' p = some (.tup [.int (begC l), .int (endC l)]) → Q (.ref p) H'
end
theorem raw_last (l : List Nat) : ∃ ds cur, rawCells l = ds ++ [cur] ∧ cur.length ≤ l.length ∧ ds.length ≤ l.length := by
  rcases List.eq_nil_or_concat (rawCells l) with h | ⟨ds, cur, h⟩
  · exact absurd h (rawCells_ne l)
  · rw [List.concat_eq_append] at h
    refine ⟨ds, cur, h, ?_, ?_⟩
    · have := raw_sum l 0
      rw [show cellsAux 0 l = rawCells l from rfl, h] at this
      rw [List.map_append, List.sum_append, List.length_append] at this
      simp only [List.map_cons, List.map_nil, List.sum_cons, List.sum_nil, List.length_singleton] at this
      omega
    · have := raw_count l
      rw [h, List.length_append, List.length_singleton] at this
      omega
theorem addLast_of (x : Nat) (ds : List (List Nat)) (cur : List Nat) : addLast x (ds ++ [cur]) = ds ++ [cur ++ [x]] := by simp [addLast]
theorem cut_init (l : List Nat) : cutL l none (some (-1)) = l.dropLast := by
  unfold cutL
  have e : clipL l.length l.length (some (-1)) = l.length - 1 := by unfold clipL; simp only []; omega
  rw [e, List.dropLast_eq_take]
  rfl
theorem take_last (l : List Nat) (i : Nat) (h : i < l.length) : (l.take (i + 1)).getLastD 0 = l.getD i 0 := by
  rw [List.take_succ, getD_some h]
  simp
section
variable {P : Program} {w : World} {K : PySem.W.Frag} {mg : Str → Option Value} {base : Heap}
/-! _law_cells -/
def tidyV : V → V
  | .str x => vS (tidyC x.cps.toList)
  | v => v
/-! _law_name -/
def nameV (l : List Nat) : V := if isNameC l = true then vS (smallC l) else .non
def spLName : Sp := fun vs H Q _ => ∃ l : List Nat, vs = [vS l] ∧ l.length ≤ 1000000 ∧ Q (nameV l) H
def greatC : List Nat := [65, 66, 67, 68, 69, 70, 71, 72, 73, 74, 75, 76, 77, 78, 79, 80, 81, 82, 83, 84, 85, 86, 87, 88, 89, 90]
def littleC : List Nat := [97, 98, 99, 100, 101, 102, 103, 104, 105, 106, 107, 108, 109, 110, 111, 112, 113, 114, 115, 116, 117, 118, 119, 120, 121, 122]
def figC : List Nat := [48, 49, 50, 51, 52, 53, 54, 55, 56, 57]
theorem names_split (c : Nat) : (greatC ++ littleC ++ figC).contains c = nameSigns.contains c := by
  have e : nameSigns = littleC ++ greatC ++ figC := rfl
  rw [e, Bool.eq_iff_iff, List.contains_iff_mem, List.contains_iff_mem]
  simp only [List.mem_append]
  constructor
  · rintro ((h | h) | h)
    · exact .inl (.inr h)
    · exact .inl (.inl h)
    · exact .inr h
  · rintro ((h | h) | h)
    · exact .inl (.inr h)
    · exact .inl (.inl h)
    · exact .inr h
theorem great_at : ∀ c ∈ greatC, (Builtin.Str.occurrences (S greatC) (S [c]) 0 (S greatC).length 1) = [c - 65] ∧ littleC.getD (c - 65) 0 = PyProof.Rows.lo1 c ∧ c - 65 < 26 := by decide +kernel
theorem small_at : ∀ c ∈ nameSigns, greatC.contains c = false → PyProof.Rows.lo1 c = c := by decide +kernel
end
theorem pre_take (y x : List Nat) : y <+: x ↔ x.take y.length = y := by
  rw [List.prefix_iff_eq_take]
  exact ⟨fun h => h.symm, fun h => h.symm⟩
theorem find_end {l : List Nat} (h : ∀ k, k < l.length → (l.drop k).take 3 ≠ [93, 58, 32]) : findL [93, 58, 32] l = none := by
  rw [findL_none]
  rintro i ⟨hi, hp⟩
  rw [pre_take] at hp
  rcases Nat.lt_or_ge i l.length with z | z
  · exact h i z hp
  · rw [List.drop_eq_nil_of_le z] at hp; cases hp
theorem find_at {l : List Nat} {i : Nat} (hi : i ≤ l.length) (h : ∀ k, k < i → (l.drop k).take 3 ≠ [93, 58, 32]) (e : (l.drop i).take 3 = [93, 58, 32]) : findL [93, 58, 32] l = some i := by
  rw [findL_some]
  refine ⟨⟨hi, (pre_take _ _).mpr e⟩, ?_⟩
  rintro k hk ⟨_, hp⟩
  exact h k hk ((pre_take _ _).mp hp)
theorem nameV_non (l : List Nat) : (!decide (nameV l = V.non)) = isNameC l := by
  unfold nameV
  cases h : isNameC l with
  | true => rw [if_pos rfl]; rfl
  | false => rw [if_neg (by decide)]; rfl
theorem nameV_pos {l : List Nat} (h : isNameC l = true) : nameV l = vS (smallC l) := by unfold nameV; rw [if_pos h]
theorem flush_head {l b : List Nat} {i : Nat} (h1 : b.headD 0 ≠ 62) (h2 : b ≠ [126, 126, 126]) (hi : i < 3) (hk : ∀ k, k < i → b.take (k + 2) ≠ List.replicate (k + 1) 61 ++ [32]) (e : b.take (i + 2) = List.replicate (i + 1) 61 ++ [32]) :
    flushL l b = some (.heading (i + 1) (tidyC (b.drop (i + 1)))) := by
  unfold flushL
  rw [if_neg h1, if_neg h2]
  match i, hi, hk, e with
  | 0, _, _, e => rw [if_pos (show b.take 2 = [61, 32] from e)]
  | 1, _, hk, e => rw [if_neg (show b.take 2 ≠ [61, 32] from hk 0 (by omega)), if_pos (show b.take 3 = [61, 61, 32] from e)]
  | 2, _, hk, e => rw [if_neg (show b.take 2 ≠ [61, 32] from hk 0 (by omega)), if_neg (show b.take 3 ≠ [61, 61, 32] from hk 1 (by omega)), if_pos (show b.take 4 = [61, 61, 61, 32] from e)]
theorem flush_on {l b : List Nat} (h1 : b.headD 0 ≠ 62) (h2 : b ≠ [126, 126, 126]) (hk : ∀ k, k < 3 → b.take (k + 2) ≠ List.replicate (k + 1) 61 ++ [32]) :
    flushL l b = if 1 < b.length ∧ b.headD 0 = 124 ∧ b.getLastD 0 = 124 ∧ (b.take (b.length - 1)).drop (b.length - 2) ≠ [92] then some (.cells (cellsC ((b.drop 1).take (b.length - 2)))) else defC b := by
  unfold flushL
  rw [if_neg h1, if_neg h2, if_neg (show b.take 2 ≠ [61, 32] from hk 0 (by omega)), if_neg (show b.take 3 ≠ [61, 61, 32] from hk 1 (by omega)), if_neg (show b.take 4 ≠ [61, 61, 61, 32] from hk 2 (by omega))]
theorem headD_getD (b : List Nat) : b.headD 0 = b.getD 0 0 := by cases b <;> rfl
theorem cut_tail (b : List Nat) (h : 2 ≤ b.length) : cutL b (some (-2)) (some (-1)) = (b.take (b.length - 1)).drop (b.length - 2) := by
  unfold cutL
  have e1 : clipL b.length 0 (some (-2)) = b.length - 2 := by unfold clipL; simp only []; omega
  have e2 : clipL b.length b.length (some (-1)) = b.length - 1 := by unfold clipL; simp only []; omega
  rw [e1, e2, List.drop_take]
theorem ev_ixl {σ : St} {H : Hp} {ta tb : TE} {l : List Nat} (hl : l.length ≤ 1000000) (h1 : Ev ta σ H (vS l)) (h2 : Ev tb σ H (.int (-1))) (hn : l ≠ []) : Ev (tOp rIxS ta tb) σ H (vS [l.getLastD 0]) := fun R r => by
  refine h1 _ (h2 _ ⟨_, _, l.getLastD 0, rfl, rfl, bigS hl, ?_, r⟩)
  rw [S_list]
  rcases List.eq_nil_or_concat l with h | ⟨q, y, h⟩
  · exact absurd h hn
  · rw [h, List.concat_eq_append, atI_last]
    simp
theorem dec_one (a b : Nat) : decide ([a] = [b]) = decide (a = b) := decide_eq_decide.mpr ⟨fun h => by simpa using h, fun h => by rw [h]⟩
section
variable {P : Program} {w : World} {K : PySem.W.Frag} {mg : Str → Option Value} {base : Heap}
/-! _law_flush -/
def spFlush (K : PySem.W.Frag) : Sp := fun vs H Q _ => ∃ l b : List Nat, vs = [vS l, vS b] ∧ l.length ≤ 1000000 ∧ b.length ≤ 1000000 ∧ b ≠ [] ∧ ∀ v H', Same H H' → DefV K H' v (flushL l b) → Q v H'
/-! _law_due -/
theorem end_bare (l : List Nat) (h : bareC l ≠ []) : endC l = (bareC l).length := by unfold endC; rw [if_neg h]
end
/-! ### sorts as data -/
def dT (ts : List (List Nat)) : List PyData := ts.map fun t => .str (S t)
def dataOf : Srt → PyData
  | .empty => .tuple [.str (S wEmpty)]
  | .fence => .tuple [.str (S wFence)]
  | .quote r => .tuple [.str (S wQuote), .str (S r)]
  | .heading lv w => .tuple [.str (S wHeading), .int lv, .str (S w)]
  | .cells ts => .tuple [.str (S wCells), .list (dT ts)]
  | .note n w => .tuple [.str (S wNote), .str (S n), .str (S w)]
  | .name n t => .tuple [.str (S wName), .str (S n), .str (S t)]
  | .item far sg w => .tuple [.str (S wItem), .int far, .str (S [sg]), .str (S w)]
  | .plain far w => .tuple [.str (S wPlain), .int far, .str (S w)]
def AscS : Srt → Prop
  | .empty => True
  | .fence => True
  | .quote r => Asc r
  | .heading _ w => Asc w
  | .cells ts => ∀ t ∈ ts, Asc t
  | .note n w => Asc n ∧ Asc w
  | .name n t => Asc n ∧ Asc t
  | .item _ sg w => sg < 128 ∧ Asc w
  | .plain _ w => Asc w
theorem dep_dT : ∀ ts : List (List Nat), PyData.depthAll (dT ts) ≤ 1
  | [] => by simp [dT, PyData.depthAll]
  | t :: ts => by
    have := dep_dT ts
    unfold dT at this ⊢
    rw [List.map_cons]
    simp only [PyData.depthAll, PyData.depth]
    omega
theorem dep_data : ∀ r : Srt, (dataOf r).depth ≤ 6
  | .cells ts => by
    have := dep_dT ts
    simp only [dataOf, PyData.depth, PyData.depthAll]
    omega
  | .empty => by simp [dataOf, PyData.depth, PyData.depthAll]
  | .fence => by simp [dataOf, PyData.depth, PyData.depthAll]
  | .quote r => by simp [dataOf, PyData.depth, PyData.depthAll]
  | .heading lv w => by simp [dataOf, PyData.depth, PyData.depthAll]
  | .note n w => by simp [dataOf, PyData.depth, PyData.depthAll]
  | .name n t => by simp [dataOf, PyData.depth, PyData.depthAll]
  | .item far sg w => by simp [dataOf, PyData.depth, PyData.depthAll]
  | .plain far w => by simp [dataOf, PyData.depth, PyData.depthAll]
section
variable {K : PySem.W.Frag} {H : Hp}
theorem den_S {l : List Nat} (h : Asc l) : Den K H (vS l) (.str (S l)) := .str _ (strOk_S h)
theorem den_dT : ∀ {ts : List (List Nat)}, (∀ t ∈ ts, Asc t) → DenAll K H (ts.map vS) (dT ts)
  | [], _ => .nil
  | t :: ts, h => .cons (den_S (h t (List.mem_cons_self ..))) (den_dT fun u hu => h u (List.mem_cons_of_mem _ hu))
theorem tupT {p : Addr} {xs : List V} (h : H p = some (.tup xs)) : SqT K H p xs := .inl (.inl h)
theorem SrtAt.den {p : Addr} : ∀ {r : Srt}, SrtAt K H p r → AscS r → Den K H (.ref p) (dataOf r)
  | .empty, h, _ => .tup (tupT h) (.cons (den_S (show ∀ c ∈ wEmpty, c < 128 by decide)) .nil)
  | .fence, h, _ => .tup (tupT h) (.cons (den_S (show ∀ c ∈ wFence, c < 128 by decide)) .nil)
  | .quote r, h, a => .tup (tupT h) (.cons (den_S (show ∀ c ∈ wQuote, c < 128 by decide)) (.cons (den_S a) .nil))
  | .heading lv w, h, a => .tup (tupT h) (.cons (den_S (show ∀ c ∈ wHeading, c < 128 by decide)) (.cons (.int _) (.cons (den_S a) .nil)))
  | .cells ts, ⟨q, h, hq⟩, a => .tup (tupT h) (.cons (den_S (show ∀ c ∈ wCells, c < 128 by decide)) (.cons (.lst (SqL.of hq) (den_dT a)) .nil))
  | .note n w, h, a => .tup (tupT h) (.cons (den_S (show ∀ c ∈ wNote, c < 128 by decide)) (.cons (den_S a.1) (.cons (den_S a.2) .nil)))
  | .name n t, h, a => .tup (tupT h) (.cons (den_S (show ∀ c ∈ wName, c < 128 by decide)) (.cons (den_S a.1) (.cons (den_S a.2) .nil)))
  | .item far sg w, h, a => .tup (tupT h) (.cons (den_S (show ∀ c ∈ wItem, c < 128 by decide)) (.cons (.int _) (.cons (den_S fun c hc => (show c = sg by simpa using hc) ▸ a.1) (.cons (den_S a.2) .nil))))
  | .plain far w, h, a => .tup (tupT h) (.cons (den_S (show ∀ c ∈ wPlain, c < 128 by decide)) (.cons (.int _) (.cons (den_S a) .nil)))
end
/-! ### what sort_of tells is of the row's signs -/
theorem asc_cutL {l : List Nat} (h : Asc l) (a b : Nat) : Asc ((l.drop a).take b) := (h.drop a).take b
theorem asc_sort {l : List Nat} (h : Asc l) : AscS (sortC l) := by
  have hb := h.bare
  unfold sortC
  simp only []
  split
  · trivial
  split
  · unfold restQ; split <;> exact h.drop _
  split
  · trivial
  split
  · exact (hb.drop _).tidy
  split
  · intro t ht; exact (asc_cutL hb _ _).cells ht
  have hi : AscS (itemC (bareC l)) := by
    unfold itemC
    simp only []
    split
    · refine ⟨?_, ((hb.dw _).drop _).tidy⟩
      cases hd : (bareC l).dropWhile ([32] : List Nat).contains with
      | nil => decide
      | cons x r => exact (hb.dw ([32] : List Nat).contains) x (by rw [hd]; exact List.mem_cons_self ..)
    · exact (hb.dw _).tidy
  cases hd : defC (bareC l) with
  | none => exact hi
  | some d =>
    unfold defC at hd
    split at hd
    · cases hd
    · split at hd
      · cases hd
      split at hd
      · cases hd
        exact ⟨(asc_cutL hb _ _).small, (hb.drop _).tidy⟩
      split at hd
      · cases hd
        refine ⟨(asc_cutL hb _ _).small, ?_⟩
        cases hw : wordsC ((bareC l).drop _) with
        | nil => exact fun c hc => by cases hc
        | cons x r => exact (hb.drop _).word (by rw [hw]; exact List.mem_cons_self ..)
      · cases hd
def lastW : Srt → Option (List Nat)
  | .heading _ w => some w
  | .note _ w => some w
  | .item _ _ w => some w
  | .plain _ w => some w
  | _ => none
theorem last_tidy {l w : List Nat} (h : lastW (sortC l) = some w) : tidyC w = w ∧ w.length ≤ l.length := by
  have hbl := bare_len l
  have fin : ∀ x : List Nat, x.length ≤ l.length → w = tidyC x → tidyC w = w ∧ w.length ≤ l.length := fun x hx e => by
    subst e
    exact ⟨tidy_tidy x, Nat.le_trans (tidy_len x) hx⟩
  unfold sortC at h
  simp only [] at h
  split at h
  · cases h
  split at h
  · cases h
  split at h
  · cases h
  split at h
  · cases h
    exact fin _ (by rw [List.length_drop]; omega) rfl
  split at h
  · cases h
  have hdw := tw_dw_len ([32] : List Nat).contains (bareC l)
  have hi : lastW (itemC (bareC l)) = some w → tidyC w = w ∧ w.length ≤ l.length := by
    intro h
    unfold itemC at h
    simp only [] at h
    split at h
    · cases h
      exact fin _ (by rw [List.length_drop]; omega) rfl
    · cases h
      exact fin _ (by omega) rfl
  cases hd : defC (bareC l) with
  | none => rw [hd] at h; exact hi h
  | some d =>
    rw [hd] at h
    unfold defC at hd
    split at hd
    · cases hd
    · split at hd
      · cases hd
      split at hd
      · cases hd
        cases h
        exact fin _ (by rw [List.length_drop]; omega) rfl
      split at hd
      · cases hd
        cases h
      · cases hd
/-- the tuple: its first, what is behind, and its last -/
def kindW : Srt → List Nat
  | .empty => wEmpty
  | .fence => wFence
  | .quote _ => wQuote
  | .heading _ _ => wHeading
  | .cells _ => wCells
  | .note _ _ => wNote
  | .name _ _ => wName
  | .item _ _ _ => wItem
  | .plain _ _ => wPlain
inductive Flat (K : PySem.W.Frag) (H : Hp) : V → Prop where
  | int (i : Int) : Flat K H (.int i)
  | str (x : Str) : Flat K H (.str x)
  | lst {q : Addr} {xs : List V} : H q = some (.lst xs) → Flat K H (.ref q)
theorem SrtAt.parts {K : PySem.W.Frag} {H : Hp} {p : Addr} : ∀ {r : Srt}, SrtAt K H p r → ∃ ys, H p = some (.tup (vS (kindW r) :: ys)) ∧ (∀ y ∈ ys, Flat K H y) ∧ ∀ w, lastW r = some w → ∃ zs, ys = zs ++ [vS w]
  | .empty, h => ⟨[], h, (fun _ z => nomatch z), (fun _ z => nomatch z)⟩
  | .fence, h => ⟨[], h, (fun _ z => nomatch z), (fun _ z => nomatch z)⟩
  | .quote r, h => ⟨[vS r], h, fun y z => by rw [show y = vS r by simpa using z]; exact .str _, fun _ z => nomatch z⟩
  | .heading lv w, h => ⟨[.int lv, vS w], h, fun y z => by
      rcases List.mem_cons.mp z with rfl | z
      · exact .int _
      · rw [show y = vS w by simpa using z]; exact .str _, fun u z => ⟨[.int lv], by cases z; rfl⟩⟩
  | .cells ts, ⟨q, h, hq⟩ => ⟨[.ref q], h, fun y z => by rw [show y = .ref q by simpa using z]; exact .lst hq, fun _ z => nomatch z⟩
  | .note n w, h => ⟨[vS n, vS w], h, fun y z => by
      rcases List.mem_cons.mp z with rfl | z
      · exact .str _
      · rw [show y = vS w by simpa using z]; exact .str _, fun u z => ⟨[vS n], by cases z; rfl⟩⟩
  | .name n t, h => ⟨[vS n, vS t], h, fun y z => by
      rcases List.mem_cons.mp z with rfl | z
      · exact .str _
      · rw [show y = vS t by simpa using z]; exact .str _, fun _ z => nomatch z⟩
  | .item far sg w, h => ⟨[.int far, vS [sg], vS w], h, fun y z => by
      rcases List.mem_cons.mp z with rfl | z
      · exact .int _
      rcases List.mem_cons.mp z with rfl | z
      · exact .str _
      · rw [show y = vS w by simpa using z]; exact .str _, fun u z => ⟨[.int far, vS [sg]], by cases z; rfl⟩⟩
  | .plain far w, h => ⟨[.int far, vS w], h, fun y z => by
      rcases List.mem_cons.mp z with rfl | z
      · exact .int _
      · rw [show y = vS w by simpa using z]; exact .str _, fun u z => ⟨[.int far], by cases z; rfl⟩⟩
theorem SrtAt.len {K : PySem.W.Frag} {H : Hp} {p : Addr} {ys : List V} (e : H p = some (.tup ys)) : ∀ {r : Srt}, SrtAt K H p r → ys.length ≤ 4
  | .empty, h => by rw [show H p = _ from h] at e; cases e; decide
  | .fence, h => by rw [show H p = _ from h] at e; cases e; decide
  | .quote r, h => by rw [show H p = _ from h] at e; cases e; simp
  | .heading lv w, h => by rw [show H p = _ from h] at e; cases e; simp
  | .cells ts, ⟨q, h, hq⟩ => by rw [h] at e; cases e; simp
  | .note n w, h => by rw [show H p = _ from h] at e; cases e; simp
  | .name n t, h => by rw [show H p = _ from h] at e; cases e; simp
  | .item far sg w, h => by rw [show H p = _ from h] at e; cases e; simp
  | .plain far w, h => by rw [show H p = _ from h] at e; cases e; simp
theorem SrtAt.same {K : PySem.W.Frag} {H H' : Hp} {p : Addr} (e : Same H H') : ∀ {r : Srt}, SrtAt K H p r → SrtAt K H' p r
  | .empty, h => e _ _ h
  | .fence, h => e _ _ h
  | .quote r, h => e _ _ h
  | .heading lv w, h => e _ _ h
  | .cells ts, ⟨q, h, hq⟩ => ⟨q, e _ _ h, e _ _ hq⟩
  | .note n w, h => e _ _ h
  | .name n t, h => e _ _ h
  | .item far sg w, h => e _ _ h
  | .plain far w, h => e _ _ h
theorem kind_in (r : Srt) : inV (vS (kindW r)) [vS wHeading, vS wNote, vS wItem, vS wPlain] = (lastW r).isSome := by
  cases r <;> rfl
theorem Flat.ty {K : PySem.W.Frag} {H : Hp} {v : V} (h : Flat K H v) : ∃ t, TyOf K H v t ∧ PySem.W.kitOne K t (.type "bool") = some false := by
  cases h with
  | int i => exact ⟨_, .int i, by with_unfolding_all rfl⟩
  | str x => exact ⟨_, .str x, by with_unfolding_all rfl⟩
  | lst e => exact ⟨_, .lst e, by with_unfolding_all rfl⟩
/-- a list of pairs walked: all that is told has the property -/
theorem lc_enum {K : PySem.W.Frag} {a : Addr} {xs : List V} {k : Nat} {fr : List Nat} {g : TG} {tt : TT} {te : TE} {σ : St} {H0 : Hp} {Q : Addr → Hp → Prop} (Pr : V → Prop) (hx : H0 a = some (.lst xs)) (hl : xs.length ≤ sizeLine)
    (ht : ∀ i x, xs[i]? = some x → ∀ H' T, Same H0 H' → H' T = some (.tup [.int (i : Nat), x]) → ∀ (C : V → Hp → Prop) (N : Hp → Prop), (∀ v H4, Same H' H4 → Pr v → C v H4) →
      g (.ref T) (nfS k fr σ) H' fun σ2 H2 => nfLe k fr σ σ2 ∧ tt σ2 H2 fun b H3 => if b = true then te σ2 H3 C else N H3)
    (hq : ∀ D H' ys, H0 D = none → Same H0 H' → H' D = some (.lst ys) → ys.length ≤ xs.length → (∀ y ∈ ys, Pr y) → Q D H') : rLC k fr g tt te σ (Ite K a) H0 Q := by
  intro D hD
  refine ⟨fun i m acc H => m = xs.length - i ∧ i ≤ xs.length ∧ acc.length = i ∧ (∀ y ∈ acc, Pr y) ∧ H D = some (.lst acc) ∧ Same H0 H, ⟨xs.length, by simp, Nat.zero_le _, rfl, (fun _ z => nomatch z), upd_same, same_new hD _⟩, ?_⟩
  rintro i m acc H ⟨rfl, hi, ha, hP, hDa, sm⟩
  refine ⟨hDa, ?_⟩
  by_cases hlt : i < xs.length
  · refine .inr ⟨⟨xs, xs[i], SqL.of (sm _ _ hx), by simp [hlt]⟩, ?_⟩
    rintro x H' ⟨T, y, hy, hT, rfl, rfl⟩
    have hxi := hy xs (SqL.of (sm _ _ hx))
    have s1 : Same H (upd H T (.tup [.int (i : Nat), y])) := same_new hT _
    refine ht i y hxi _ T (sm.trans s1) upd_same _ _ fun v H4 s4 pv => ?_
    have s5 := s1.trans s4
    refine ⟨s5 _ _ hDa, by omega, xs.length - (i + 1), by omega, rfl, hlt, by rw [List.length_append, ha]; rfl, ?_, upd_same, same_grow hD (sm.trans s5)⟩
    intro z hz
    rcases List.mem_append.mp hz with hz | hz
    · exact hP z hz
    · rw [show z = v by simpa using hz]; exact pv
  · exact .inl ⟨⟨xs, SqL.of (sm _ _ hx), by omega⟩, hq D H acc hD sm hDa (by omega) hP⟩
def RowV (v : V) : Prop := ∃ l, v = vS l ∧ Asc l ∧ l.length ≤ 1000
section
variable {P : Program} {w : World} {K : PySem.W.Frag} {mg : Str → Option Value} {base : Heap}
def spLaw (K : PySem.W.Frag) : Sp := fun vs H Q _ => ∃ (a : Addr) (ns : List Int), vs = [.ref a] ∧ SqL K H a (ns.map V.int) ∧ ∀ H', Q (.bl true) H'
end
end Lw

set_option Elab.async false
set_option linter.all false
set_option maxRecDepth 100000
/-! sum, max, min of a list of numbers; zip; == of any data -/
namespace L2
open PySem PySem.Spec PyProof.Rows
section
variable {X : Cx} {pins : List (Addr × Obj)} {σ : St} {H : Hp} {s : Shared} {h' : Heap}
theorem vals_int_get : ∀ {ns : List Int} {us : List Value} {i : Nat} {v : Value}, Vals (ns.map V.int) us → us[i]? = some v → ∃ t, v = .int (ns.getD i 0) t
  | [], _, i, v, .nil, e => by simp at e
  | n :: ns, _, 0, v, .cons r t, e => by
    obtain ⟨tk, rfl⟩ := r
    cases e
    exact ⟨tk, rfl⟩
  | n :: ns, _, i + 1, v, .cons r t, e => vals_int_get (ns := ns) (i := i) t (by simpa using e)
theorem call_sum (hc : X.calm = true) : CallR X (.builtin "sum") (fun xs H Q => ∃ (a : Addr) (ns : List Int), xs = [.ref a] ∧ SqL X.K H a (ns.map V.int) ∧ Q (.int ns.sum) H) := by
  intro pins s σ H xs us Q I r h
  obtain ⟨a, ns, rfl, hq, q⟩ := h
  obtain ⟨u, rfl, rx⟩ := vals1 r
  cases rx
  obtain ⟨its, r', pl, hz⟩ := I.list hq
  have hlen : its.toArray.size = ns.length := by
    have := r'.length
    rw [List.length_map] at this
    rw [List.size_toArray, this]
  have lt : a < s.heap.objs.size := by
    obtain ⟨o, n, e, _⟩ := pl
    exact Heap.lt_size e
  refine wpAny_with_toks (n := 1) I.tk (call_sum_walkG ?_)
  refine wpAny_pyIter_list pl.isList ?_
  refine ⟨s.heap.objs.size, _, _, _, _, _, fun i => ns.getD i 0, rfl, Walks.list (A := X.A.in1) (I.ok.hd hc) s.heap.objs.size a (Nat.ne_of_lt lt) its.toArray, ⟨⟨_, Heap.get?_push_size _ rfl, rfl, rfl⟩, ?_⟩, ?_, ?_, fun h' tk t' kp htk => ?_⟩
  · obtain ⟨o, n, e, c, _, d⟩ := pl
    exact ⟨o, Heap.get?_push_of_some _ e, c, n, d⟩
  · intro b hb
    rw [show (s.heap.push { cls := Value.type "list_iterator", data := Data.fields #[Value.ref a, Value.int 0 0] }).objs.size = s.heap.objs.size + 1 from by simp [Heap.push]]
    rcases List.mem_cons.mp hb with rfl | hb
    · exact Nat.lt_succ_self _
    · have : b = a := by simpa using hb
      subst this
      exact Nat.lt_succ_of_lt lt
  · intro i v hP
    exact vals_int_get r' (by simpa using hP)
  · rw [hlen, preSum_getD, List.take_length]
    refine ⟨.int _, H, I.kept (fun b o e => kp b o ?_ (Heap.get?_push_of_some _ e)) htk, ⟨_, rfl⟩, q⟩
    simp only [List.mem_singleton]
    exact Nat.ne_of_lt (Heap.lt_size e)
theorem getD_mem {ns : List Int} {i : Nat} (h : i < ns.length) : ns.getD i 0 ∈ ns := by
  rw [List.getD_eq_getElem?_getD, List.getElem?_eq_getElem h]
  exact List.getElem_mem h
theorem mem_getD {ns : List Int} {x : Int} (h : x ∈ ns) : ∃ i, i < ns.length ∧ ns.getD i 0 = x := by
  obtain ⟨i, hi, e⟩ := List.getElem_of_mem h
  exact ⟨i, hi, by rw [List.getD_eq_getElem?_getD, List.getElem?_eq_getElem hi, e]; rfl⟩
theorem call_maxL (hc : X.calm = true) : CallR X (.builtin "max") (fun xs H Q => ∃ (a : Addr) (ns : List Int), xs = [.ref a] ∧ SqL X.K H a (ns.map V.int) ∧ 0 < ns.length ∧ ∀ m, m ∈ ns → (∀ x ∈ ns, x ≤ m) → Q (.int m) H) := by
  intro pins s σ H xs us Q I r h
  obtain ⟨a, ns, rfl, hq, hpos, q⟩ := h
  obtain ⟨u, rfl, rx⟩ := vals1 r
  cases rx
  obtain ⟨its, r', pl, hz⟩ := I.list hq
  have hlen : its.toArray.size = ns.length := by
    have := r'.length
    rw [List.length_map] at this
    rw [List.size_toArray, this]
  have lt : a < s.heap.objs.size := by
    obtain ⟨o, n, e, _⟩ := pl
    exact Heap.lt_size e
  refine wpAny_with_toks (n := 1) I.tk (call_max_walk ?_)
  refine wpAny_pyIter_list pl.isList ?_
  have hP : ∀ (i : Nat) (v : Value), its.toArray[i]? = some v → ∃ t, v = Value.int (ns.getD i 0) t := fun i v hP => vals_int_get r' (by simpa using hP)
  refine ⟨s.heap.objs.size, _, _, _, _, _, _, rfl, Walks.list (A := X.A.in1) (I.ok.hd hc) s.heap.objs.size a (Nat.ne_of_lt lt) its.toArray, ⟨⟨_, Heap.get?_push_size _ rfl, rfl, rfl⟩, ?_⟩, ?_, by omega, CmpOf.ints_gt (fun i => ns.getD i 0) hP, fun v h' tk hv kp htk => ?_⟩
  · obtain ⟨o, n, e, c, _, d⟩ := pl
    exact ⟨o, Heap.get?_push_of_some _ e, c, n, d⟩
  · intro b hb
    rw [show (s.heap.push { cls := Value.type "list_iterator", data := Data.fields #[Value.ref a, Value.int 0 0] }).objs.size = s.heap.objs.size + 1 from by simp [Heap.push]]
    rcases List.mem_cons.mp hb with rfl | hb
    · exact Nat.lt_succ_self _
    · have : b = a := by simpa using hb
      subst this
      exact Nat.lt_succ_of_lt lt
  · obtain ⟨t, rfl⟩ := hP _ _ hv
    have hb := argBest_gt (fun i => ns.getD i 0) (its.toArray.size - 1)
    rw [hlen] at hb ⊢
    refine ⟨.int _, H, I.kept (fun b o e => kp b o ?_ (Heap.get?_push_of_some _ e)) htk, ⟨_, rfl⟩, q _ (getD_mem (by omega)) fun x hx => ?_⟩
    · simp only [List.mem_singleton]
      exact Nat.ne_of_lt (Heap.lt_size e)
    · obtain ⟨i, hi, rfl⟩ := mem_getD hx
      exact hb.2 i (by omega)
theorem call_minL (hc : X.calm = true) : CallR X (.builtin "min") (fun xs H Q => ∃ (a : Addr) (ns : List Int), xs = [.ref a] ∧ SqL X.K H a (ns.map V.int) ∧ 0 < ns.length ∧ ∀ m, m ∈ ns → (∀ x ∈ ns, m ≤ x) → Q (.int m) H) := by
  intro pins s σ H xs us Q I r h
  obtain ⟨a, ns, rfl, hq, hpos, q⟩ := h
  obtain ⟨u, rfl, rx⟩ := vals1 r
  cases rx
  obtain ⟨its, r', pl, hz⟩ := I.list hq
  have hlen : its.toArray.size = ns.length := by
    have := r'.length
    rw [List.length_map] at this
    rw [List.size_toArray, this]
  have lt : a < s.heap.objs.size := by
    obtain ⟨o, n, e, _⟩ := pl
    exact Heap.lt_size e
  refine wpAny_with_toks (n := 1) I.tk (call_min_walk ?_)
  refine wpAny_pyIter_list pl.isList ?_
  have hP : ∀ (i : Nat) (v : Value), its.toArray[i]? = some v → ∃ t, v = Value.int (ns.getD i 0) t := fun i v hP => vals_int_get r' (by simpa using hP)
  refine ⟨s.heap.objs.size, _, _, _, _, _, _, rfl, Walks.list (A := X.A.in1) (I.ok.hd hc) s.heap.objs.size a (Nat.ne_of_lt lt) its.toArray, ⟨⟨_, Heap.get?_push_size _ rfl, rfl, rfl⟩, ?_⟩, ?_, by omega, CmpOf.ints_lt (fun i => ns.getD i 0) hP, fun v h' tk hv kp htk => ?_⟩
  · obtain ⟨o, n, e, c, _, d⟩ := pl
    exact ⟨o, Heap.get?_push_of_some _ e, c, n, d⟩
  · intro b hb
    rw [show (s.heap.push { cls := Value.type "list_iterator", data := Data.fields #[Value.ref a, Value.int 0 0] }).objs.size = s.heap.objs.size + 1 from by simp [Heap.push]]
    rcases List.mem_cons.mp hb with rfl | hb
    · exact Nat.lt_succ_self _
    · have : b = a := by simpa using hb
      subst this
      exact Nat.lt_succ_of_lt lt
  · obtain ⟨t, rfl⟩ := hP _ _ hv
    have hb := argBest_lt (fun i => ns.getD i 0) (its.toArray.size - 1)
    rw [hlen] at hb ⊢
    refine ⟨.int _, H, I.kept (fun b o e => kp b o ?_ (Heap.get?_push_of_some _ e)) htk, ⟨_, rfl⟩, q _ (getD_mem (by omega)) fun x hx => ?_⟩
    · simp only [List.mem_singleton]
      exact Nat.ne_of_lt (Heap.lt_size e)
    · obtain ⟨i, hi, rfl⟩ := mem_getD hx
      exact hb.2 i (by omega)
/-! ### == of any data -/
def rEqG (K : PySem.W.Frag) (neg : Bool) : R2 := fun x y H Q => ∃ d e, Den K H x d ∧ Den K H y e ∧ d.depth ≤ 6 ∧ e.depth ≤ 6 ∧ Q (.bl (if neg then !(PyData.eqv d e) else PyData.eqv d e)) H
theorem op_eqG (hu : X.A.units + 64 < cLine) : OpR X (compareOp .Eq) (rEqG X.K false) := by
  intro pins s σ H x y v u Q I rx ry h
  obtain ⟨d, e, dx, dy, hd, he, q⟩ := h
  obtain ⟨as, ra⟩ := dx.reads I rx
  obtain ⟨bs, rb⟩ := dy.reads I ry
  have hs1 : SeqAt.shaped d = true := by
    unfold SeqAt.shaped
    rw [dx.lay, Bool.true_and]
    exact decide_eq_true (Nat.le_trans hd (by decide))
  have hs2 : SeqAt.shaped e = true := by
    unfold SeqAt.shaped
    rw [dy.lay, Bool.true_and]
    exact decide_eq_true (Nat.le_trans he (by decide))
  exact eq_dataH ra rb hs1 hs2 hu ⟨.bl _, H, I, rfl, q⟩
theorem op_neG (hu : X.A.units + 64 < cLine) : OpR X (compareOp .NotEq) (rEqG X.K true) := by
  intro pins s σ H x y v u Q I rx ry h
  obtain ⟨d, e, dx, dy, hd, he, q⟩ := h
  obtain ⟨as, ra⟩ := dx.reads I rx
  obtain ⟨bs, rb⟩ := dy.reads I ry
  have hs1 : SeqAt.shaped d = true := by
    unfold SeqAt.shaped
    rw [dx.lay, Bool.true_and]
    exact decide_eq_true (Nat.le_trans hd (by decide))
  have hs2 : SeqAt.shaped e = true := by
    unfold SeqAt.shaped
    rw [dy.lay, Bool.true_and]
    exact decide_eq_true (Nat.le_trans he (by decide))
  exact ne_dataH ra rb hs1 hs2 hu ⟨.bl _, H, I, rfl, q⟩
/-! ### zip of two lists -/
theorem Inv.turnedL {t' : Nat} {ch : List Addr} {T : Addr} {o : HO} (I : Inv X pins σ H s) (k : ∀ b ob, b ∉ ch → s.heap.get? b = some ob → h'.get? b = some ob) (f : ∀ b ∈ ch, FpOk X pins H b) (hT : s.heap.objs.size ≤ T)
    (new : ObjOk X.prog X.w (upd H T o) h' T o) (ht : 0 < t') : Inv X pins σ (upd H T o) { s with heap := h', toks := t' } := by
  have hn : H T = none := I.hok.fresh hT
  have ne : ∀ b u, H b = some u → b ∉ ch := fun b u q z => by rw [(f b z).1] at q; cases q
  have nl : X.env.locals ∉ ch := fun z => (f _ z).2.1 rfl
  refine I.step (g' := s.gens) (d' := s.drawn) (ch := ch) (fun b hb => ⟨(f b hb).2.2.2.1, (f b hb).2.1, (f b hb).2.2.2.2.1, (f b hb).2.2.2.2.2⟩) (fun b ob _ _ hc q _ => k b ob hc q) (fun b ob _ _ hc q _ => ⟨ob.slots, k b ob hc q⟩) (fun b ob _ q n => ?_)
    (fun b ob hc q => ⟨ob, k b ob hc q⟩) (fun b xs q => ?_) (fun b ob u q => ?_) (fun b ps q => ⟨#[], ?_⟩) (fun m hm => ?_) (fun b u q => ?_) I.bare
  · rw [upd_ne (Nat.ne_of_lt (Nat.lt_of_lt_of_le (Heap.lt_size q) hT))]; exact n
  · rw [upd_ne (ne_of_none q hn)]; exact q
  · rw [upd_ne (ne_of_none q hn)]; exact q
  · rw [upd_ne (ne_of_none q hn), q]; simp
  · obtain ⟨ob, es, ep, ho, r⟩ := hm
    exact ⟨ob, es, ep, k _ ob nl ho, r⟩
  · by_cases hb : b = T
    · subst hb; rw [upd_same] at q; cases q; exact new
    · rw [upd_ne hb] at q
      refine (I.hok b u q).stay (fun c v hc q2 => ?_) (fun c q2 => by rw [upd_ne (ne_of_none q2 hn)]; exact q2) fun c xs q2 => by rw [upd_ne (ne_of_none q2 hn)]; exact q2
      rcases hc with z | z
      · subst z; exact k _ v (ne _ u q) q2
      · exact k c v (ne c _ z) q2
theorem Inv.turnedL0 {t' : Nat} {ch : List Addr} (I : Inv X pins σ H s) (k : ∀ b ob, b ∉ ch → s.heap.get? b = some ob → h'.get? b = some ob) (f : ∀ b ∈ ch, FpOk X pins H b) (ht : 0 < t') : Inv X pins σ H { s with heap := h', toks := t' } := by
  have ne : ∀ b u, H b = some u → b ∉ ch := fun b u q z => by rw [(f b z).1] at q; cases q
  have nl : X.env.locals ∉ ch := fun z => (f _ z).2.1 rfl
  refine I.step (g' := s.gens) (d' := s.drawn) (ch := ch) (fun b hb => ⟨(f b hb).2.2.2.1, (f b hb).2.1, (f b hb).2.2.2.2.1, (f b hb).2.2.2.2.2⟩) (fun b ob _ _ hc q _ => k b ob hc q) (fun b ob _ _ hc q _ => ⟨ob.slots, k b ob hc q⟩) (fun _ _ _ _ n => n)
    (fun b ob hc q => ⟨ob, k b ob hc q⟩) (fun _ _ q => q) (fun _ _ _ q => q) (fun b ps q => ⟨#[], by rw [q]; simp⟩) (fun m hm => ?_) (fun b u q => ?_) I.bare
  · obtain ⟨ob, es, ep, ho, r⟩ := hm
    exact ⟨ob, es, ep, k _ ob nl ho, r⟩
  · refine (I.hok b u q).stay (fun c v hc q2 => ?_) (fun c q2 => q2) fun c xs q2 => q2
    rcases hc with z | z
    · subst z; exact k _ v (ne _ u q) q2
    · exact k c v (ne c _ z) q2
def Itz (K : PySem.W.Frag) (a b : Addr) : It :=
  ⟨fun i H => ∃ xs ys x y, SqL K H a xs ∧ SqL K H b ys ∧ xs[i]? = some x ∧ ys[i]? = some y, fun i H x H' => ∃ T u v, (∀ xs, SqL K H a xs → xs[i]? = some u) ∧ (∀ ys, SqL K H b ys → ys[i]? = some v) ∧ H T = none ∧ x = .ref T ∧ H' = upd H T (.tup [u, v]),
    fun i H => ∃ xs ys, SqL K H a xs ∧ SqL K H b ys ∧ (xs.length ≤ i ∨ ys.length ≤ i)⟩
theorem cls_ne {h : Heap} {a b : Addr} {its : Array Value} {o : Obj} {T : String} (hL : h.IsList a its) (e : h.get? b = some o) (c : o.cls = .type T) (hT : "list" ≠ T) : a ≠ b := fun z => by
  obtain ⟨o', q1, q2, _⟩ := hL
  rw [z, e] at q1
  cases q1
  rw [c] at q2
  exact hT (Value.type.inj q2).symm
theorem turn_zip {P : Program} {w : World} {K : PySem.W.Frag} {elts : List Expr} {k : Nat} {pos : Pos} (a b z TI TO i1 i2 : Addr)
    (n1 : TI ≠ z) (n2 : TO ≠ z) (n3 : i1 ≠ z) (n4 : i2 ≠ z) (n5 : TI ≠ TO) (n6 : TI ≠ i1) (n7 : TI ≠ i2) (n8 : TO ≠ i1) (n9 : TO ≠ i2) (n0 : i1 ≠ i2) :
    Turn P w K (.Tuple elts k pos) (Itz K a b) [z, TI, TO, i1, i2] z (fun i h => IsZip h z TI TO .none ∧ IsPair h TI (.ref i1) (.ref i2) ∧ (∃ u v, IsPair h TO u v) ∧ h.IsListIter i1 a i ∧ h.IsListIter i2 b i) where
  mem := by simp
  obj := fun i h st c hc => by
    obtain ⟨h1, h2, ⟨u, v, h3⟩, ⟨o4, h4, h4c, h4d⟩, ⟨o5, h5, h5c, h5d⟩⟩ := st
    rcases List.mem_cons.mp hc with rfl | hc
    · exact ⟨_, h1, fun v z => by cases z⟩
    rcases List.mem_cons.mp hc with rfl | hc
    · exact ⟨_, h2, fun v z => by cases z⟩
    rcases List.mem_cons.mp hc with rfl | hc
    · exact ⟨_, h3, fun v z => by cases z⟩
    rcases List.mem_cons.mp hc with rfl | hc
    · exact ⟨o4, h4, fun v z => by rw [h4d] at z; cases z⟩
    · have e : c = i2 := by simpa using hc
      subst e
      exact ⟨o5, h5, fun v z => by rw [h5d] at z; cases z⟩
  keep := fun i h h' st kk => by
    obtain ⟨h1, h2, ⟨u, v, h3⟩, ⟨o4, h4, h4r⟩, ⟨o5, h5, h5r⟩⟩ := st
    exact ⟨kk z (by simp) _ h1, kk TI (by simp) _ h2, ⟨u, v, kk TO (by simp) _ h3⟩, ⟨o4, kk i1 (by simp) _ h4, h4r⟩, ⟨o5, kk i2 (by simp) _ h5, h5r⟩⟩
  item := by
    intro X hP hw hK hc i pins s σ H E I hf st hg
    subst hP hw hK
    obtain ⟨xs, ys, x, y, hqx, hqy, hx, hy⟩ := hg
    obtain ⟨its, rv, p, hz⟩ := I.list hqx
    obtain ⟨its2, rv2, p2, hz2⟩ := I.list hqy
    obtain ⟨u, hu, ru⟩ := rv.get hx
    obtain ⟨v, hv, rw'⟩ := rv2.get hy
    obtain ⟨h1, h2, ⟨u0, v0, h3⟩, h4, h5⟩ := st
    obtain ⟨o4, g4, c4, _⟩ := id h4
    obtain ⟨o5, g5, c5, _⟩ := id h5
    have hL := p.isList
    have hL2 := p2.isList
    have az := cls_ne hL h1 rfl (by decide)
    have aTO := cls_ne hL h3 rfl (by decide)
    have ai1 := cls_ne hL g4 c4 (by decide)
    have ai2 := cls_ne hL g5 c5 (by decide)
    have bz := cls_ne hL2 h1 rfl (by decide)
    have bTO := cls_ne hL2 h3 rfl (by decide)
    have bi1 := cls_ne hL2 g4 c4 (by decide)
    have bi2 := cls_ne hL2 g5 c5 (by decide)
    have ap : ZipApart z TI TO i1 i2 a b := ⟨n1, n2, n3, n4, n5, n6, n7, n8, n9, n0, az, aTO, ai1, ai2, bz, bTO, bi1, bi2⟩
    refine wpAny_pyNext_zip_item ap h1 h2 h3 h4 h5 hL hL2 (x := u) (y := v) (by simpa using hu) (by simpa using hv) fun h' k1 k2 k3 k4 k5 k6 k7 => ⟨_, rfl, ?_⟩
    have hlz : z < s.heap.objs.size := Heap.lt_size h1
    have hlTO : TO < s.heap.objs.size := Heap.lt_size h3
    have hlTI : TI < s.heap.objs.size := Heap.lt_size h2
    have hl1 : i1 < s.heap.objs.size := Heap.lt_size g4
    have hl2 : i2 < s.heap.objs.size := Heap.lt_size g5
    refine wpAny_letOwnedTupleGo_zip k1 fun h2' q1 sb => ?_
    have keep : ∀ c o, c ≠ z → h'.get? c = some o → h2'.get? c = some o := fun c o hc e => (sb.2 c hc).trans e
    refine ⟨.ref s.heap.objs.size, upd H s.heap.objs.size (.tup [x, y]), ?_, rfl, ⟨s.heap.objs.size, x, y, fun ys' hy' => by rw [I.list_inj hy' hqx]; exact hx, fun ys' hy' => by rw [I.list_inj hy' hqy]; exact hy, I.hok.fresh (Nat.le_refl _), rfl, rfl⟩, ⟨q1, ?_, ⟨u, v, keep _ _ n2 k2⟩, ?_, ?_⟩, ?_⟩
    · refine I.turnedL (t' := s.toks) (ch := [z, TI, TO, i1, i2]) (fun c ob hc q => ?_) hf (Nat.le_refl _) ?_ I.tk
      · simp only [List.mem_cons, List.mem_nil_iff, or_false, not_or] at hc
        exact keep _ _ hc.1 (k7 c ob hc.1 hc.2.2.1 hc.2.2.2.1 hc.2.2.2.2 q)
      · refine ⟨by show 2 ≤ sizeLine; rw [sizeLine_eq]; decide, [u, v], .cons ru (.cons rw' .nil), ?_⟩
        exact ⟨_, keep _ _ (Nat.ne_of_gt hlz) k5, rfl, 0, rfl⟩
    · exact keep _ _ n1 (k7 TI _ n1 n5 n6 n7 h2)
    · obtain ⟨o, e, r⟩ := k3
      exact ⟨o, keep _ _ n3 e, r⟩
    · obtain ⟨o, e, r⟩ := k4
      exact ⟨o, keep _ _ n4 e, r⟩
    · intro c hc
      have hlt : c < s.heap.objs.size := by
        rcases List.mem_cons.mp hc with rfl | hc
        · exact hlz
        rcases List.mem_cons.mp hc with rfl | hc
        · exact hlTI
        rcases List.mem_cons.mp hc with rfl | hc
        · exact hlTO
        rcases List.mem_cons.mp hc with rfl | hc
        · exact hl1
        · have e : c = i2 := by simpa using hc
          subst e
          exact hl2
      rw [upd_ne (Nat.ne_of_lt hlt)]
      exact (hf c hc).1
  done := by
    intro X hP hw hK hc i pins s σ H E I hf st hg
    subst hP hw hK
    obtain ⟨xs, ys, hqx, hqy, hx⟩ := hg
    obtain ⟨its, rv, p, hz⟩ := I.list hqx
    obtain ⟨its2, rv2, p2, hz2⟩ := I.list hqy
    obtain ⟨h1, h2, ⟨u0, v0, h3⟩, h4, h5⟩ := st
    obtain ⟨o4, g4, c4, _⟩ := id h4
    obtain ⟨o5, g5, c5, _⟩ := id h5
    have hL := p.isList
    have hL2 := p2.isList
    have ap : ZipApart z TI TO i1 i2 a b := ⟨n1, n2, n3, n4, n5, n6, n7, n8, n9, n0, cls_ne hL h1 rfl (by decide), cls_ne hL h3 rfl (by decide), cls_ne hL g4 c4 (by decide), cls_ne hL g5 c5 (by decide), cls_ne hL2 h1 rfl (by decide), cls_ne hL2 h3 rfl (by decide), cls_ne hL2 g4 c4 (by decide), cls_ne hL2 g5 c5 (by decide)⟩
    have e1 := rv.length
    have e2 := rv2.length
    refine wpAny_pyNext_zip_end (I.ok.hd hc) ap h1 h2 h3 h4 h5 hL hL2 ?_ fun h' kp => ⟨rfl, I.turnedL0 (t' := s.toks) (ch := [z, TI, TO, i1, i2]) (fun c ob hc q => ?_) hf I.tk⟩
    · rcases hx with hx | hx
      · exact .inl (by simp; omega)
      · exact .inr (by simp; omega)
    · simp only [List.mem_cons, List.mem_nil_iff, or_false, not_or] at hc
      exact kp c ob hc.1 hc.2.2.1 hc.2.2.2.1 hc.2.2.2.2 q
  self := fun _ _ _ _ _ st h => wpAny_pyIter_zip st.1 h
def iZip (K : PySem.W.Frag) (ta : TA) : TI := fun σ H R => ta σ H fun vs H1 => ∃ a b, vs = [.ref a, .ref b] ∧ (∃ xs, SqL K H1 a xs) ∧ (∃ ys, SqL K H1 b ys) ∧ R (Itz K a b) H1
theorem pi_zip {l l2 : Expr} {ta : TA} {p pos : Pos} {elts : List Expr} {k : Nat} {pos' : Pos} (hg : Gl X "zip") (hm : X.mg "zip" = none) (ha : PA X [l, l2] ta) (hs : starEach [l, l2] X.env = (false, eval l X.env) :: starEach [l2] X.env) (hs2 : (backTo pos (starEach [l2] X.env)).any (·.1) = false) :
    PI X (.Tuple elts k pos') (.Call (.Name "zip" p) [l, l2] [] pos) (iZip X.K ta) := by
  intro pins s σ H R I h
  refine Call_ (ld_blt I hg hm boot_zip (PyProof.Rows.callWith_type1 (thn (ha pos pins s σ H _ I h) fun us s1 ⟨vs, H1, I1, r1, q1⟩ => ?_) hs hs2))
  obtain ⟨a, b, e, ⟨xs, hqa⟩, ⟨ys, hqb⟩, q⟩ := q1
  subst e
  obtain ⟨u, v, rfl, ru, rv⟩ := r1.two
  cases ru
  cases rv
  obtain ⟨its, _, pl, _⟩ := I1.list hqa
  obtain ⟨its2, _, pl2, _⟩ := I1.list hqb
  refine call_zip_2 pl.isList pl2.isList fun h' g1 g2 g3 g4 g5 g6 g7 => ?_
  refine wpAny_pyIter_zip g1 ?_
  refine ⟨s1.heap.objs.size + 4, [s1.heap.objs.size + 4, s1.heap.objs.size + 2, s1.heap.objs.size + 3, s1.heap.objs.size, s1.heap.objs.size + 1], _, _, H1, rfl, I1.kept (t' := s1.toks) g7,
    turn_zip a b _ (s1.heap.objs.size + 2) (s1.heap.objs.size + 3) s1.heap.objs.size (s1.heap.objs.size + 1) (show (s1.heap.objs.size + 2 : Nat) ≠ s1.heap.objs.size + 4 by omega) (show (s1.heap.objs.size + 3 : Nat) ≠ s1.heap.objs.size + 4 by omega) (show (s1.heap.objs.size : Nat) ≠ s1.heap.objs.size + 4 by omega) (show (s1.heap.objs.size + 1 : Nat) ≠ s1.heap.objs.size + 4 by omega) (show (s1.heap.objs.size + 2 : Nat) ≠ s1.heap.objs.size + 3 by omega) (show (s1.heap.objs.size + 2 : Nat) ≠ s1.heap.objs.size by omega) (show (s1.heap.objs.size + 2 : Nat) ≠ s1.heap.objs.size + 1 by omega) (show (s1.heap.objs.size + 3 : Nat) ≠ s1.heap.objs.size by omega) (show (s1.heap.objs.size + 3 : Nat) ≠ s1.heap.objs.size + 1 by omega) (show (s1.heap.objs.size : Nat) ≠ s1.heap.objs.size + 1 by omega), ⟨g1, g2, ⟨_, _, g3⟩, g4, g5⟩, fun c hc => ?_, q⟩
  have hb' : s1.heap.objs.size ≤ c := by
    rcases List.mem_cons.mp hc with rfl | hc
    · exact Nat.le_add_right _ _
    rcases List.mem_cons.mp hc with rfl | hc
    · exact Nat.le_add_right _ _
    rcases List.mem_cons.mp hc with rfl | hc
    · exact Nat.le_add_right _ _
    rcases List.mem_cons.mp hc with rfl | hc
    · exact Nat.le_refl _
    · rw [show c = s1.heap.objs.size + 1 by simpa using hc]
      exact Nat.le_add_right _ _
  exact I1.fpOk hb' (I1.hok.fresh hb')
theorem xiz {l l2 : Expr} {t : TA} {p pos : Pos} {elts : List Expr} {k : Nat} {pos' : Pos} (hm : X.mg "zip" = none) (ha : XA X [l, l2] t) (hg : Gl X "zip" := by exact rfl) (h : isStar l = false := by rfl) (h2 : isStar l2 = false := by rfl) : XI X (.Tuple elts k pos') (.Call (.Name "zip" p) [l, l2] [] pos) (iZip X.K t) :=
  ⟨pi_zip hg hm ha.h (star_cons h) (by rw [star_cons h2]; rfl)⟩
/-! ### xs[::-1], as it is -/
theorem filterMap_rangeA {α : Type} (l : List α) : ∀ (n a : Nat), a + n ≤ l.length → ((List.range n).filterMap fun k => l[a + k]?) = (l.drop a).take n := by
  intro n
  induction n with
  | zero => intro a _; simp
  | succ n ih =>
    intro a h
    rw [List.range_succ, List.filterMap_append, ih a (by omega), List.take_add_one]
    have : a + n < l.length := by omega
    simp [List.getElem?_drop, this]
theorem fm_congr {α β : Type} {f g : α → Option β} : ∀ {l : List α}, (∀ x ∈ l, f x = g x) → l.filterMap f = l.filterMap g
  | [], _ => rfl
  | x :: l, h => by
    rw [List.filterMap_cons, List.filterMap_cons, h x (List.mem_cons_self ..), fm_congr fun y hy => h y (List.mem_cons_of_mem _ hy)]
theorem pick_rev {α : Type} (xs : List α) : (sliceRange (sliceBounds none none (some (-1)) xs.length).fst (sliceBounds none none (some (-1)) xs.length).snd.fst (sliceBounds none none (some (-1)) xs.length).snd.snd).filterMap (xs[·]?) = xs.reverse := by
  have hb : sliceBounds none none (some (-1)) xs.length = ((xs.length : Int) - 1, -1, -1) := by
    unfold sliceBounds
    simp only [Option.getD_some]
    rw [if_neg (by decide), if_neg (by decide)]
  rw [hb]
  show (sliceRange ((xs.length : Int) - 1) (-1) (-1)).filterMap (xs[·]?) = xs.reverse
  have hs : sliceRange ((xs.length : Int) - 1) (-1) (-1) = (List.range xs.length).map fun k => xs.length - 1 - k := by
    unfold sliceRange
    simp only []
    rw [if_neg (by decide), show (- -1 : Int) = 1 from rfl, Int.ediv_one]
    have hc : (if ((xs.length : Int) - 1) > -1 then (xs.length : Int) - 1 - -1 - -1 - 1 else 0).toNat = xs.length := by split <;> omega
    rw [hc]
    refine List.map_congr_left fun k hk => ?_
    have := List.mem_range.mp hk
    omega
  rw [hs, List.filterMap_map]
  have h2 : (List.range xs.length).filterMap ((xs[·]?) ∘ fun k => xs.length - 1 - k) = (List.range xs.length).filterMap fun k => xs.reverse[k]? := by
    refine fm_congr fun k hk => ?_
    have hk := List.mem_range.mp hk
    show xs[xs.length - 1 - k]? = xs.reverse[k]?
    rw [List.getElem?_reverse hk]
  rw [h2]
  have h3 : ∀ (zs : List α), (List.range zs.length).filterMap (fun k => zs[k]?) = zs := by
    intro zs
    have := filterMap_rangeA zs zs.length 0 (by omega)
    simpa using this
  have := h3 xs.reverse
  rwa [List.length_reverse] at this
def tRevX (K : PySem.W.Frag) (te : TE) : TE := fun σ H Q => te σ H fun x H1 => ∃ a xs, x = .ref a ∧ SqL K H1 a xs ∧ ∀ p, H1 p = none → Q (.ref p) (upd H1 p (.lst xs.reverse))
theorem pe_revX {e : Expr} {te : TE} {j : Nat} {p1 p2 p3 pos : Pos} (he : PE X e te) : PE X (.Subscript e (.Slice none none (some (.UnaryOp .USub (.Constant (.int 1) j p1) p3)) p2) pos) (tRevX X.K te) := by
  intro pins s σ H Q I h
  refine Subscript_ (thn (he pins s σ H _ I h) fun v s1 ⟨x, H1, I1, r1, q1⟩ => ?_)
  obtain ⟨a, xs, rfl, hx, q⟩ := q1
  cases r1
  refine wpAny_Slice ?_
  rw [evalPart_none]
  refine wpAny_pure (wpAny_pure ?_)
  rw [evalPart_some]
  refine thn ((pe_un un_neg pe_int (pos := p3)) pins s1 σ H1 (fun y H' => y = .int (-1) ∧ H' = H1) I1 ⟨1, rfl, rfl, rfl⟩) fun st s2 ⟨y, H2, I2, r2, e1, e2⟩ => ?_
  subst e1 e2
  obtain ⟨t, rfl⟩ := r2
  have I4 : Inv X pins σ H2 { s2 with heap := s2.heap.push { cls := .type "slice", data := .fields #[.none, .none, .int (-1) t] } } := I2.kept (t' := s2.toks) fun b ob q => Heap.get?_push_of_some _ q
  obtain ⟨its, r, ht, hz⟩ := I4.list hx
  have hlen := r.length
  show wpAny (model X.prog X.w) X.A (subscriptTail e (.Slice none none (some (.UnaryOp .USub (.Constant (.int 1) j p1) p3)) p2) (.ref a) (.ref s2.heap.objs.size)) (EP X pins σ Q) X.xe { s2 with heap := s2.heap.push { cls := .type "slice", data := .fields #[.none, .none, .int (-1) t] } }
  refine tail_any (ops := [.ref a, .ref s2.heap.objs.size]) ht.isList.typeIs slot_list_getitem.lookup ?_ (by with_unfolding_all rfl)
  refine wpAny_getItem_list_slice ht.isList (Heap.IsSliceOf.new ..) .none .none (.int (-1) t) (by decide) ?_ (by rw [List.size_toArray] <;> omega)
  have hsz : its.toArray.size = xs.length := by rw [List.size_toArray]; omega
  have e : slicePick its.toArray none none (some (-1)) = its.reverse.toArray := by
    unfold slicePick
    rw [List.size_toArray, ← pick_rev its]
    simp
  rw [e]
  refine ⟨.ref _, _, I4.laid (t' := s2.toks) (o := .lst xs.reverse) (fun b ob q => Heap.get?_push_of_some _ q) (Nat.le_refl _) ?_, rfl, q _ (I4.hok.fresh (Nat.le_refl _))⟩
  exact ⟨by rw [List.length_reverse]; exact hz, _, 0, r.reverse, Heap.get?_push_size _ rfl⟩
theorem xrevX {e : Expr} {te : TE} {pos p1 p2 p3 : Pos} {j : Nat} (he : XE X e te) : XE X (.Subscript e (.Slice none none (some (.UnaryOp .USub (.Constant (.int 1) j p1) p3)) p2) pos) (tRevX X.K te) := ⟨pe_revX he.h⟩
end
end L2

set_option linter.all false
namespace Lw
open PySem L2 Lm
/-! ### shares -/
def isMax (ys : List Int) (m : Int) : Prop := m ∈ ys ∧ ∀ y ∈ ys, y ≤ m
def ix (ys : List Int) : Nat := ys.findIdx fun y => ys.all fun z => decide (z ≤ y)
def dec1 (ys : List Int) : List Int := ys.set (ix ys) (ys.getD (ix ys) 0 - 1)
def shC : Nat → List Int → Int → List Int
  | 0, ys, _ => ys
  | n + 1, ys, r => if ys.sum ≤ r then ys else shC n (dec1 ys) r
def sharesC (ys : List Int) (r : Int) : List Int := shC (ys.sum - r).toNat ys r
theorem max_ex : ∀ {ys : List Int}, ys ≠ [] → ∃ m, isMax ys m
  | [y], _ => ⟨y, by simp [isMax]⟩
  | y :: z :: r, _ => by
    obtain ⟨m, h1, h2⟩ := max_ex (ys := z :: r) (by simp)
    by_cases h : y ≤ m
    · refine ⟨m, List.mem_cons_of_mem _ h1, fun x hx => ?_⟩
      rcases List.mem_cons.mp hx with rfl | hx
      · exact h
      · exact h2 x hx
    · refine ⟨y, List.mem_cons_self .., fun x hx => ?_⟩
      rcases List.mem_cons.mp hx with rfl | hx
      · exact Int.le_refl _
      · have := h2 x hx; omega
theorem isMax.uniq {ys : List Int} {m n : Int} (h : isMax ys m) (k : isMax ys n) : m = n := by
  have := h.2 n k.1
  have := k.2 m h.1
  omega
/-- the first of the widest -/
theorem ix_spec {ys : List Int} {m : Int} (h : isMax ys m) : ys[ix ys]? = some m ∧ ∀ j, j < ix ys → ys[j]? ≠ some m := by
  have hp : ∀ y ∈ ys, (ys.all fun z => decide (z ≤ y)) = true ↔ y = m := by
    intro y hy
    rw [List.all_eq_true]
    constructor
    · intro q
      have h1 := of_decide_eq_true (q m h.1)
      have h2 := h.2 y hy
      omega
    · rintro rfl z hz
      exact decide_eq_true (h.2 z hz)
  have hex : ∃ y ∈ ys, (ys.all fun z => decide (z ≤ y)) = true := ⟨m, h.1, (hp m h.1).mpr rfl⟩
  have hlt : ix ys < ys.length := List.findIdx_lt_length_of_exists hex
  have hq : (ys.all fun z => decide (z ≤ ys[ix ys])) = true := List.findIdx_getElem (w := hlt)
  constructor
  · rw [List.getElem?_eq_getElem hlt, (hp _ (List.getElem_mem hlt)).mp hq]
  · intro j hj e
    obtain ⟨h1, e1⟩ := List.getElem?_eq_some_iff.mp e
    have := List.not_of_lt_findIdx hj
    rw [e1] at this
    exact absurd ((hp m h.1).mpr rfl) (by simpa using this)
theorem dec_len (ys : List Int) : (dec1 ys).length = ys.length := by unfold dec1; rw [List.length_set]
theorem dec_get {ys : List Int} {m : Int} (h : isMax ys m) (j : Nat) : (dec1 ys)[j]? = if j = ix ys then some (m - 1) else ys[j]? := by
  obtain ⟨h1, _⟩ := ix_spec h
  have hlt := (List.getElem?_eq_some_iff.mp h1).1
  unfold dec1
  rw [List.getElem?_set, List.getD_eq_getElem?_getD, h1]
  by_cases e : j = ix ys
  · rw [if_pos e.symm, if_pos e, if_pos (by omega)]; rfl
  · rw [if_neg (fun z => e z.symm), if_neg e]
theorem sum_set : ∀ (ys : List Int) (i : Nat) (v w : Int), ys[i]? = some v → (ys.set i w).sum = ys.sum - v + w
  | [], i, v, w, h => by simp at h
  | y :: ys, 0, v, w, h => by
    have : y = v := by simpa using h
    subst this
    rw [List.set_cons_zero, List.sum_cons, List.sum_cons]; omega
  | y :: ys, i + 1, v, w, h => by
    have ih := sum_set ys i v w (by simpa using h)
    rw [List.set_cons_succ, List.sum_cons, List.sum_cons, ih]; omega
theorem dec_sum {ys : List Int} {m : Int} (h : isMax ys m) : (dec1 ys).sum = ys.sum - 1 := by
  obtain ⟨h1, _⟩ := ix_spec h
  unfold dec1
  rw [sum_set ys (ix ys) m _ h1, List.getD_eq_getElem?_getD, h1]
  show ys.sum - m + (m - 1) = _
  omega
structure Gave (ws ys : List Int) : Prop where
  len : ys.length = ws.length
  one : ∀ y ∈ ys, 1 ≤ y
  le : ∀ (i : Nat) (y w : Int), ys[i]? = some y → ws[i]? = some w → y ≤ w
  way : ∀ m, isMax ys m → ∀ (i : Nat) (y w : Int), ys[i]? = some y → ws[i]? = some w → y = w ∨ y = m ∨ y = m - 1
  fst : ∀ m, isMax ys m → ∀ (i j : Nat) (w : Int), i < j → ys[i]? = some m → ys[j]? = some (m - 1) → ws[j]? = some w → w < m
theorem Gave.refl {ws : List Int} (h : ∀ w ∈ ws, 1 ≤ w) : Gave ws ws where
  len := rfl
  one := h
  le := fun i y w e1 e2 => by rw [e1] at e2; cases e2; exact Int.le_refl _
  way := fun m _ i y w e1 e2 => by rw [e1] at e2; cases e2; exact .inl rfl
  fst := fun m _ i j w _ _ e1 e2 => by rw [e1] at e2; cases e2; omega
theorem Gave.step {ws ys : List Int} {m : Int} (g : Gave ws ys) (h : isMax ys m) (h2 : 2 ≤ m) : Gave ws (dec1 ys) := by
  obtain ⟨x1, x2⟩ := ix_spec h
  have dg := dec_get h
  have hlt := (List.getElem?_eq_some_iff.mp x1).1
  have up : ∀ y ∈ dec1 ys, y ≤ m := by
    intro y hy
    obtain ⟨j, hj⟩ := List.getElem?_of_mem hy
    rw [dg] at hj
    split at hj
    · cases hj; omega
    · exact h.2 y (List.mem_of_getElem? hj)
  refine ⟨by rw [dec_len]; exact g.len, ?_, ?_, ?_, ?_⟩
  · intro y hy
    obtain ⟨j, hj⟩ := List.getElem?_of_mem hy
    rw [dg] at hj
    split at hj
    · cases hj; omega
    · exact g.one y (List.mem_of_getElem? hj)
  · intro i y w e1 e2
    rw [dg] at e1
    split at e1
    · rename_i q
      cases e1
      have := g.le i m w (by rw [q]; exact x1) e2
      omega
    · exact g.le i y w e1 e2
  · intro m' h' i y w e1 e2
    have hm1 : m - 1 ≤ m' := h'.2 (m - 1) (List.mem_of_getElem? (i := ix ys) (by rw [dg, if_pos rfl]))
    have hm2 : m' ≤ m := up m' h'.1
    rw [dg] at e1
    split at e1
    · cases e1
      omega
    · rename_i q
      have hy := h'.2 y (List.mem_of_getElem? (i := i) (by rw [dg, if_neg q]; exact e1))
      rcases g.way m h i y w e1 e2 with z | z | z
      · exact .inl z
      · omega
      · omega
  · intro m' h' i j w hij e1 e2 e3
    have hm1 : m - 1 ≤ m' := h'.2 (m - 1) (List.mem_of_getElem? (i := ix ys) (by rw [dg, if_pos rfl]))
    have hm2 : m' ≤ m := up m' h'.1
    by_cases hm : m' = m
    · subst hm
      rw [dg] at e1 e2
      split at e1
      · have := Option.some.inj e1; omega
      · rename_i q1
        have hi : ix ys < i := by
          rcases Nat.lt_trichotomy i (ix ys) with z | z | z
          · exact absurd e1 (x2 i z)
          · exact absurd z q1
          · exact z
        rw [if_neg (by omega)] at e2
        exact g.fst m' h i j w hij e1 e2 e3
    · have hm' : m' = m - 1 := by omega
      subst hm'
      rw [dg] at e2
      split at e2
      · have := Option.some.inj e2; omega
      · rcases g.way m h j _ w e2 e3 with z | z | z <;> omega
theorem sum_ge : ∀ {ys : List Int}, (∀ y ∈ ys, y ≤ 1) → ys.sum ≤ ys.length
  | [], _ => by simp
  | y :: ys, h => by
    have h1 := h y (List.mem_cons_self ..)
    have h2 := sum_ge (ys := ys) fun z hz => h z (List.mem_cons_of_mem _ hz)
    rw [List.sum_cons, List.length_cons]
    omega
theorem shC_ok {ws : List Int} {r : Int} (hr : (ws.length : Int) ≤ r) : ∀ (n : Nat) (ys : List Int), n = (ys.sum - r).toNat → Gave ws ys → Gave ws (shC n ys r) ∧ (ys.sum ≤ r → shC n ys r = ys) ∧ (r ≤ ys.sum → (shC n ys r).sum = r)
  | 0, ys, hn, g => ⟨g, fun _ => rfl, fun h => by show ys.sum = r; omega⟩
  | n + 1, ys, hn, g => by
    have hgt : r < ys.sum := by omega
    have hne : ys ≠ [] := by
      rintro rfl
      rw [List.sum_nil] at hgt
      omega
    obtain ⟨m, hm⟩ := max_ex hne
    have h2 : 2 ≤ m := by
      rcases Int.lt_or_le m 2 with z | z
      · have := sum_ge (ys := ys) fun y hy => by have := hm.2 y hy; omega
        rw [g.len] at this
        omega
      · exact z
    have ih := shC_ok hr n (dec1 ys) (by rw [dec_sum hm]; omega) (g.step hm h2)
    have e : shC (n + 1) ys r = shC n (dec1 ys) r := by rw [shC, if_neg (by omega)]
    rw [e]
    refine ⟨ih.1, fun z => by omega, fun _ => ih.2.2 (by rw [dec_sum hm]; omega)⟩
theorem shares_ok {ws : List Int} {r : Int} (h : ∀ w ∈ ws, 1 ≤ w) (hr : (ws.length : Int) ≤ r) : Gave ws (sharesC ws r) ∧ (ws.sum ≤ r → sharesC ws r = ws) ∧ (r ≤ ws.sum → (sharesC ws r).sum = r) :=
  shC_ok hr _ ws rfl (Gave.refl h)
end Lw

set_option Elab.async false
set_option linter.all false
set_option maxRecDepth 100000
set_option maxHeartbeats 1000000
namespace K9
open PySem L2 Lm Lw
structure Tx9 (mg : Str → Option Value) : Prop where
  n_len : mg "len" = none
  n_range : mg "range" = none
  n_isinstance : mg "isinstance" = none
  n_all : mg "all" = none
  n_bool : mg "bool" = none
  n_int : mg "int" = none
  n_list : mg "list" = none
  n_sum : mg "sum" = none
  n_max : mg "max" = none
  n_min : mg "min" = none
  n_zip : mg "zip" = none
def top (i : Nat) : Stmt := PySem.Challenge.pw_lightmark_k09_shares.main.body.getD i (.Pass ⟨0, 0, 0, 0⟩)
def SameX (x : Addr) (H H' : Hp) : Prop := ∀ b o, b ≠ x → H b = some o → H' b = some o
theorem SameX.of {x : Addr} {H H' : Hp} (s : Same H H') : SameX x H H' := fun b o _ h => s b o h
theorem SameX.refl {x : Addr} {H : Hp} : SameX x H H := fun _ _ _ h => h
theorem SameX.trans {x : Addr} {H H1 H2 : Hp} (a : SameX x H H1) (b : SameX x H1 H2) : SameX x H H2 := fun c o n h => b c o n (a c o n h)
theorem SameX.upd {x : Addr} {H : Hp} (o : HO) : SameX x H (L2.upd H x o) := fun b u n h => by rw [upd_ne n]; exact h
theorem SameX.free {x : Addr} {H H' : Hp} (e : SameX x H H') {l : Addr} (hx : l ≠ x) (h : H' l = none) : H l = none := by
  cases q : H l with
  | none => rfl
  | some o => rw [e l o hx q] at h; cases h
abbrev vI (ns : List Int) : List V := ns.map V.int
/-- the script, whatever becomes of the tape -/
def Scr (K : PySem.W.Frag) (t : Addr) (H : Hp) (a : Addr) (ns : List Int) : Prop := ∀ H', SameX t H H' → SqL K H' a (vI ns)
theorem Scr.move {K : PySem.W.Frag} {t a : Addr} {H H' : Hp} {ns : List Int} (s : SameX t H H') (h : Scr K t H a ns) : Scr K t H' a ns := fun H2 s2 => h H2 (s.trans s2)
theorem for_any {J : It} {g : TG} {tb : TS} {D : Ends} {σ : St} {H : Hp} (n : Nat) (Pv : Nat → St → Hp → Prop) (h0 : Pv 0 σ H) (hgo : ∀ i σ H, i < n → Pv i σ H → J.go i H) (hst : ∀ σ H, Pv n σ H → J.stop n H)
    (hs : ∀ i σ H x H', i < n → Pv i σ H → J.yld i H x H' → g x σ H' fun σ2 H2 => tb { D with nx := Pv (i + 1), ct := Pv (i + 1), bk := D.nx } σ2 H2) (hd : ∀ σ H, Pv n σ H → D.nx σ H) :
    ∃ W : Nat → Nat → St → Hp → Prop, (∃ m, W 0 m σ H) ∧ ∀ i m σ H, W i m σ H →
      (J.stop i H ∧ D.nx σ H) ∨ (J.go i H ∧ ∃ N : St → Hp → Prop, (∀ σ' H', N σ' H' → ∃ m', m' < m ∧ W (i + 1) m' σ' H') ∧ ∀ x H', J.yld i H x H' → g x σ H' fun σ2 H2 => tb { D with nx := N, ct := N, bk := D.nx } σ2 H2) := by
  refine ⟨fun i m σ H => m = n - i ∧ i ≤ n ∧ Pv i σ H, ⟨n, by simp, Nat.zero_le _, h0⟩, ?_⟩
  rintro i m σ H ⟨rfl, hi, p⟩
  by_cases hlt : i < n
  · exact .inr ⟨hgo i σ H hlt p, Pv (i + 1), fun σ' H' q => ⟨n - (i + 1), by omega, rfl, hlt, q⟩, fun x H' y => hs i σ H x H' hlt p y⟩
  · have e : i = n := by omega
    subst e
    exact .inl ⟨hst σ H p, hd σ H p⟩
theorem lc_any {J : It} {k : Nat} {fr : List Nat} {g : TG} {tt : TT} {te : TE} {σ : St} {H0 : Hp} {Q : Addr → Hp → Prop} (n : Nat) (Pr : V → Prop) (hl : n ≤ sizeLine) (hgo : ∀ i H, i < n → Same H0 H → J.go i H) (hst : ∀ H, Same H0 H → J.stop n H)
    (ht : ∀ i H x H', i < n → Same H0 H → J.yld i H x H' → Same H H' ∧ ∀ (C : V → Hp → Prop) (N : Hp → Prop), (∀ v H4, Same H' H4 → Pr v → C v H4) →
      g x (nfS k fr σ) H' fun σ2 H2 => nfLe k fr σ σ2 ∧ tt σ2 H2 fun b H3 => if b = true then te σ2 H3 C else N H3)
    (hq : ∀ D H' ys, H0 D = none → Same H0 H' → H' D = some (.lst ys) → ys.length = n → (∀ y ∈ ys, Pr y) → Q D H') : rLC k fr g tt te σ J H0 Q := by
  intro D hD
  refine ⟨fun i m acc H => m = n - i ∧ i ≤ n ∧ acc.length = i ∧ (∀ y ∈ acc, Pr y) ∧ H D = some (.lst acc) ∧ Same H0 H, ⟨n, by simp, Nat.zero_le _, rfl, (fun _ z => nomatch z), upd_same, same_new hD _⟩, ?_⟩
  rintro i m acc H ⟨rfl, hi, ha, hP, hDa, sm⟩
  refine ⟨hDa, ?_⟩
  by_cases hlt : i < n
  · refine .inr ⟨hgo i H hlt sm, fun x H' y => ?_⟩
    obtain ⟨s1, h1⟩ := ht i H x H' hlt sm y
    refine h1 _ _ fun v H4 s4 pv => ?_
    have s5 := s1.trans s4
    refine ⟨s5 _ _ hDa, by omega, n - (i + 1), by omega, rfl, hlt, by rw [List.length_append, ha]; rfl, ?_, upd_same, same_grow hD (sm.trans s5)⟩
    intro z hz
    rcases List.mem_append.mp hz with hz | hz
    · exact hP z hz
    · rw [show z = v by simpa using hz]; exact pv
  · have e : i = n := by omega
    subst e
    exact .inl ⟨hst H sm, hq D H acc hD sm hDa ha hP⟩
/-- numbers walked while the tape at t goes on -/
theorem lc_tape {n : Nat} {k : Nat} {fr : List Nat} {g : TG} {tt : TT} {te : TE} {σ : St} {H0 : Hp} {Q : Addr → Hp → Prop} (t : Addr) (m0 : Int) (Pr : V → Prop) (hl : n ≤ sizeLine) (h0 : H0 t = some (.lst [.int m0]))
    (ht : ∀ i, i < n → ∀ H', SameX t H0 H' → H' t = some (.lst [.int (m0 + (i : Nat))]) → ∀ (C : V → Hp → Prop) (N : Hp → Prop), (∀ v H4, SameX t H' H4 → H4 t = some (.lst [.int (m0 + (i : Nat) + 1)]) → Pr v → C v H4) →
      g (.int (0 + (i : Nat))) (nfS k fr σ) H' fun σ2 H2 => nfLe k fr σ σ2 ∧ tt σ2 H2 fun b H3 => if b = true then te σ2 H3 C else N H3)
    (hq : ∀ D H' ys, H0 D = none → SameX t H0 H' → H' t = some (.lst [.int (m0 + (n : Nat))]) → H' D = some (.lst ys) → ys.length = n → (∀ y ∈ ys, Pr y) → Q D H') : rLC k fr g tt te σ (Itr 0 n) H0 Q := by
  intro D hD
  have hDt : D ≠ t := fun e => by rw [e, h0] at hD; cases hD
  refine ⟨fun i m acc H => m = n - i ∧ i ≤ n ∧ acc.length = i ∧ (∀ y ∈ acc, Pr y) ∧ H D = some (.lst acc) ∧ SameX t H0 H ∧ H t = some (.lst [.int (m0 + (i : Nat))]), ⟨n, by simp, Nat.zero_le _, rfl, (fun _ z => nomatch z), upd_same, SameX.of (same_new hD _), ?_⟩, ?_⟩
  · rw [upd_ne (Ne.symm hDt), h0]; simp
  rintro i m acc H ⟨rfl, hi, ha, hP, hDa, sm, et⟩
  refine ⟨hDa, ?_⟩
  by_cases hlt : i < n
  · refine .inr ⟨hlt, ?_⟩
    rintro x H' ⟨rfl, rfl⟩
    refine ht i hlt _ sm et _ _ fun v H4 s4 et4 pv => ?_
    refine ⟨s4 _ _ hDt hDa, by omega, n - (i + 1), by omega, rfl, hlt, by rw [List.length_append, ha]; rfl, ?_, upd_same, ?_, ?_⟩
    · intro z hz
      rcases List.mem_append.mp hz with hz | hz
      · exact hP z hz
      · rw [show z = v by simpa using hz]; exact pv
    · intro b o nb hb
      rw [upd_ne (fun z => by rw [z, hD] at hb; cases hb)]
      exact (sm.trans s4) b o nb hb
    · rw [upd_ne (Ne.symm hDt), et4]
      congr 4
      omega
  · have e : i = n := by omega
    subst e
    exact .inl ⟨Nat.le_refl _, hq D H acc hD sm et hDa ha hP⟩
section
variable {P : Program} {w : World} {K : PySem.W.Frag} {mg : Str → Option Value} {base : Heap}
/-! _law_draw -/
abbrev sDraw : Stmt := top 5
theorem scDraw : FnScope ["_law_script", "_law_tape", "_law_many", "_law_seed", "_law_cell"] ["_law_script", "_law_tape", "_law_many"] (defScope sDraw) := ⟨rfl, rfl, rfl, by decide +kernel, rfl, by decide +kernel, by decide +kernel⟩
def spDraw (K : PySem.W.Frag) : Sp := fun vs H Q _ => ∃ (a t : Addr) (ns : List Int) (m many : Int), vs = [.ref a, .ref t, .int many] ∧ Scr K t H a ns ∧ ns.length ≤ 1000 ∧ H t = some (.lst [.int m]) ∧ 0 ≤ m ∧ m ≤ 1000 ∧ 0 < many ∧
  ∀ i H', 0 ≤ i → i < many → SameX t H H' → H' t = some (.lst [.int (m + 1)]) → Q (.int i) H'
theorem ok_draw {f : Addr} {fd : FuncData} (F : Fun K "_law_draw" "_law_draw" sDraw f fd) (T : Tx9 mg) : FnOk P w K mg base CX0 1 f fd ["_law_script", "_law_tape", "_law_many"] (spDraw K) := by
  have sc := scDraw
  refine F.ok sc (fun vs H Q E h => ?_) (fun cdv A outer s H vs Q E hr h => ?_)
  · obtain ⟨a, t, ns, m, many, rfl, _⟩ := h
    rfl
  obtain ⟨a, t, ns, m, many, rfl, hscr, hns, et, m0, m1, hmany, q⟩ := h
  refine of_XB (xbc (xasg (xop op_add (xix ix_list (xv 1) xint (fun _ _ => rfl)) xint) (xgsub (xv 1) xint set_list))
    (xbc (xif (xcmpT op_le (xix ix_list (xv 1) xint (fun _ _ => rfl)) (xcB call_len_seq T.n_len PySem.boot_len (xac (xv 0) xa0)) (nomark _)) (xb1 (xret (xop op_mod (xix ix_list (xv 0) (xop op_sub (xix ix_list (xv 1) xint (fun _ _ => rfl)) xint) (fun _ _ => rfl)) (xv 2)))) xb0)
    (xbc (xset (i := 3) sc.nd rfl (Or.inl rfl) (xcB call_len_seq T.n_len PySem.boot_len (xac (xv 0) xa0)))
    (xbc (xfor PassesOwn.never rfl (xil (xsl sl_list (xv 0) xo0 (xo1 xint))) (xgn (i := 4) sc.nd rfl (Or.inl rfl))
    (xb1 (xset (i := 3) sc.nd rfl (Or.inl rfl) (xop op_mod (xop op_add (xop op_mul (xv 3) xint) (xv 4)) xint))))
    (xb1 (xret (xop op_mod (xop op_mod (xop op_mul (xop op_add (xv 3) xint) (xop op_add (xop op_mul (xix ix_list (xv 1) xint (fun _ _ => rfl)) (xix ix_list (xv 1) xint (fun _ _ => rfl))) xint)) xint) (xv 2)))))))) ?_
  refine ⟨_, rfl, t, _, 0, .int m, rfl, rfl, SqL.of et, atI_nat (j := 0) rfl, _, _, rfl, rfl, _, rfl, t, _, 0, 0, rfl, rfl, et, rfl, ?_⟩
  have et1 : upd H t (.lst [.int (m + 1)]) t = some (.lst [.int (m + 1)]) := upd_same
  have s1 : SameX t H (upd H t (.lst [.int (m + 1)])) := SameX.upd _
  show tSeq _ _ _ _ (upd H t (.lst [.int (m + 1)]))
  generalize upd H t (.lst [.int (m + 1)]) = H1 at et1 s1
  have hq1 : SqL K H1 a (vI ns) := hscr H1 s1
  refine ⟨_, rfl, t, _, 0, .int (m + 1), rfl, rfl, SqL.of et1, atI_nat (j := 0) rfl, _, rfl, a, _, rfl, .inl hq1, _, _, rfl, rfl, _, rfl, ?_⟩
  rw [List.length_map]
  refine ite2 (fun c => ?_) (fun c => ?_)
  · have c := of_decide_eq_true c
    obtain ⟨j, hj⟩ : ∃ j : Nat, m + 1 - 1 = (j : Int) := ⟨m.toNat, by omega⟩
    have hjl : j < ns.length := by omega
    refine ⟨_, rfl, _, rfl, t, _, 0, .int (m + 1), rfl, rfl, SqL.of et1, atI_nat (j := 0) rfl, _, _, rfl, rfl, a, _, _, .int ns[j], rfl, rfl, hq1, ?_, _, rfl, _, _, rfl, rfl, hmany, ?_⟩
    · rw [hj]
      exact atI_nat (by rw [List.getElem?_map, List.getElem?_eq_getElem hjl]; rfl)
    · exact q _ _ (Int.emod_nonneg _ (by omega)) (Int.emod_lt_of_pos _ hmany) s1 et1
  · refine ⟨_, rfl, a, _, rfl, .inl hq1, ?_⟩
    refine ⟨_, rfl, _, rfl, a, _, rfl, hq1, fun p hp => ⟨p, rfl, ⟨_, SqL.of upd_same⟩, ?_⟩⟩
    have hpt : t ≠ p := fun e => by rw [← e, et1] at hp; cases hp
    refine for_list (xs := cutV (vI ns) none (some 4)) (fun i σ H' => ∃ (sd : Int) (x : Option V), σ = [some (.ref a), some (.ref t), some (.int many), some (.int sd), x] ∧ 0 ≤ sd ∧ sd ≤ 1000003 ∧ SameX t H H' ∧ H' t = some (.lst [.int (m + 1)]) ∧ H' p = some (.lst (cutV (vI ns) none (some 4))))
      ⟨ns.length, none, by rw [List.length_map]; rfl, by omega, by omega, s1.trans (SameX.of (same_new hp _)), (upd_ne hpt).trans et1, upd_same⟩ ?_ ?_ ?_
    · rintro i σ H' _ ⟨sd, x, _, _, _, _, _, h⟩
      exact SqL.of h
    · rintro i v σ H' hv ⟨sd, x, rfl, h0, h1, s2, et2, ep⟩
      have hmem := List.mem_of_getElem? hv
      unfold cutV at hmem
      obtain ⟨n, _, rfl⟩ := List.mem_map.mp (List.mem_of_mem_drop (List.mem_of_mem_take hmem))
      refine ⟨_, rfl, _, _, rfl, rfl, .inl ⟨by omega, by omega⟩, _, rfl, _, _, rfl, rfl, _, _, rfl, rfl, show (0 : Int) < 1000003 by omega, _, _, rfl, Int.emod_nonneg _ (by omega), ?_, s2, et2, ep⟩
      have := Int.emod_lt_of_pos (sd * 131 + n) (show (0 : Int) < 1000003 by omega)
      exact Int.le_of_lt this
    · rintro σ H' ⟨sd, x, rfl, h0, h1, s2, et2, ep⟩
      have hmm : 0 ≤ (m + 1) * (m + 1) ∧ (m + 1) * (m + 1) ≤ 1002001 := by
        constructor
        · exact Int.mul_nonneg (by omega) (by omega)
        · calc (m + 1) * (m + 1) ≤ 1001 * 1001 := Int.mul_le_mul (by omega) (by omega) (by omega) (by omega)
            _ = 1002001 := rfl
      refine ⟨_, rfl, _, _, rfl, rfl, _, rfl, t, _, 0, .int (m + 1), rfl, rfl, SqL.of et2, atI_nat (j := 0) rfl, _, rfl, t, _, 0, .int (m + 1), rfl, rfl, SqL.of et2, atI_nat (j := 0) rfl, _, _, rfl, rfl, .inl ⟨by omega, by omega⟩, _, _, rfl, rfl, _, _, rfl, rfl, .inl ⟨by omega, by omega⟩, _, _, rfl, rfl, show (0 : Int) < 1000003 by omega, _, rfl, _, _, rfl, rfl, hmany, ?_⟩
      exact q _ _ (Int.emod_nonneg _ (by omega)) (Int.emod_lt_of_pos _ hmany) s2 et2
/-! _law_whole -/
abbrev sWhole : Stmt := top 6
theorem scWhole : FnScope ["_law_found"] ["_law_found"] (defScope sWhole) := ⟨rfl, rfl, rfl, by decide +kernel, rfl, by decide +kernel, by decide +kernel⟩
def spWhole : Sp := fun vs H Q _ => ∃ i : Int, vs = [.int i] ∧ Q (.bl true) H
theorem ok_whole {f : Addr} {fd : FuncData} (F : Fun K "_law_whole" "_law_whole" sWhole f fd) (T : Tx9 mg) : FnOk P w K mg base CX0 1 f fd ["_law_found"] spWhole := by
  have sc := scWhole
  refine F.ok sc (fun vs H Q E h => ?_) (fun cdv A outer s H vs Q E hr h => ?_)
  · obtain ⟨i, rfl, _⟩ := h
    rfl
  obtain ⟨i, rfl, q⟩ := h
  refine of_XB (xb1 (xret (xandV (xcB call_isT T.n_isinstance rfl (xac (xv 0) (xac (xty (T := "int") T.n_int rfl) xa0))) (xone (xnot (xcB call_isT T.n_isinstance rfl (xac (xv 0) (xac (xty (T := "bool") T.n_bool rfl) xa0)))))))) ?_
  refine ⟨_, rfl, _, _, _, true, rfl, .int _, kit_same _ _, _, rfl, ?_⟩
  refine ite2 (fun _ => ?_) (fun c => absurd rfl c)
  exact ⟨_, rfl, _, _, "bool", false, rfl, .int _, by with_unfolding_all rfl, _, rfl, q⟩
end
end K9

set_option Elab.async false
set_option linter.all false
set_option maxRecDepth 100000
set_option maxHeartbeats 4000000
namespace K9
open PySem L2 Lm Lw
theorem den_ints {K : PySem.W.Frag} {H : Hp} : ∀ ns : List Int, DenAll K H (vI ns) (ns.map PyData.int)
  | [] => .nil
  | n :: ns => .cons (.int n) (den_ints ns)
theorem dep_ints : ∀ ns : List Int, PyData.depthAll (ns.map PyData.int) ≤ 1
  | [] => by simp [PyData.depthAll]
  | n :: ns => by
    have := dep_ints ns
    simp only [List.map_cons, PyData.depthAll, PyData.depth]
    omega
theorem dep_list (ns : List Int) : PyData.depth (.list (ns.map PyData.int)) ≤ 6 := by
  have := dep_ints ns
  simp only [PyData.depth]
  omega
/-- what shares tells -/
def Good (ws : List Int) (r : Int) (ys : List Int) : Prop := Gave ws ys ∧ (ws.sum ≤ r → ys = ws) ∧ (r ≤ ws.sum → ys.sum = r)
theorem vI_get {ns : List Int} {i : Nat} {u : V} (h : (vI ns)[i]? = some u) : ∃ n, u = .int n ∧ ns[i]? = some n := by
  rw [List.getElem?_map] at h
  cases e : ns[i]? with
  | none => rw [e] at h; cases h
  | some n => rw [e] at h; cases h; exact ⟨n, rfl, rfl⟩
section
variable {P : Program} {w : World} {K : PySem.W.Frag} {mg : Str → Option Value} {base : Heap}
abbrev sRight : Stmt := top 7
theorem scRight : FnScope ["_law_wants", "_law_room", "_law_found", "_law_widest", "_law_late", "_law_one", "_law_want"] ["_law_wants", "_law_room", "_law_found"] (defScope sRight) := ⟨rfl, rfl, rfl, by decide +kernel, rfl, by decide +kernel, by decide +kernel⟩
def spRight : Sp := fun vs H Q _ => ∃ (aw af : Addr) (r : Int) (ws ys : List Int), vs = [.ref aw, .int r, .ref af] ∧ H aw = some (.lst (vI ws)) ∧ H af = some (.lst (vI ys)) ∧ Good ws r ys ∧ 0 < ws.length ∧ ws.length ≤ 1000 ∧ ∀ H', Same H H' → Q (.bl true) H'
theorem ok_right {f : Addr} {fd : FuncData} (F : Fun K "_law_right" "_law_right" sRight f fd) (T : Tx9 mg) (D_l_whole : Def P w K mg base 1 "_law_whole" ["_law_found"] spWhole) : FnOk P w K mg base CX0 2 f fd ["_law_wants", "_law_room", "_law_found"] spRight := by
  have sc := scRight
  refine F.ok sc (fun vs H Q E h => ?_) (fun cdv A outer s H vs Q E hr h => ?_)
  · obtain ⟨aw, af, r, ws, ys, rfl, _⟩ := h
    rfl
  obtain ⟨aw, af, r, ws, ys, rfl, ew, ef, ⟨g, g1, g2⟩, h0, h1, q⟩ := h
  have hu : (A.deeper (PyProof.Rows.envOfC "_law_right" (defScope sRight) s.heap.objs.size f cdv)).units + 64 < cLine := by
    have := hr.un
    omega
  refine of_XB (xbc (xif (xor (xnotT (xvalT (xcB call_isT T.n_isinstance rfl (xac (xv 2) (xac (xty (T := "list") T.n_list rfl) xa0))))) (xor (xcmpT op_ne (xcB call_len_seq T.n_len PySem.boot_len (xac (xv 2) xa0)) (xcB call_len_seq T.n_len PySem.boot_len (xac (xv 0) xa0)) (nomark _)) (xor1 (xnotT (xvalT (xcB (call_all rfl) T.n_all rfl (xac (xlc (cl := []) (own := ["_law_one"]) (fr := []) (N' := ["_law_one"]) rfl (compN (xs := []) trivial trivial (by decide +kernel)) (by decide +kernel) (by decide +kernel) (by with_unfolding_all rfl)
    (xil (xv 2))
    (fun _ _ _ _ => xgn (i := 0) (show (["_law_one"] : List Str).Nodup by decide +kernel) rfl (Or.inl rfl)) (fun _ _ _ _ => xq0) (fun _ _ _ _ => (xcD D_l_whole (hr.mono (by decide)) (xac (xv 0) xa0)))) xa0))))))).xt (xb1 (xret xbl)) xb0)
    (xbc (xif (xnotT (xvalT (xcB (call_all rfl) T.n_all rfl (xac (xlc (cl := []) (own := ["_law_one", "_law_want"]) (fr := []) (N' := ["_law_one", "_law_want"]) rfl (compN (xs := []) trivial trivial (by decide +kernel)) (by decide +kernel) (by decide +kernel) (by with_unfolding_all rfl)
    (xiz T.n_zip (xac (xv 2) (xac (xv 0) xa0)))
    (fun _ _ _ _ => xgtC (n := 2) rfl (xgsc (xgn (i := 0) (show (["_law_one", "_law_want"] : List Str).Nodup by decide +kernel) rfl (Or.inl rfl)) (xgsc (xgn (i := 1) (show (["_law_one", "_law_want"] : List Str).Nodup by decide +kernel) rfl (Or.inl rfl)) xgs0))) (fun _ _ _ _ => xq0) (fun _ _ _ _ => (xch op_le op_le xint (xv 0) (xv 1)))) xa0)))) (xb1 (xret xbl)) xb0)
    (xbc (xif (xcmpT op_le (xcB (call_sum rfl) T.n_sum rfl (xac (xv 0) xa0)) (xv 1) (nomark _)) (xb1 (xret (xcmp (op_eqD hu) (xv 2) (xv 0) (nomark _)))) xb0)
    (xbc (xif (xcmpT op_ne (xcB (call_sum rfl) T.n_sum rfl (xac (xv 2) xa0)) (xv 1) (nomark _)) (xb1 (xret xbl)) xb0)
    (xbc (xset (i := 3) sc.nd rfl (Or.inl rfl) (xcB (call_maxL rfl) T.n_max rfl (xac (xv 2) xa0)))
    (xbc (xset (i := 4) sc.nd rfl (Or.inl rfl) xbl)
    (xbc (xfor PassesOwn.never rfl (xiz T.n_zip (xac (xv 2) (xac (xv 0) xa0))) (xgt rfl (xgsc (xgn (i := 5) sc.nd rfl (Or.inl rfl)) (xgsc (xgn (i := 6) sc.nd rfl (Or.inl rfl)) xgs0)))
    (xbc (xif (xand (xcmpT op_lt (xv 5) (xop op_sub (xv 3) xint) (nomark _)) (xand1 (xcmpT op_ne (xv 5) (xv 6) (nomark _)))).xt (xb1 (xret xbl)) xb0)
    (xbc (xif (xand (xcmpT op_eq (xv 5) (xv 3) (nomark _)) (xand1 (xcmpT op_ge (xv 6) (xv 3) (nomark _)))).xt (xb1 (xset (i := 4) sc.nd rfl (Or.inl rfl) xbl)) xb0)
    (xb1 (xif (xand (xcmpT op_eq (xv 5) (xop op_sub (xv 3) xint) (nomark _)) (xand (xcmpT op_ge (xv 6) (xv 3) (nomark _)) (xand1 (xvalT (xv 4))))).xt (xb1 (xret xbl)) xb0)))))
    (xb1 (xret xbl))))))))) ?_
  have hs : sizeLine = 16777216 := sizeLine_eq
  have hlen := g.len
  dsimp only [tSeq, tNext]
  refine s_if false (t_or false false (t_not true fun R k => ⟨_, rfl, _, _, _, true, rfl, .lst ef, kit_same _ _, _, rfl, k _ (Same.refl _)⟩) (fun _ Ha sa => t_or false false (fun R k => ⟨_, rfl, af, _, rfl, .inl (SqL.of (sa _ _ ef)), _, rfl, aw, _, rfl, .inl (SqL.of (sa _ _ ew)), rfl, _, rfl, ?_⟩)
    (fun _ Hb sb => t_not true fun R k => ?_))) (fun _ _ z => Bool.noConfusion z) (fun H1 s1 _ => ?_)
  · rw [List.length_map, List.length_map, hlen, decide_eq_true rfl]
    exact k _ (Same.refl _)
  · have efb := sb _ _ (sa _ _ ef)
    refine ⟨_, rfl, af, rfl, ⟨_, SqL.of efb⟩, ?_⟩
    refine lc_list (fun _ => true) (fun _ => .bl true) (SqL.of efb) (by rw [List.length_map]; omega) ?_ ?_
    · intro x hx H2 s2 C N hC hN
      obtain ⟨i, _, rfl⟩ := List.mem_map.mp hx
      exact ⟨(nfLe.refl _ _ _).set (by decide) _, _, rfl, i, rfl, hC _ (Same.refl _) rfl⟩
    · intro D H2 hD s2 eD
      refine ⟨D, ys.map fun _ => true, rfl, SqL.of ?_, _, rfl, ?_⟩
      · rw [eD, List.filter_eq_self.mpr (fun _ _ => rfl), List.map_map, List.map_map]
        rfl
      · rw [show (ys.map fun _ => true).all id = true by rw [List.all_eq_true]; intro x hx; obtain ⟨_, _, rfl⟩ := List.mem_map.mp hx; rfl]
        exact k _ s2
  dsimp only [tNext]
  refine s_if false (t_not true fun R k => ?_) (fun _ _ z => Bool.noConfusion z) (fun H2 s2 _ => ?_)
  · have ef1 := s1 _ _ ef
    have ew1 := s1 _ _ ew
    refine ⟨_, rfl, _, rfl, af, aw, rfl, ⟨_, SqL.of ef1⟩, ⟨_, SqL.of ew1⟩, ?_⟩
    refine lc_any ws.length (fun v => v = .bl true) (by omega) ?_ ?_ ?_ ?_
    · intro i H3 hi s3
      refine ⟨vI ys, vI ws, .int (ys.getD i 0), .int (ws.getD i 0), SqL.of (s3 _ _ ef1), SqL.of (s3 _ _ ew1), ?_, ?_⟩
      · rw [List.getElem?_map, List.getD_eq_getElem?_getD, List.getElem?_eq_getElem (by omega)]; rfl
      · rw [List.getElem?_map, List.getD_eq_getElem?_getD, List.getElem?_eq_getElem hi]; rfl
    · intro H3 s3
      exact ⟨vI ys, vI ws, SqL.of (s3 _ _ ef1), SqL.of (s3 _ _ ew1), .inr (by rw [List.length_map]; exact Nat.le_refl _)⟩
    · rintro i H3 x H4 hi s3 ⟨Tt, u, v, hu', hv', hT, rfl, rfl⟩
      obtain ⟨y, rfl, ey⟩ := vI_get (hu' _ (SqL.of (s3 _ _ ef1)))
      obtain ⟨z, rfl, ez⟩ := vI_get (hv' _ (SqL.of (s3 _ _ ew1)))
      have y1 := g.one y (List.mem_of_getElem? ey)
      have yz := g.le i y z ey ez
      refine ⟨same_new hT _, fun C N hC => ⟨Tt, _, rfl, tupT upd_same, rfl, _, _, rfl, _, _, rfl, rfl, (((nfLe.refl _ _ _).set (by decide) _).set (by decide) _), ?_⟩⟩
      refine iteT (B := N (upd H3 Tt (.tup [.int y, .int z]))) ⟨_, rfl, _, _, rfl, rfl, _, rfl, ?_⟩
      rw [decide_eq_true y1]
      refine iteT ⟨_, rfl, _, _, rfl, rfl, ?_⟩
      exact hC _ _ (Same.refl _) (congrArg V.bl (decide_eq_true yz))
    · intro D H3 bs hD s3 eD hbl hb
      have eb : bs = (bs.map fun _ => true).map V.bl := by
        rw [List.map_map]
        conv => lhs; rw [← List.map_id bs]
        exact List.map_congr_left fun x hx => hb x hx
      rw [eb] at eD
      refine ⟨D, bs.map fun _ => true, rfl, SqL.of eD, _, rfl, ?_⟩
      rw [show (bs.map fun _ => true).all id = true by rw [List.all_eq_true]; intro x hx; obtain ⟨_, _, rfl⟩ := List.mem_map.mp hx; rfl]
      exact k _ s3
  dsimp only [tNext]
  have s12 := s1.trans s2
  refine s_if (decide (ws.sum ≤ r)) (fun R k => ⟨_, rfl, aw, ws, rfl, SqL.of (s12 _ _ ew), _, rfl, _, _, rfl, rfl, _, rfl, k _ (Same.refl _)⟩) (fun H3 s3 d => ?_) (fun H3 s3 d => ?_)
  · have e := g1 (of_decide_eq_true d)
    subst e
    have s13 := s12.trans s3
    exact ⟨_, rfl, _, rfl, .list (ys.map PyData.int), .lst (SqL.of (s13 _ _ ef)) (den_ints _), .lst (SqL.of (s13 _ _ ew)) (den_ints _), dep_list ys, q _ s13⟩
  have hgt : r ≤ ws.sum := by have := of_decide_eq_false d; omega
  have hsum := g2 hgt
  have s13 := s12.trans s3
  dsimp only [tNext]
  refine s_if false (fun R k => ⟨_, rfl, af, ys, rfl, SqL.of (s13 _ _ ef), _, rfl, rfl, _, rfl, ?_⟩) (fun _ _ z => Bool.noConfusion z) (fun H4 s4 _ => ?_)
  · rw [hsum, decide_eq_true rfl]
    exact k _ (Same.refl _)
  dsimp only [tNext]
  have s14 := s13.trans s4
  refine ⟨_, rfl, af, ys, rfl, SqL.of (s14 _ _ ef), by omega, fun m hm hmax => ?_⟩
  have im : isMax ys m := ⟨hm, hmax⟩
  have ef4 := s14 _ _ ef
  have ew4 := s14 _ _ ew
  dsimp only [gName, tSeq]
  refine ⟨_, rfl, _, rfl, af, aw, rfl, ⟨_, SqL.of ef4⟩, ⟨_, SqL.of ew4⟩, ?_⟩
  refine for_any ws.length (fun i σ H' => ∃ (late : Bool) (x5 x6 : Option V), σ = [some (.ref aw), some (.int r), some (.ref af), some (.int m), some (.bl late), x5, x6] ∧ Same H4 H' ∧ (late = true → ∃ j, j < i ∧ ys[j]? = some m)) ⟨false, none, none, rfl, Same.refl _, fun z => nomatch z⟩ ?_ ?_ ?_ ?_
  · rintro i σ H' hi ⟨late, x5, x6, _, s5, _⟩
    refine ⟨vI ys, vI ws, .int (ys.getD i 0), .int (ws.getD i 0), SqL.of (s5 _ _ ef4), SqL.of (s5 _ _ ew4), ?_, ?_⟩
    · rw [List.getElem?_map, List.getD_eq_getElem?_getD, List.getElem?_eq_getElem (by omega)]; rfl
    · rw [List.getElem?_map, List.getD_eq_getElem?_getD, List.getElem?_eq_getElem hi]; rfl
  · rintro σ H' ⟨late, x5, x6, _, s5, _⟩
    exact ⟨vI ys, vI ws, SqL.of (s5 _ _ ef4), SqL.of (s5 _ _ ew4), .inr (by rw [List.length_map]; exact Nat.le_refl _)⟩
  · rintro i σ H5 x H6 hi ⟨late, x5, x6, rfl, s5, hlate⟩ ⟨Tt, u, v, hu', hv', hT, rfl, rfl⟩
    obtain ⟨y, rfl, ey⟩ := vI_get (hu' _ (SqL.of (s5 _ _ ef4)))
    obtain ⟨z, rfl, ez⟩ := vI_get (hv' _ (SqL.of (s5 _ _ ew4)))
    have hway := g.way m im i y z ey ez
    have s6 := s5.trans (same_new hT (.tup [.int y, .int z]))
    refine ⟨Tt, _, rfl, tupT upd_same, rfl, _, _, rfl, _, _, rfl, rfl, ?_⟩
    dsimp only [tSeq, gName, tNext]
    refine s_if (decide (y < m - 1) && decide (y ≠ z)) (t_and (decide (y < m - 1)) (decide (y ≠ z)) (t_cmp (ev_v rfl) (ev_op (ev_v rfl) ev_c rfl) rfl) (fun _ Ha sa R k => ⟨_, rfl, _, rfl, rfl, _, rfl, ?_⟩)) (fun _ _ d => ?_) (fun H7 s7 _ => ?_)
    · rw [show (!decide (V.int y = V.int z)) = decide (y ≠ z) by rw [← decide_not]; exact decide_eq_decide.mpr ⟨fun h e => h (by rw [e]), fun h e => h (V.int.inj e)⟩]
      exact k _ (Same.refl _)
    · rw [Bool.and_eq_true] at d
      have d1 := of_decide_eq_true d.1
      have d2 := of_decide_eq_true d.2
      omega
    dsimp only [tNext]
    refine s_if (decide (y = m) && decide (z ≥ m)) (t_and (decide (y = m)) (decide (z ≥ m)) (t_eqi (ev_v rfl) (ev_v rfl)) (fun _ Ha sa => t_cmp (ev_v rfl) (ev_v rfl) rfl)) (fun H8 s8 d => ?_) (fun H8 s8 d => ?_)
    · rw [Bool.and_eq_true] at d
      have hym := of_decide_eq_true d.1
      have hl3 : (true : Bool) = true → ∃ j, j < i + 1 ∧ ys[j]? = some m := fun _ => ⟨i, by omega, by rw [ey, hym]⟩
      have hC : y = m - 1 → z ≥ m → (true : Bool) = true → False := fun e _ _ => by omega
      dsimp only [tAsg, tC, gName]
      refine s_if (decide (y = m - 1) && (decide (z ≥ m) && true)) (t_and (decide (y = m - 1)) (decide (z ≥ m) && true) (t_eqi (ev_v rfl) (ev_op (ev_v rfl) ev_c rfl)) (fun _ Ha sa => t_and (decide (z ≥ m)) true (t_cmp (ev_v rfl) (ev_v rfl) rfl) (fun _ Hb sb R k => ⟨_, rfl, _, rfl, k _ (Same.refl _)⟩))) (fun _ _ d2 => ?_) (fun H9 s9 _ => ?_)
      · rw [Bool.and_eq_true, Bool.and_eq_true] at d2
        exact (hC (of_decide_eq_true d2.1) (of_decide_eq_true d2.2.1) d2.2.2).elim
      · exact ⟨true, _, _, rfl, ((s6.trans s7).trans s8).trans s9, hl3⟩
    · have hl3 : late = true → ∃ j, j < i + 1 ∧ ys[j]? = some m := fun e => by
        obtain ⟨j, h1, h2⟩ := hlate e
        exact ⟨j, by omega, h2⟩
      have hC : y = m - 1 → z ≥ m → late = true → False := fun e1 e2 e3 => by
        obtain ⟨j, h1, h2⟩ := hlate e3
        have := g.fst m im j i z h1 h2 (by rw [ey, e1]) ez
        omega
      dsimp only [tNext]
      refine s_if (decide (y = m - 1) && (decide (z ≥ m) && late)) (t_and (decide (y = m - 1)) (decide (z ≥ m) && late) (t_eqi (ev_v rfl) (ev_op (ev_v rfl) ev_c rfl)) (fun _ Ha sa => t_and (decide (z ≥ m)) late (t_cmp (ev_v rfl) (ev_v rfl) rfl) (fun _ Hb sb R k => ⟨_, rfl, _, rfl, k _ (Same.refl _)⟩))) (fun _ _ d2 => ?_) (fun H9 s9 _ => ?_)
      · rw [Bool.and_eq_true, Bool.and_eq_true] at d2
        exact (hC (of_decide_eq_true d2.1) (of_decide_eq_true d2.2.1) d2.2.2).elim
      · exact ⟨late, _, _, rfl, ((s6.trans s7).trans s8).trans s9, hl3⟩
  · rintro σ H5 ⟨late, x5, x6, rfl, s5, _⟩
    exact q _ (s14.trans s5)
end
end K9

set_option linter.all false
namespace Lw
open PySem L2 Lm
/-! ### shares by a level -/
def capS (ws : List Int) (L : Int) : Int := (ws.map fun w => min w L).sum
def goS (L : Int) : Int → List Int → List Int
  | _, [] => []
  | o, w :: ws => if L < w ∧ 0 < o then L :: goS L (o - 1) ws else min w (L + 1) :: goS L o ws
def cntS (L : Int) : List Int → Int
  | [] => 0
  | w :: ws => (if L < w then 1 else 0) + cntS L ws
theorem cap_nil (L : Int) : capS [] L = 0 := rfl
theorem cap_cons (w : Int) (ws : List Int) (L : Int) : capS (w :: ws) L = min w L + capS ws L := by simp [capS]
theorem cap_succ (L : Int) : ∀ ws : List Int, capS ws (L + 1) = capS ws L + cntS L ws
  | [] => by simp [capS, cntS]
  | w :: ws => by
    have ih := cap_succ L ws
    rw [cap_cons, cap_cons, cntS, ih]
    split <;> omega
theorem cap_mono {L M : Int} (h : L ≤ M) : ∀ ws : List Int, capS ws L ≤ capS ws M
  | [] => by simp [capS]
  | w :: ws => by
    have ih := cap_mono h ws
    rw [cap_cons, cap_cons]
    omega
theorem cap_le (L : Int) : ∀ ws : List Int, capS ws L ≤ ws.sum
  | [] => by simp [capS]
  | w :: ws => by
    have ih := cap_le L ws
    rw [cap_cons, List.sum_cons]
    omega
theorem cap_top {L : Int} : ∀ {ws : List Int}, (∀ w ∈ ws, w ≤ L) → capS ws L = ws.sum
  | [], _ => by simp [capS]
  | w :: ws, h => by
    have ih := cap_top (ws := ws) fun x hx => h x (List.mem_cons_of_mem _ hx)
    have := h w List.mem_cons_self
    rw [cap_cons, List.sum_cons, ih]
    omega
theorem cap_low (L : Int) : ∀ ws : List Int, capS ws L ≤ ws.length * L
  | [] => by simp [capS]
  | w :: ws => by
    have ih := cap_low L ws
    rw [cap_cons, List.length_cons, Int.natCast_add, Int.add_mul]
    omega
theorem cap_one : ∀ {ws : List Int}, (∀ w ∈ ws, 1 ≤ w) → capS ws 1 = ws.length
  | [], _ => by simp [capS]
  | w :: ws, h => by
    have ih := cap_one (ws := ws) fun x hx => h x (List.mem_cons_of_mem _ hx)
    have := h w List.mem_cons_self
    rw [cap_cons, List.length_cons, ih]
    omega
theorem go_len (L : Int) : ∀ (ws : List Int) (o : Int), (goS L o ws).length = ws.length
  | [], _ => rfl
  | w :: ws, o => by
    unfold goS
    split
    · rw [List.length_cons, go_len L ws, List.length_cons]
    · rw [List.length_cons, go_len L ws, List.length_cons]
theorem cnt_nonneg (L : Int) : ∀ ws : List Int, 0 ≤ cntS L ws
  | [] => by simp [cntS]
  | w :: ws => by
    have := cnt_nonneg L ws
    unfold cntS
    split <;> omega
theorem go_sum (L : Int) : ∀ (ws : List Int) (o : Int), 0 ≤ o → o ≤ cntS L ws → (goS L o ws).sum = capS ws (L + 1) - o
  | [], o, h0, h1 => by simp [cntS] at h1; simp [goS, capS]; omega
  | w :: ws, o, h0, h1 => by
    have hc := cnt_nonneg L ws
    unfold goS
    unfold cntS at h1
    rw [cap_cons]
    split
    · rename_i c
      rw [if_pos c.1] at h1
      rw [List.sum_cons, go_sum L ws (o - 1) (by omega) (by omega)]
      omega
    · rename_i c
      by_cases z : L < w
      · have : o = 0 := by omega
        subst this
        rw [List.sum_cons, go_sum L ws 0 (by omega) (by omega)]
        omega
      · rw [if_neg z] at h1
        rw [List.sum_cons, go_sum L ws o h0 (by omega)]
        omega
theorem go_get {L : Int} : ∀ {ws : List Int} {o : Int} {i : Nat} {y w : Int}, (goS L o ws)[i]? = some y → ws[i]? = some w → (y = L ∧ L < w) ∨ y = min w (L + 1)
  | [], o, i, y, w, h, _ => by simp [goS] at h
  | u :: ws, o, i, y, w, h, h2 => by
    unfold goS at h
    split at h
    · rename_i c
      cases i with
      | zero => simp at h h2; subst h; subst h2; exact .inl ⟨rfl, c.1⟩
      | succ i => simp at h h2; exact go_get h h2
    · cases i with
      | zero => simp at h h2; subst h2; exact .inr h.symm
      | succ i => simp at h h2; exact go_get h h2
theorem go_none {L : Int} : ∀ {ws : List Int} {o : Int} {i : Nat} {y w : Int}, o ≤ 0 → (goS L o ws)[i]? = some y → ws[i]? = some w → y = min w (L + 1)
  | [], o, i, y, w, _, h, _ => by simp [goS] at h
  | u :: ws, o, i, y, w, ho, h, h2 => by
    unfold goS at h
    rw [if_neg (by omega)] at h
    cases i with
    | zero => simp at h h2; subst h2; exact h.symm
    | succ i => simp at h h2; exact go_none ho h h2
theorem go_late {L : Int} : ∀ {ws : List Int} {o : Int} {i j : Nat} {y w : Int}, i < j → (goS L o ws)[i]? = some (L + 1) → (goS L o ws)[j]? = some y → ws[j]? = some w → y = min w (L + 1)
  | [], o, i, j, y, w, _, h, _, _ => by simp [goS] at h
  | u :: ws, o, i, j + 1, y, w, hij, h, h1, h2 => by
    unfold goS at h h1
    split at h
    · rename_i c
      rw [if_pos c] at h1
      cases i with
      | zero => simp at h; omega
      | succ i => simp at h h1 h2; exact go_late (by omega) h h1 h2
    · rename_i c
      rw [if_neg c] at h1
      cases i with
      | zero =>
        simp at h h1 h2
        exact go_none (by omega) h1 h2
      | succ i => simp at h h1 h2; exact go_late (by omega) h h1 h2
theorem cnt_pos {L : Int} : ∀ {ws : List Int}, 0 < cntS L ws → ∃ (i : Nat) (w : Int), ws[i]? = some w ∧ L < w
  | [], h => by simp [cntS] at h
  | w :: ws, h => by
    by_cases z : L < w
    · exact ⟨0, w, rfl, z⟩
    · unfold cntS at h
      rw [if_neg z] at h
      obtain ⟨i, x, e, c⟩ := cnt_pos (L := L) (ws := ws) (by omega)
      exact ⟨i + 1, x, by simpa using e, c⟩
theorem pair_get {α β : Type} {xs : List α} {ys : List β} (h : xs.length = ys.length) {i : Nat} {y : β} (e : ys[i]? = some y) : ∃ x, xs[i]? = some x := by
  have := (List.getElem?_eq_some_iff.mp e).1
  exact ⟨xs[i], List.getElem?_eq_getElem (by omega)⟩
theorem go_gave {ws : List Int} {r L : Int} (h1 : ∀ w ∈ ws, 1 ≤ w) (hr : (ws.length : Int) ≤ r) (hl : capS ws L ≤ r) (hh : r < capS ws (L + 1)) :
    Gave ws (goS L (capS ws (L + 1) - r) ws) ∧ (goS L (capS ws (L + 1) - r) ws).sum = r := by
  have hL : 1 ≤ L := by
    rcases Int.lt_or_le L 1 with z | z
    · have := cap_mono (show L + 1 ≤ 1 by omega) ws
      rw [cap_one h1] at this
      omega
    · exact z
  have hc := cap_succ L ws
  generalize ho : capS ws (L + 1) - r = o
  have h0 : 0 < o := by omega
  have ho2 : o ≤ cntS L ws := by omega
  have hlen := go_len L ws o
  have hsum := go_sum L ws o (by omega) ho2
  have up : ∀ y ∈ goS L o ws, y ≤ L + 1 := by
    intro y hy
    obtain ⟨i, hi⟩ := List.getElem?_of_mem hy
    obtain ⟨w, hw⟩ := pair_get hlen.symm hi
    rcases go_get hi hw with z | z <;> omega
  have hmx : ∀ m, isMax (goS L o ws) m → m = L + 1 ∨ (m = L ∧ ∀ y ∈ goS L o ws, y ≤ L) := by
    intro m hm
    by_cases z : m = L + 1
    · exact .inl z
    · have hm1 := up m hm.1
      obtain ⟨i, w, hw, hw2⟩ := cnt_pos (show 0 < cntS L ws by omega)
      obtain ⟨y, hy⟩ := pair_get hlen hw
      have hy2 := hm.2 y (List.mem_of_getElem? hy)
      have : m = L := by rcases go_get hy hw with z | z <;> omega
      exact .inr ⟨this, fun y hy => by have := hm.2 y hy; omega⟩
  refine ⟨⟨hlen, ?_, ?_, ?_, ?_⟩, by rw [hsum]; omega⟩
  · intro y hy
    obtain ⟨i, hi⟩ := List.getElem?_of_mem hy
    obtain ⟨w, hw⟩ := pair_get hlen.symm hi
    have := h1 w (List.mem_of_getElem? hw)
    rcases go_get hi hw with z | z <;> omega
  · intro i y w e1 e2
    rcases go_get e1 e2 with z | z <;> omega
  · intro m hm i y w e1 e2
    rcases hmx m hm with z | ⟨z, zz⟩
    · rcases go_get e1 e2 with q | q <;> omega
    · have := zz y (List.mem_of_getElem? e1)
      rcases go_get e1 e2 with q | q <;> omega
  · intro m hm i j w hij e1 e2 e3
    rcases hmx m hm with z | ⟨z, zz⟩
    · subst z
      have := go_late hij e1 e2 e3
      omega
    · rcases go_get e2 e3 with q | q <;> omega
theorem cap_uniq {ws : List Int} {r L M : Int} (a : capS ws L ≤ r) (b : r < capS ws (L + 1)) (c : capS ws M ≤ r) (d : r < capS ws (M + 1)) : L = M := by
  rcases Int.lt_trichotomy L M with z | z | z
  · have := cap_mono (show L + 1 ≤ M by omega) ws; omega
  · exact z
  · have := cap_mono (show M + 1 ≤ L by omega) ws; omega
/-- what shares tells: all wants, or cut down to a level, the first ones of those above it to just this -/
noncomputable def levS (ws : List Int) (r : Int) : Int := Classical.epsilon fun L => capS ws L ≤ r ∧ r < capS ws (L + 1)
noncomputable def sharesL (ws : List Int) (r : Int) : List Int := if ws.sum ≤ r then ws else goS (levS ws r) (capS ws (levS ws r + 1) - r) ws
theorem lev_eq {ws : List Int} {r L : Int} (a : capS ws L ≤ r) (b : r < capS ws (L + 1)) : levS ws r = L := by
  have := Classical.epsilon_spec (p := fun L => capS ws L ≤ r ∧ r < capS ws (L + 1)) ⟨L, a, b⟩
  exact cap_uniq this.1 this.2 a b
theorem sharesL_some {ws : List Int} {r L : Int} (h : ¬ ws.sum ≤ r) (a : capS ws L ≤ r) (b : r < capS ws (L + 1)) : sharesL ws r = goS L (capS ws (L + 1) - r) ws := by
  unfold sharesL
  rw [if_neg h, lev_eq a b]
/-- a level from a low one and a high one -/
theorem lev_ex {ws : List Int} {r : Int} : ∀ (n : Nat) (lo hi : Int), (hi - lo).toNat ≤ n → capS ws lo ≤ r → r < capS ws hi → ∃ L, capS ws L ≤ r ∧ r < capS ws (L + 1)
  | 0, lo, hi, hn, a, b => by have := cap_mono (show hi ≤ lo by omega) ws; omega
  | n + 1, lo, hi, hn, a, b => by
    by_cases z : capS ws (lo + 1) ≤ r
    · exact lev_ex n (lo + 1) hi (by omega) z b
    · exact ⟨lo, a, by omega⟩
theorem sharesL_ok {ws : List Int} {r : Int} (h : ∀ w ∈ ws, 1 ≤ w) (hr : (ws.length : Int) ≤ r) : Gave ws (sharesL ws r) ∧ (ws.sum ≤ r → sharesL ws r = ws) ∧ (r ≤ ws.sum → (sharesL ws r).sum = r) := by
  by_cases z : ws.sum ≤ r
  · have e : sharesL ws r = ws := by unfold sharesL; rw [if_pos z]
    rw [e]
    exact ⟨Gave.refl h, fun _ => rfl, fun k => by omega⟩
  · have hne : ws ≠ [] := by rintro rfl; simp at z hr; omega
    obtain ⟨m, hm⟩ := max_ex hne
    have hb : capS ws m = ws.sum := cap_top hm.2
    obtain ⟨L, a, b⟩ := lev_ex (ws := ws) (r := r) _ 1 m (Nat.le_refl _) (by rw [cap_one h]; exact hr) (by omega)
    rw [sharesL_some z a b]
    have := go_gave h hr a b
    exact ⟨this.1, fun k => absurd k z, fun _ => this.2⟩
end Lw

set_option Elab.async false
set_option linter.all false
set_option maxRecDepth 100000
set_option maxHeartbeats 4000000
namespace K9
open PySem L2 Lm Lw
/-- a statement's end, cut -/
theorem s_join {f u : TS} {D : Ends} {σ : St} {H : Hp} (J : St → Hp → Prop) (h : ∀ N : St → Hp → Prop, (∀ σ' H', J σ' H' → N σ' H') → f { D with nx := N } σ H) (k : ∀ σ' H', J σ' H' → u D σ' H') : tSeq f u D σ H := h (u D) k
theorem Scr.of {K : PySem.W.Frag} {t a : Addr} {H : Hp} {o : HO} {ns : List Int} (n : H t = none) (q : SqL K H a (vI ns)) : Scr K t (upd H t o) a ns := by
  have ne : ∀ b o, H b = some o → b ≠ t := fun b o e z => by rw [z, n] at e; cases e
  have up : ∀ H', SameX t (upd H t o) H' → ∀ b u, H b = some u → H' b = some u := fun H' s b u e => s _ _ (ne _ _ e) (by rw [upd_ne (ne _ _ e)]; exact e)
  intro H' s
  rcases q with (q | ⟨o, q⟩) | q
  · exact .inl (.inl (up H' s _ _ q))
  · exact .inl (.inr ⟨o, up H' s _ _ q⟩)
  · exact .inr q
def spLaw9 (K : PySem.W.Frag) : Sp := fun vs H Q _ => ∃ (a : Addr) (ns : List Int), vs = [.ref a] ∧ SqL K H a (vI ns) ∧ ns.length ≤ 1000 ∧ ∀ H', Q (.bl true) H'
def spShares : Sp := fun vs H Q _ => ∃ (a : Addr) (ws : List Int) (r : Int), vs = [.ref a, .int r] ∧ H a = some (.lst (vI ws)) ∧ (∀ w ∈ ws, 1 ≤ w ∧ w ≤ 30) ∧ 0 < ws.length ∧ ws.length ≤ 9 ∧ (ws.length : Int) ≤ r ∧ r ≤ 1000 ∧
  ∀ p H', Same H H' → H p = none → H' p = some (.lst (vI (sharesL ws r))) → Q (.ref p) H'
theorem ints_of {lo hi : Int} : ∀ {ys : List V}, (∀ y ∈ ys, ∃ n, y = .int n ∧ lo ≤ n ∧ n ≤ hi) → ∃ ws : List Int, ys = vI ws ∧ ∀ w ∈ ws, lo ≤ w ∧ w ≤ hi
  | [], _ => ⟨[], rfl, fun _ z => nomatch z⟩
  | y :: ys, h => by
    obtain ⟨ws, e, hw⟩ := ints_of (ys := ys) fun z hz => h z (List.mem_cons_of_mem _ hz)
    obtain ⟨n, rfl, h1, h2⟩ := h y (List.mem_cons_self)
    refine ⟨n :: ws, by rw [e]; rfl, fun w hw' => ?_⟩
    rcases List.mem_cons.mp hw' with rfl | hw'
    · exact ⟨h1, h2⟩
    · exact hw w hw'
theorem sum_lo : ∀ {ws : List Int}, (∀ w ∈ ws, 1 ≤ w ∧ w ≤ 30) → (ws.length : Int) ≤ ws.sum ∧ ws.sum ≤ 30 * ws.length
  | [], _ => by simp
  | w :: ws, h => by
    have ih := sum_lo (ws := ws) fun z hz => h z (List.mem_cons_of_mem _ hz)
    have := h w (List.mem_cons_self)
    rw [List.sum_cons, List.length_cons]
    omega
theorem good_of {ws : List Int} {r : Int} (h : ∀ w ∈ ws, 1 ≤ w ∧ w ≤ 30) (hr : (ws.length : Int) ≤ r) : Good ws r (sharesL ws r) := sharesL_ok (fun w hw => (h w hw).1) hr
theorem rep_vI (k : Nat) (w : Int) : (List.replicate k [V.int w]).flatten = vI (List.replicate k w) := by
  induction k with
  | zero => rfl
  | succ k ih => rw [List.replicate_succ, List.flatten_cons, ih, List.replicate_succ]; rfl
theorem cut_vI (ws : List Int) (k : Nat) (hk : k ≤ ws.length) : cutV (vI ws) (some (k : Int)) none = vI (ws.drop k) := by
  unfold cutV
  rw [HT.sIx_nat, HT.sIx_none, List.length_map, Nat.min_eq_left hk, List.take_of_length_le (by rw [List.length_drop, List.length_map]; exact Nat.le_refl _), ← List.map_drop]
section
variable {P : Program} {w : World} {K : PySem.W.Frag} {mg : Str → Option Value} {base : Heap}
abbrev sLaw : Stmt := top 8
theorem scLaw : FnScope ["_law_script", "_law_tape", "_law_many", "_law_wants", "_law_room", "_law_handed", "_law_found", "_law_kept"] ["_law_script"] (defScope sLaw) := ⟨rfl, rfl, rfl, by decide +kernel, rfl, by decide +kernel, by decide +kernel⟩
theorem ok_law {f : Addr} {fd : FuncData} (F : Fun K "law" "law" sLaw f fd) (T : Tx9 mg) (D_l_draw : Def P w K mg base 1 "_law_draw" ["_law_script", "_law_tape", "_law_many"] (spDraw K)) (D_shares : Def P w K mg base 4 "shares" ["wants", "room"] spShares)
    (D_l_right : Def P w K mg base 2 "_law_right" ["_law_wants", "_law_room", "_law_found"] spRight) : FnOk P w K mg base CX0 5 f fd ["_law_script"] (spLaw9 K) := by
  have sc := scLaw
  refine F.ok sc (fun vs H Q E h => ?_) (fun cdv A outer s H vs Q E hr h => ?_)
  · obtain ⟨a, ns, rfl, _⟩ := h
    rfl
  obtain ⟨a, ns, rfl, hq, hns, q⟩ := h
  have hu : (A.deeper (PyProof.Rows.envOfC "law" (defScope sLaw) s.heap.objs.size f cdv)).units + 64 < cLine := by
    have := hr.un
    omega
  refine of_XB (xbc (xset (i := 1) sc.nd rfl (Or.inr rfl) (xlst (xac xint xa0)))
    (xbc (xset (i := 2) sc.nd rfl (Or.inl rfl) (xop op_add xint (xcD D_l_draw (hr.mono (by decide)) (xac (xv 0) (xac (xv 1) (xac xint xa0))))))
    (xbc (xslc (i := 3) sc.nd rfl rfl (cl := [("_law_tape", s.heap.objs.size + 2), ("_law_script", s.heap.objs.size + 1)]) (own := ["_law_k"]) (fr := [0, 1]) (N' := ["_law_k", "_law_script", "_law_tape"]) rfl (compN (xs := ["_law_script", "_law_tape"]) ⟨rfl, ⟨rfl, trivial⟩⟩ ⟨rfl, rfl, .inl rfl, .inl rfl, ⟨rfl, rfl, .inl rfl, .inl rfl, trivial⟩⟩ (by decide +kernel)) (by decide +kernel) (by decide +kernel) (by with_unfolding_all rfl)
    (xir1 rfl T.n_range (xac (xv 2) xa0))
    (fun _ _ _ _ => xgn (i := 0) (show (["_law_k", "_law_script", "_law_tape"] : List Str).Nodup by decide +kernel) rfl (Or.inl rfl)) (fun _ _ _ _ => xq0) (fun _ _ _ _ => (xop op_add xint (xcD D_l_draw (hr.mono (by decide)) (xac (xv 1) (xac (xv 2) (xac xint xa0)))))))
    (xbc (xif (xcmpT op_eq (xcD D_l_draw (hr.mono (by decide)) (xac (xv 0) (xac (xv 1) (xac xint xa0)))) xint (nomark _)) (xb1 (xset (i := 3) sc.nd rfl (Or.inl rfl) (xop op_cat (xop op_rep (xlst (xac (xix ix_list (xv 3) xint (fun _ _ => rfl)) xa0)) (xop op_sub (xv 2) (xop op_fdiv (xv 2) xint))) (xsl sl_list (xv 3) (xo1 (xop op_sub (xv 2) (xop op_fdiv (xv 2) xint))) xo0)))) xb0)
    (xbc (xset (i := 4) sc.nd rfl (Or.inl rfl) (xop op_add (xv 2) (xcD D_l_draw (hr.mono (by decide)) (xac (xv 0) (xac (xv 1) (xac (xop op_add (xop op_sub (xcB (call_sum rfl) T.n_sum rfl (xac (xv 3) xa0)) (xv 2)) xint) xa0))))))
    (xbc (xset (i := 5) sc.nd rfl (Or.inl rfl) (xcTy call_list_of T.n_list rfl (xac (xv 3) xa0)))
    (xbc (xset (i := 6) sc.nd rfl (Or.inl rfl) (xcD D_shares (hr.mono (by decide)) (xac (xv 5) (xac (xv 4) xa0))))
    (xbc (xif (xor (xnotT (xvalT (xcD D_l_right (hr.mono (by decide)) (xac (xv 3) (xac (xv 4) (xac (xv 6) xa0)))))) (xor1 (xcmpT (op_neD hu) (xv 5) (xv 3) (nomark _)))).xt (xb1 (xret xbl)) xb0)
    (xbc (xset (i := 7) sc.nd rfl (Or.inl rfl) (xcTy call_list_of T.n_list rfl (xac (xv 6) xa0)))
    (xbc (xexpr (xm PySem.F.plainAttrs_list PySem.F.slot_list_append PySem.F.type_list_append mt_append (xv 6) (xac xint xa0)))
    (xbc (xif (xnotT (xvalT (xcD D_l_right (hr.mono (by decide)) (xac (xrevX (xv 3)) (xac (xv 4) (xac (xcD D_shares (hr.mono (by decide)) (xac (xrevX (xv 3)) (xac (xv 4) xa0))) xa0)))))) (xb1 (xret xbl)) xb0)
    (xb1 (xret (xandV (xcmp (op_eqD hu) (xcD D_shares (hr.mono (by decide)) (xac (xv 5) (xac (xv 4) xa0))) (xv 7) (nomark _)) (xone (xcmp (op_eqD hu) (xv 6) (xop op_cat (xv 7) (xlst (xac xint xa0))) (nomark _))))))))))))))))) ?_
  have hs : sizeLine = 16777216 := sizeLine_eq
  refine ⟨big (show (1 : Nat) ≤ 1000000 by decide), fun t ht => ?_⟩
  have scr1 : Scr K t (upd H t (.lst [.int 0])) a ns := Scr.of ht hq
  have et1 : upd H t (.lst [.int 0]) t = some (.lst [.int 0]) := upd_same
  generalize upd H t (.lst [.int 0]) = H1 at scr1 et1 ⊢
  refine ⟨_, rfl, _, rfl, a, t, ns, 0, 9, rfl, scr1, hns, et1, by omega, by omega, by omega, fun i0 H2 i00 i01 sx2 et2 => ⟨_, _, rfl, rfl, ?_⟩⟩
  dsimp only [gName]
  have scr2 := scr1.move sx2
  obtain ⟨n0, en0⟩ : ∃ n0 : Nat, 1 + i0 = (n0 : Int) := ⟨_, (Int.toNat_of_nonneg (by omega)).symm⟩
  have hn1 : 1 ≤ n0 ∧ n0 ≤ 9 := by omega
  rw [en0]
  refine s_join (fun σ' H' => ∃ (D : Addr) (ws : List Int), σ' = [some (.ref a), some (.ref t), some (.int n0), some (.ref D), none, none, none, none] ∧ Scr K t H' a ns ∧ H' t = some (.lst [.int (1 + (n0 : Nat))]) ∧ H' D = some (.lst (vI ws)) ∧ D ≠ t ∧ ws.length = n0 ∧ ∀ w ∈ ws, 1 ≤ w ∧ w ≤ 30) (fun N hN => ?_) ?_
  · refine ⟨_, rfl, _, rfl, by omega, by omega, ?_⟩
    rw [show ((n0 : Nat) : Int).toNat = n0 by omega]
    refine lc_tape t 1 (fun v => ∃ n, v = .int n ∧ 1 ≤ n ∧ n ≤ 30) (by omega) (by rw [et2]; rfl) ?_ ?_
    · intro i hi H3 sx3 et3 C N' hC
      refine ⟨(nfLe.refl _ _ _).set (by decide) _, ?_⟩
      refine iteT (B := N' H3) ⟨_, rfl, _, rfl, a, t, ns, 1 + (i : Nat), 30, rfl, scr2.move sx3, hns, et3, by omega, by omega, by omega, fun j H4 j0 j1 sx4 et4 => ⟨_, _, rfl, rfl, hC _ _ sx4 et4 ⟨1 + j, rfl, by omega, by omega⟩⟩⟩
    · intro D H3 ys hD sx3 et3 eD hyl hys
      obtain ⟨ws, rfl, hw⟩ := ints_of hys
      have nDt : D ≠ t := fun z => by rw [z, et2] at hD; cases hD
      exact hN _ _ ⟨D, ws, rfl, scr2.move sx3, et3, eD, nDt, by rw [List.length_map] at hyl; exact hyl, hw⟩
  rintro σ3 H3 ⟨D, ws, rfl, scr3, et3, eD, nDt, hwl, hw⟩
  refine s_join (fun σ' H' => ∃ (wa : Addr) (ws : List Int), σ' = [some (.ref a), some (.ref t), some (.int n0), some (.ref wa), none, none, none, none] ∧ Scr K t H' a ns ∧ H' t = some (.lst [.int (2 + (n0 : Nat))]) ∧ H' wa = some (.lst (vI ws)) ∧ wa ≠ t ∧ ws.length = n0 ∧ ∀ w ∈ ws, 1 ≤ w ∧ w ≤ 30) (fun N hN => ?_) ?_
  · refine ⟨_, rfl, _, rfl, a, t, ns, 1 + (n0 : Nat), 3, rfl, scr3, hns, et3, by omega, by omega, by omega, fun i H4 i0 i1 sx4 et4 => ⟨rfl, _, rfl, ?_⟩⟩
    have et4' : H4 t = some (.lst [.int (2 + (n0 : Nat))]) := by rw [et4]; congr 4; omega
    have eD4 := sx4 _ _ nDt eD
    refine ite2 (fun _ => ?_) (fun _ => ?_)
    · have hD3 : (n0 : Int) - (n0 : Int) / 3 = ((n0 - n0 / 3 : Nat) : Int) := by omega
      obtain ⟨w0, hw0⟩ : ∃ w0, ws[0]? = some w0 := ⟨_, List.getElem?_eq_getElem (by omega)⟩
      have hw0m := hw w0 (List.mem_of_getElem? hw0)
      have hk : n0 - n0 / 3 ≤ ws.length := by omega
      refine ⟨_, rfl, D, _, _, .int w0, rfl, rfl, SqL.of eD4, atI_nat (j := 0) (by rw [List.getElem?_map, hw0]; rfl), big (show (1 : Nat) ≤ 1000000 by decide), fun p1 hp1 => ⟨_, rfl, _, rfl, _, _, rfl, rfl, ⟨by omega, by omega⟩, _, _, rfl, rfl, p1, (n0 : Int) - (n0 : Int) / 3, _, rfl, rfl, upd_same, by omega, by omega, ?_, fun p2 hp2 => ?_⟩⟩
      · rw [hD3, Int.toNat_natCast]
        show 1 * (n0 - n0 / 3) ≤ _
        omega
      have s41 := same_new hp1 (.lst [.int w0])
      have s42 := same_new hp2 (.lst (List.replicate ((n0 : Int) - (n0 : Int) / 3).toNat [V.int w0]).flatten)
      have eD42 := s42 _ _ (s41 _ _ eD4)
      refine ⟨_, rfl, _, rfl, _, rfl, _, _, rfl, rfl, ⟨by omega, by omega⟩, _, _, rfl, rfl, _, rfl, D, vI ws, rfl, SqL.of eD42, fun p3 hp3 => ?_⟩
      have n23 : p2 ≠ p3 := fun z => by rw [← z, upd_same] at hp3; cases hp3
      refine ⟨p2, p3, _, _, rfl, rfl, (upd_ne n23).trans upd_same, upd_same, ?_, fun p4 hp4 => ?_⟩
      · show (List.replicate ((n0 : Int) - (n0 : Int) / 3).toNat [V.int w0]).flatten.length + (cutV (vI ws) (some ((n0 : Int) - (n0 : Int) / 3)) none).length ≤ _
        have := cutV_length (vI ws) (some ((n0 : Int) - (n0 : Int) / 3)) none
        rw [List.length_map] at this
        rw [hD3, Int.toNat_natCast, rep_vI, List.length_map, List.length_replicate]
        rw [hD3] at this
        omega
      have enew : (List.replicate ((n0 : Int) - (n0 : Int) / 3).toNat [V.int w0]).flatten ++ cutV (vI ws) (some ((n0 : Int) - (n0 : Int) / 3)) none = vI (List.replicate (n0 - n0 / 3) w0 ++ ws.drop (n0 - n0 / 3)) := by
        rw [hD3, Int.toNat_natCast, rep_vI, cut_vI ws _ hk]
        show _ = List.map _ _
        rw [List.map_append]
      have s43 := same_new hp3 (.lst (cutV (vI ws) (some ((n0 : Int) - (n0 : Int) / 3)) none))
      have s44 := same_new hp4 (.lst ((List.replicate ((n0 : Int) - (n0 : Int) / 3).toNat [V.int w0]).flatten ++ cutV (vI ws) (some ((n0 : Int) - (n0 : Int) / 3)) none))
      have sall := (s41.trans s42).trans (s43.trans s44)
      have np4t : p4 ≠ t := fun z => by rw [z, s43 _ _ (s42 _ _ (s41 _ _ et4'))] at hp4; cases hp4
      refine hN _ _ ⟨p4, List.replicate (n0 - n0 / 3) w0 ++ ws.drop (n0 - n0 / 3), rfl, (scr3.move sx4).move (SameX.of sall), sall _ _ et4', upd_same.trans (by rw [enew]), np4t, ?_, ?_⟩
      · rw [List.length_append, List.length_replicate, List.length_drop]; omega
      · intro x hx
        rcases List.mem_append.mp hx with hx | hx
        · rw [(List.mem_replicate.mp hx).2]; exact hw0m
        · exact hw x (List.mem_of_mem_drop hx)
    · exact hN _ _ ⟨D, ws, rfl, scr3.move sx4, et4', eD4, nDt, hwl, hw⟩
  clear eD nDt hwl hw scr3 et3 
  rintro σ4 H4 ⟨wa, ws, rfl, scr4, et4, ewa, nwt, hwl, hw⟩
  have hsum := sum_lo hw
  refine ⟨_, rfl, _, rfl, _, rfl, _, rfl, wa, ws, rfl, SqL.of ewa, _, rfl, _, _, rfl, rfl, _, _, rfl, rfl, a, t, ns, 2 + (n0 : Nat), ws.sum - (n0 : Nat) + 4, rfl, scr4, hns, et4, by omega, by omega, by omega, fun i5 H5 i50 i51 sx5 et5 => ⟨_, _, rfl, rfl, ?_⟩⟩
  have ewa5 := sx5 _ _ nwt ewa
  dsimp only [gName]
  obtain ⟨r, er⟩ : ∃ r : Int, (n0 : Int) + i5 = r := ⟨_, rfl⟩
  rw [er]
  have hr1 : (ws.length : Int) ≤ r := by omega
  have hr2 : r ≤ 1000 := by omega
  have gd := good_of hw hr1
  have gl := gd.1.len
  clear er i50 i51 et5 sx5
  refine ⟨_, rfl, wa, _, rfl, .inl (SqL.of ewa5), fun ha hha => ?_⟩
  have s6 := same_new hha (.lst (vI ws))
  have ewa6 := s6 _ _ ewa5
  have eha6 : upd H5 ha (.lst (vI ws)) ha = some (.lst (vI ws)) := upd_same
  dsimp only [gName]
  generalize upd H5 ha (.lst (vI ws)) = H6 at *
  refine ⟨_, rfl, _, rfl, ha, ws, r, rfl, eha6, hw, by omega, by omega, hr1, hr2, fun fo H7 s7 hfo efo => ?_⟩
  dsimp only [gName]
  have ewa7 := s7 _ _ ewa6
  have eha7 := s7 _ _ eha6
  refine s_if false (t_or false false (t_not true fun R k => ⟨_, rfl, _, rfl, _, rfl, wa, fo, r, ws, sharesL ws r, rfl, ewa7, efo, gd, by omega, by omega, fun H' s' => ⟨_, rfl, k _ s'⟩⟩) (fun _ Ha sa R k => ⟨_, rfl, _, rfl, .list (ws.map PyData.int), .lst (SqL.of (sa _ _ eha7)) (den_ints _), .lst (SqL.of (sa _ _ ewa7)) (den_ints _), dep_list ws, _, rfl, k _ (Same.refl _)⟩)) (fun _ _ z => Bool.noConfusion z) (fun H8 s8 _ => ?_)
  dsimp only [tNext]
  have efo8 := s8 _ _ efo
  refine ⟨_, rfl, fo, _, rfl, .inl (SqL.of efo8), fun ke hke => ?_⟩
  have s9 := same_new hke (.lst (vI (sharesL ws r)))
  have nkf : ke ≠ fo := fun z => by rw [z, efo8] at hke; cases hke
  have efo9 := s9 _ _ efo8
  have eke9 : upd H8 ke (.lst (vI (sharesL ws r))) ke = some (.lst (vI (sharesL ws r))) := upd_same
  have ewa9 := s9 _ _ (s8 _ _ ewa7)
  have eha9 := s9 _ _ (s8 _ _ eha7)
  dsimp only [gName]
  generalize upd H8 ke (.lst (vI (sharesL ws r))) = H9 at *
  have nwf : wa ≠ fo := fun z => by rw [← z, ewa6] at hfo; cases hfo
  have nhf : ha ≠ fo := fun z => by rw [← z, eha6] at hfo; cases hfo
  refine ⟨_, rfl, .inl ⟨rfl, _, SqL.of efo9⟩, fo, _, _, rfl, rfl, efo9, by rw [List.length_map]; omega, ?_⟩
  have ewa10 : upd H9 fo (.lst (vI (sharesL ws r) ++ [.int 1])) wa = some (.lst (vI ws)) := (upd_ne nwf).trans ewa9
  have eha10 : upd H9 fo (.lst (vI (sharesL ws r) ++ [.int 1])) ha = some (.lst (vI ws)) := (upd_ne nhf).trans eha9
  have eke10 : upd H9 fo (.lst (vI (sharesL ws r) ++ [.int 1])) ke = some (.lst (vI (sharesL ws r))) := (upd_ne nkf).trans eke9
  have efo10 : upd H9 fo (.lst (vI (sharesL ws r) ++ [.int 1])) fo = some (.lst (vI (sharesL ws r) ++ [.int 1])) := upd_same
  dsimp only [tSeq]
  generalize upd H9 fo (.lst (vI (sharesL ws r) ++ [.int 1])) = H10 at *
  have erev : (vI ws).reverse = vI ws.reverse := (List.map_reverse).symm
  have hwr : ∀ w ∈ ws.reverse, 1 ≤ w ∧ w ≤ 30 := fun w hw' => hw w (List.mem_reverse.mp hw')
  have hlr : ws.reverse.length = ws.length := List.length_reverse
  refine s_if false (t_not true fun R k => ⟨_, rfl, wa, _, rfl, SqL.of ewa10, fun r1 hr1' => ⟨_, rfl, _, rfl, wa, _, rfl, SqL.of (same_new hr1' _ _ _ ewa10), fun r2 hr2' => ⟨_, rfl, r2, ws.reverse, r, rfl, ?_, hwr, by omega, by omega, by omega, hr2, fun f2 Hx sx hf2 ef2 => ?_⟩⟩⟩) (fun _ _ z => Bool.noConfusion z) (fun H11 s11 _ => ?_)
  · rw [upd_same, erev]
  · have n12 : r1 ≠ r2 := fun z => by rw [← z, upd_same] at hr2'; cases hr2'
    have er1 := sx _ _ ((upd_ne n12).trans (upd_same (H := H10) (a := r1) (o := .lst (vI ws).reverse)))
    rw [erev] at er1
    refine ⟨r1, f2, r, ws.reverse, sharesL ws.reverse r, rfl, er1, ef2, good_of hwr (by omega), by omega, by omega, fun H' s' => ⟨_, rfl, k _ (((same_new hr1' _).trans (same_new hr2' _)).trans (sx.trans s'))⟩⟩
  dsimp only [tNext]
  have eha11 := s11 _ _ eha10
  have eke11 := s11 _ _ eke10
  have efo11 := s11 _ _ efo10
  refine ⟨_, rfl, _, rfl, ha, ws, r, rfl, eha11, hw, by omega, by omega, hr1, hr2, fun f3 H12 s12 hf3 ef3 => ⟨_, rfl, .list ((sharesL ws r).map PyData.int), .lst (SqL.of ef3) (den_ints _), .lst (SqL.of (s12 _ _ eke11)) (den_ints _), dep_list _, _, rfl, iteT ⟨_, rfl, _, rfl, big (show (1 : Nat) ≤ 1000000 by decide), fun pl hpl => ?_⟩⟩⟩
  have nkp : ke ≠ pl := fun z => by rw [← z, s12 _ _ eke11] at hpl; cases hpl
  have s13 := same_new hpl (.lst [.int 1])
  refine ⟨ke, pl, _, _, rfl, rfl, (upd_ne nkp).trans (s12 _ _ eke11), upd_same, by rw [List.length_map]; show _ + 1 ≤ _; omega, fun pc hpc => ⟨.list ((sharesL ws r ++ [1]).map PyData.int), .lst (SqL.of (same_new hpc _ _ _ (s13 _ _ (s12 _ _ efo11)))) ?_, .lst (SqL.of upd_same) ?_, dep_list _, q _⟩⟩
  · have := den_ints (K := K) (H := upd (upd H12 pl (.lst [.int 1])) pc (.lst (vI (sharesL ws r) ++ [.int 1]))) (sharesL ws r ++ [1])
    rw [show vI (sharesL ws r ++ [1]) = vI (sharesL ws r) ++ [.int 1] from List.map_append] at this
    exact this
  · have := den_ints (K := K) (H := upd (upd H12 pl (.lst [.int 1])) pc (.lst (vI (sharesL ws r) ++ [.int 1]))) (sharesL ws r ++ [1])
    rw [show vI (sharesL ws r ++ [1]) = vI (sharesL ws r) ++ [.int 1] from List.map_append] at this
    exact this
end
end K9

set_option Elab.async false
set_option linter.all false
set_option maxRecDepth 100000
/-! x op= e, continue, a list beside the empty one -/
namespace L2
open PySem PySem.Spec PyProof.Rows
section
variable {X : Cx} {e : Expr} {te : TE} {x : Str} {pos : Pos}
theorem xaug {i : Nat} {op : Operator} {ti : TIp} {pos' : Pos} (hN : X.N.Nodup) (hi : X.N[i]? = some x) (hx : Loc X.env.scope x) (he : XE X e te) (ho : PIp X op ti) (hf : X.fn x = true ∨ X.env.scope.names.lookup x = some .local := by first | exact .inl rfl | exact .inr rfl) :
    XS X (.AugAssign (.Name x pos') op e pos) (tAug i te ti) := ⟨ps_aug hN hi hx he.h ho hf⟩
theorem xcont : XS X (.Continue pos) tCont := ⟨ps_continue⟩
/-- xs == [], xs != [] -/
def rEq0 (K : PySem.W.Frag) (neg : Bool) : R2 := fun x y H Q => ∃ p q xs, x = .ref p ∧ y = .ref q ∧ SqL K H p xs ∧ SqL K H q [] ∧ Q (.bl (if neg then !xs.isEmpty else xs.isEmpty)) H
theorem op_eq0 (hu : X.A.units + 64 < cLine) : OpR X (compareOp .Eq) (rEq0 X.K false) := by
  intro pins s σ H x y v u Q I rx ry h
  obtain ⟨p, q, xs, rfl, rfl, hp, hq, k⟩ := h
  cases rx
  cases ry
  obtain ⟨its, r, pl, _⟩ := I.list hp
  obtain ⟨its2, r2, pl2, _⟩ := I.list hq
  have e2 := r2.length
  have e1 := r.length
  cases its2 with
  | cons _ _ => simp at e2
  | nil =>
  cases its with
  | nil =>
    cases xs with
    | cons _ _ => simp at e1
    | nil => exact SeqAt.eq_listAt (e := fun _ => true) pl.isList pl2.isList rfl (by omega) (fun j h1 _ => absurd h1 (Nat.not_lt_zero _)) ⟨.bl _, H, I, rfl, k⟩
  | cons _ _ =>
    cases xs with
    | nil => simp at e1
    | cons _ _ => exact SeqAt.eq_list_lengthsAt pl.isList pl2.isList (by simp) (by omega) ⟨.bl _, H, I, rfl, k⟩
theorem op_ne0 (hu : X.A.units + 64 < cLine) : OpR X (compareOp .NotEq) (rEq0 X.K true) := by
  intro pins s σ H x y v u Q I rx ry h
  obtain ⟨p, q, xs, rfl, rfl, hp, hq, k⟩ := h
  cases rx
  cases ry
  obtain ⟨its, r, pl, _⟩ := I.list hp
  obtain ⟨its2, r2, pl2, _⟩ := I.list hq
  have e2 := r2.length
  have e1 := r.length
  cases its2 with
  | cons _ _ => simp at e2
  | nil =>
  cases its with
  | nil =>
    cases xs with
    | cons _ _ => simp at e1
    | nil => exact SeqAt.RcNeAt.lists (e := fun _ => true) pl.isList pl2.isList rfl (by omega) (fun j h1 _ => absurd h1 (Nat.not_lt_zero _)) _ _ _ _ ⟨.bl _, H, I, rfl, k⟩
  | cons _ _ =>
    cases xs with
    | nil => simp at e1
    | cons _ _ => exact SeqAt.RcNeAt.lists_lengths pl.isList pl2.isList (by simp) (by omega) _ _ _ _ ⟨.bl _, H, I, rfl, k⟩
end
end L2

set_option Elab.async false
set_option linter.all false
set_option maxRecDepth 100000
namespace L2
open PySem PySem.Spec PyProof.Rows
structure RoomH (k : Nat) (A : Around) : Prop where
  dp : A.depth + 3 * k + 5 < recursionLimit
  un : A.units + 16 * k + 200 < cLine
theorem Room.h {k : Nat} {A : Around} (r : Room k A) : RoomH k A := ⟨r.dp, r.un⟩
theorem RoomH.mono {j k : Nat} {A : Around} (r : RoomH k A) (h : j ≤ k) : RoomH j A := ⟨by have := r.dp; omega, by have := r.un; omega⟩
theorem RoomH.deeper {k : Nat} {A : Around} (r : RoomH (k + 1) A) (env : Env) : RoomH k (A.deeper env) :=
  ⟨by have := r.dp; show A.depth + 1 + 3 * k + 5 < _; omega, by have := r.un; show A.units + 3 + 16 * k + 200 < _; omega⟩
theorem RoomH.depth {k : Nat} {A : Around} (r : RoomH k A) : A.depth < recursionLimit := by have := r.dp; omega
theorem RoomH.units {k : Nat} {A : Around} (r : RoomH k A) : A.units + 64 < cLine := by have := r.un; omega

structure FnOkH (P : Program) (w : World) (K : PySem.W.Frag) (mg : Str → Option Value) (base : Heap) (CX : CXT) (k : Nat) (f : Addr) (fd : FuncData) (ps : List Str) (sp : Sp) : Prop where
  len : ∀ vs H Q E, sp vs H Q E → vs.length = ps.length
  run : ∀ (A : Around) (outer : List Env) (s : Shared) (H : Hp) (args : Args) (us : List Value) (vs : List V) (Q : VK) (E : XK), RoomH k A → Env0 P w K mg base A outer s H → BindsTo s fd args (ps.zip us) → Vals vs us → sp vs H Q E →
    codeAny (model P w) A (.call (.ref f) args) (CR CX outer P w H s Q E) s
def cxH (CX : CXT) (P : Program) (w : World) (K : PySem.W.Frag) (mg : Str → Option Value) (base : Heap) (N : List Str) (qual : Str) (scope : Scope) (f : Addr) (cd : Value) (A : Around) (outer : List Env) (s : Shared) (H : Hp) (E : XK) : Cx :=
  { cxOf CX P w K mg base N qual scope f cd A outer s H E with calm := false }
theorem inv_startH {CX : CXT} {P : Program} {w : World} {K : PySem.W.Frag} {mg : Str → Option Value} {base : Heap} {N ps : List Str} {qual : Str} {scope : Scope} {f : Addr} {cd : Value} {A : Around} {outer : List Env} {s s1 : Shared} {H : Hp} {E : XK} {us : List Value} {vs : List V}
    (S : FnScope N ps scope) (e0 : Env0 P w K mg base A outer s H) (hl : vs.length = ps.length) (r : Vals vs us) (htk : 0 < s1.toks)
    (x : InCallC s s.heap.objs.size (bindL (envOfC qual scope s.heap.objs.size f cd).kindOf (ps.zip us) fun _ => none) (cellsFrom (s.heap.objs.size + 1) scope.names []) (bindC (envOfC qual scope s.heap.objs.size f cd).kindOf (ps.zip us) fun _ => none) s1) :
    Inv (cxH CX P w K mg base N qual scope f cd A outer s H E) [] (start N vs) H s1 := by
  have I := inv_start (CX := CX) (A := { A with handled := none }) (E := E) S rfl ⟨e0.frames, e0.mod, e0.bs, e0.bsz, e0.funs, e0.frf, e0.hok, e0.bare, e0.tk⟩ hl r htk x
  exact ⟨⟨I.ok.mod, I.ok.kind, I.ok.glob, I.ok.blt, I.ok.above, I.ok.inj, I.ok.has, I.ok.cab, (fun z => nomatch z), I.ok.frames, I.ok.stk, I.ok.exf, I.ok.bs, I.ok.bsz, I.ok.noex, I.ok.exfs, I.ok.funs, I.ok.frf⟩,
    I.os, I.bare, I.base, I.loc, I.cell, I.free, I.freeC, I.pin, I.hok, I.len, I.tk⟩

theorem fn_ofH {CX : CXT} {P : Program} {w : World} {K : PySem.W.Frag} {mg : Str → Option Value} {base : Heap} {k : Nat} {f : Addr} {name qual : Str} {params : Arguments} {body : List Stmt} {scope : Scope} {dV kV doc pm cdv ct oc : Value} {an od : Option Addr}
    {osl : Array (Option Value)} {N ps : List Str} {sp : Sp} (lk : K.lookup f = some ⟨oc, od, .func (PySem.W.fnOf name qual params body scope dV kV doc pm an cdv ct), osl⟩) (hcd : PySem.W.codeIn K cdv qual = true) (S : FnScope N ps scope)
    (len : ∀ vs H Q E, sp vs H Q E → vs.length = ps.length)
    (hbody : ∀ (A : Around) (outer : List Env) (s : Shared) (H : Hp) (vs : List V) (Q : VK) (E : XK), RoomH k (A.deeper (envOfC qual scope s.heap.objs.size f cdv)) → sp vs H Q E →
      ∃ t, PSs (cxH CX P w K mg base N qual scope f cdv A outer s H E) body t ∧ t { nx := fun _ H' => Q .non H', rt := Q } (start N vs) H) :
    FnOkH P w K mg base CX (k + 1) f (PySem.W.fnOf name qual params body scope dV kV doc pm an cdv ct) ps sp := by
  refine ⟨len, fun A outer s H args us vs Q E hr e0 hb r hsp => ?_⟩
  have hl := len _ _ _ _ hsp
  have KX : K.In s.heap := e0.mod.kin.keeps fun b o e => (e0.bs b o e).1
  have lim : s.heap.NoLimit := e0.mod.nolimit.keeps fun b o e => (e0.bs b o e).1
  have hkind : ∀ y ∈ ps.zip us, scope.names.lookup y.1 = some .local ∨ (scope.names.lookup y.1 = some .cell ∧ ((cellsFrom (s.heap.objs.size + 1) scope.names []).lookup y.1).isSome = true) := fun ⟨n, v⟩ hy => by
    rcases S.par n (List.of_mem_zip hy).1 with q | q
    · exact .inl q
    · exact .inr ⟨q, PySem.W.cellsFrom_some _ _ _ (.inl q)⟩
  refine codeAny_call_function hr.depth (KX _ _ lk) rfl S.co S.gen rfl (PySem.W.codeRec_of KX hcd) (hb _ _ _ _ ?_)
  refine wpAny_with_toks (n := 1) e0.tk (wpAny_newFunctionEnv_cells S.kind hkind fun env he s1 x htk => ?_)
  subst he
  refine ⟨lim.keeps x.toInCall.keep, codeAny_func ?_⟩
  obtain ⟨t, ht, hq⟩ := hbody A outer s H vs Q E (hr.deeper _) hsp
  have I : Inv (cxH CX P w K mg base N qual scope f cdv A outer s H E) [] (start N vs) H s1 := inv_startH S e0 hl r htk x
  refine wpAny_mono (ht [] s1 (start N vs) H _ I hq) (fun fl s' hs => ?_) fun e s' hs => hs
  have fin : ∀ {σ' : St} {H' : Hp} {v : V} {u : Value}, Inv (cxH CX P w K mg base N qual scope f cdv A outer s H E) [] σ' H' s' → RelV v u → Q v H' → CE outer P w H s Q u s' :=
    fun {σ' H' v u} J rv q => ⟨v, H', J.os, J.bare, J.base, J.hok, J.tk, rv, q⟩
  cases fl with
  | ret u =>
    obtain ⟨v, σ', H', J, rv, q⟩ := hs
    exact fin J rv q
  | next =>
    obtain ⟨σ', H', J, q⟩ := hs
    exact fin (v := V.non) (u := Value.none) J rfl q
  | brk =>
    obtain ⟨_, _, _, q⟩ := hs
    exact False.elim q
  | cont =>
    obtain ⟨_, _, _, q⟩ := hs
    exact False.elim q
section
variable {X : Cx} {CX : CXT} {k : Nat} {f C : Addr} {fd : FuncData} {ps : List Str} {sp : Sp} {dvs : List V} {ds : List Value} {E : XK} {x m : Str} {p pos apos : Pos} {e o : Expr} {es : List Expr} {ta : TE} {t : TA}

theorem run_fnH {pins : List (Addr × Obj)} {σ : St} {H : Hp} {s : Shared} {Q : VK} {us : List Value} {vs : List V} (F : FnOkH X.prog X.w X.K X.mg X.base CX k f fd ps sp) (hr : RoomH k X.A) (hb : Binds X.K fd ps ds) (hd : Vals dvs ds) (hx : Passes CX X E)
    (I : Inv X pins σ H s) (r : Vals vs us) (h : sp (vs ++ dvs) H Q E) : wpAny (model X.prog X.w) X.A (call (.ref f) us) (EP X pins σ Q) X.xe s := by
  have r2 : Vals (vs ++ dvs) (us ++ ds) := r.append hd
  have hl : (us ++ ds).length = ps.length := by rw [← r2.length]; exact F.len _ _ _ _ h
  refine wpAny_call (codeAny_mono (F.run X.A X.stack s H ⟨us, []⟩ (us ++ ds) (vs ++ dvs) Q E hr I.env0 (hb s us I.kIn hl) r2 h) fun r s' hq => ?_)
  cases r with
  | error e => exact hx pins σ H s e s' I hq
  | ok fl =>
    cases fl with
    | ret u => exact I.after hq
    | next => exact False.elim hq
    | brk => exact False.elim hq
    | cont => exact False.elim hq

theorem pe_callH (F : FnOkH X.prog X.w X.K X.mg X.base CX k f fd ps sp) (hr : RoomH k X.A) (hg : Gl X x) (hm : X.mg x = some (.ref f)) (hk : PySem.W.keepIn X.K (.ref f) = true) (hb : Binds X.K fd ps ds) (hd : Vals dvs ds) (hx : Passes CX X E)
    (ha : PA X (e :: es) t) (hdb : (x == ("__debug__" : Str)) = false := by decide) (he : starEach (e :: es) X.env = (false, eval e X.env) :: starEach es X.env := by rfl) (hpl : (backTo pos (starEach es X.env)).any (·.1) = false := by rfl) :
    PE X (.Call (.Name x p) (e :: es) [] pos) (tCall sp dvs E t) := by
  intro pins s σ H Q I h
  refine wpAny_Call_Name_kw (ld_glob I hg hm ?_ hdb)
  refine PySem.W.callWith_K (h₀ := X.base) I.ok.mod.kin hk (thn (ha pos pins s σ H _ I h) fun us s1 ⟨vs, H1, I1, r, q⟩ => ⟨I1.kIn, ?_⟩) he hpl
  exact run_fnH F hr hb hd hx I1 r q
end
section
variable {P : Program} {w : World} {K : PySem.W.Frag} {mg : Str → Option Value} {base : Heap}

theorem Fun.okH {x qual : Str} {st : Stmt} {f : Addr} {fd : FuncData} {N ps : List Str} {k : Nat} {sp : Sp} (F : Fun K x qual st f fd) (S : FnScope N ps (defScope st)) (len : ∀ vs H Q E, sp vs H Q E → vs.length = ps.length)
    (hbody : ∀ (cdv : Value) (A : Around) (outer : List Env) (s : Shared) (H : Hp) (vs : List V) (Q : VK) (E : XK), RoomH k (A.deeper (envOfC qual (defScope st) s.heap.objs.size f cdv)) → sp vs H Q E →
      ∃ t, PSs (cxH CX0 P w K mg base N qual (defScope st) f cdv A outer s H E).nox (defBody st) t ∧ t { nx := fun _ H' => Q .non H', rt := Q } (start N vs) H) : FnOkH P w K mg base CX0 (k + 1) f fd ps sp := by
  obtain ⟨oc, od, kV, doc, pm, an, cdv, ct, osl, rfl, lk, hcd⟩ := F.ex
  refine fn_ofH lk hcd S len fun A outer s H vs Q E hr hsp => ?_
  obtain ⟨t, h, q⟩ := hbody cdv A outer s H vs Q E hr hsp
  exact ⟨t, h.nox, q⟩
end
/-- a def that may be called within an except suite -/
structure DefH (P : Program) (w : World) (K : PySem.W.Frag) (mg : Str → Option Value) (base : Heap) (k : Nat) (x : Str) (ps : List Str) (sp : Sp) : Prop where
  ex : ∃ f fd, FnOkH P w K mg base CX0 k f fd ps sp ∧ mg x = some (.ref f) ∧ PySem.W.keepIn K (.ref f) = true ∧ Binds K fd ps []
section
variable {X : Cx} {k : Nat} {x : Str} {ps : List Str} {sp : Sp} {e : Expr} {es : List Expr} {te : TE} {t : TA} {p pos : Pos}
theorem xcH (D : DefH X.prog X.w X.K X.mg X.base k x ps sp) (hr : RoomH k X.A) (ha : XA X (e :: es) t) (hg : Gl X x := by exact rfl) (hdb : (x == ("__debug__" : Str)) = false := by decide) (hst : noStars (e :: es) = true := by rfl) :
    XE X (.Call (.Name x p) (e :: es) [] pos) (tCall sp [] E0 t) := by
  obtain ⟨f, fd, G, hm, hk, hb⟩ := D.ex
  have h2 : noStars es = true := by
    unfold noStars at hst
    rw [Bool.and_eq_true] at hst
    exact hst.2
  have h1 : isStar e = false := by
    unfold noStars at hst
    rw [Bool.and_eq_true, Bool.not_eq_true'] at hst
    exact hst.1
  exact ⟨pe_callH G hr hg hm hk hb .nil pass0 ha.h hdb (star_cons h1) (stars_any h2)⟩
end
end L2

set_option Elab.async false
set_option linter.all false
set_option maxRecDepth 100000
/-! Exceptions of own classes: how one is made, leaves a def, passes on, is caught. -/
namespace L2
open PySem PySem.Spec PyProof.Rows
/-! ### an exception and its trace -/
def Tr (h : Heap) (e T : Addr) (cls a0 fl : Value) : Prop :=
  ∃ (oe : Obj) (vs : Array Value) (oT : Obj) (ts : Array Value), h.get? e = some oe ∧ (oe.cls = cls ∧ vs[0]? = some a0) ∧ oe.data = .fields vs ∧ vs[1]? = some (.ref T) ∧ T ≠ e ∧ h.get? T = some oT ∧ oT.data = .fields ts ∧ ts[3]? = some fl
section
variable {h h' B : Heap} {e T : Addr} {cls a0 fl : Value}
theorem Tr.traced (x : Tr h e T cls a0 fl) (hT : B.get? T = none) : h.TracedAtW B e cls a0 fl :=
  let ⟨oe, vs, oT, ts, he, hc, hd, h1, hne, hT', hdT, h3⟩ := x
  ⟨oe, vs, T, oT, ts, he, hc, hd, h1, hT, hne, hT', hdT, h3⟩
theorem Tr.of (x : h.TracedAtW B e cls a0 fl) : ∃ T, B.get? T = none ∧ Tr h e T cls a0 fl :=
  let ⟨oe, vs, T, oT, ts, he, hc, hd, h1, hT, hne, hT', hdT, h3⟩ := x
  ⟨T, hT, oe, vs, oT, ts, he, hc, hd, h1, hne, hT', hdT, h3⟩
theorem Tr.T_rec (x : Tr h e T cls a0 fl) : T ≠ e ∧ ∃ oT ts, h.get? T = some oT ∧ oT.data = .fields ts :=
  let ⟨_, _, oT, ts, _, _, _, _, hne, hT', hdT, _⟩ := x
  ⟨hne, oT, ts, hT', hdT⟩
theorem Tr.e_obj (x : Tr h e T cls a0 fl) : ∃ oe vs, h.get? e = some oe ∧ oe.cls = cls ∧ oe.data = .fields vs :=
  let ⟨oe, vs, _, _, he, hc, hd, _⟩ := x
  ⟨oe, vs, he, hc.1, hd⟩
end
/-! ### hiding: what the rules of a flight keep -/
theorem of_hid_none {h : Heap} {F : List Addr} {b : Addr} {o : Obj} (n : (PySem.W.hideAll h F).get? b = none) (e : h.get? b = some o) : b ∈ F :=
  Classical.byContradiction fun q => by rw [PySem.W.hideAll_get F e q] at n; cases n
theorem ObjOk.get {P : Program} {w : World} {H : Hp} {h : Heap} {a : Addr} {o : HO} (x : ObjOk P w H h a o) : ∃ ob, h.get? a = some ob := by
  cases o with
  | lst xs => obtain ⟨_, _, _, _, e⟩ := x; exact ⟨_, e⟩
  | tup xs => obtain ⟨_, _, _, _, e, _⟩ := x; exact ⟨_, e⟩
  | dK kvs => obtain ⟨_, _, _, _, o, _, _, e, _⟩ := x; exact ⟨_, e⟩
  | dT kvs => obtain ⟨_, _, _, _, o, _, _, e, _⟩ := x; exact ⟨_, e⟩
  | set S n => obtain ⟨o, _, _, _, e, _⟩ := x; exact ⟨_, e⟩
  | ins C dx fs => obtain ⟨_, _, _, e, _⟩ := x; exact ⟨_, e⟩
  | own y => exact x
  | xd fs => obtain ⟨_, ⟨_, _, _, e, _⟩, _⟩ := x; exact ⟨_, e⟩
  | rng lo hi => obtain ⟨_, _, _, e⟩ := x; exact ⟨_, e⟩
  | frz ob u => obtain ⟨e, _⟩ := x; exact ⟨_, e⟩
  | tbl ps => exact ⟨_, show h.get? a = some _ from x⟩
  | met f y => exact ⟨_, show h.get? a = some _ from x⟩
  | ext φ => obtain ⟨_, e, _⟩ := x; exact e
theorem HOk.none_of {P : Program} {w : World} {H : Hp} {h : Heap} {a : Addr} (ok : HOk P w H h) (n : h.get? a = none) : H a = none := by
  cases q : H a with
  | none => rfl
  | some o =>
    obtain ⟨ob, e⟩ := (ok a o q).get
    rw [n] at e; cases e
theorem HOk.fly {P : Program} {w : World} {H : Hp} {h h' : Heap} {F : List Addr} (ok : HOk P w H h) (hF : ∀ b ∈ F, H b = none) (st : (PySem.W.hideAll h F).StaysIn h') : HOk P w H h' := fun a o e =>
  (ok a o e).stay (fun b u hb q => st b u (PySem.W.hideAll_get F q fun m => by
    rcases hb with z | z
    · rw [← z, hF b m] at e; cases e
    · rw [hF b m] at z; cases z)) (fun _ q => q) fun _ _ q => q
theorem Un.fly {fs F : List Addr} {H₀ H : Hp} {h₀ h h' : Heap} (u : Un fs [] H₀ H h₀ h) (st : (PySem.W.hideAll h F).StaysIn h') (hin : ∀ b o, h₀.get? b = some o → b ∈ F → b ∈ fs)
    (hsl : ∀ b ∈ fs, ∀ o, h.get? b = some o → ∃ sl, h'.get? b = some { o with slots := sl }) : Un fs [] H₀ H h₀ h' where
  keep := fun b o e n hb hx => st b o (PySem.W.hideAll_get F (u.keep b o e n hb hx) fun m => hb (hin b o e m))
  slot := fun b o e n hb hx => by
    obtain ⟨sl, q⟩ := u.slot b o e n hb hx
    obtain ⟨sl', q'⟩ := hsl b hb _ q
    exact ⟨sl', q'⟩
  free := u.free
  there := fun b o e hx => by
    obtain ⟨o', q⟩ := u.there b o e hx
    by_cases m : b ∈ F
    · obtain ⟨sl, q'⟩ := hsl b (hin b o e m) o' q
      exact ⟨_, q'⟩
    · exact ⟨o', st b o' (PySem.W.hideAll_get F q m)⟩
  tups := u.tups
  frzs := u.frzs
  tbls := u.tbls
/-- a record that is there behind, and not among what is kept -/
theorem rec_new {h h' base : Heap} {stack : List Env} {ex : List Addr} {T : Addr} {oT : Obj} {ts : Array Value} (ff : h.FunFrames base stack) (up : h.UpToSlots h') (n : (PySem.W.hideAll h (frs stack ++ ex)).get? T = none)
    (hT : h'.get? T = some oT) (hd : oT.data = .fields ts) : h.get? T = none ∨ T ∈ ex := by
  cases q : h.get? T with
  | none => exact .inl rfl
  | some o =>
    rcases List.mem_append.mp (of_hid_none n q) with m | m
    · obtain ⟨_, o', ho', hnf⟩ := ff.mem m
      obtain ⟨sl, e'⟩ := up T o' ho' hnf
      rw [hT] at e'
      have z : oT = { o' with slots := sl } := Option.some.inj e'
      subst z
      exact absurd hd (hnf ts)
    · exact .inr m
theorem ff_hide {h base : Heap} {stack : List Env} {ex : List Addr} (ff : h.FunFrames base stack) : h.FunFrames (PySem.W.hideAll h (frs stack ++ ex)) stack :=
  PySem.W.funFrames_hide ff fun env he a q => List.mem_append_left _ (List.mem_filterMap.mpr ⟨env, he, q⟩)
theorem ff_slot {h h' base : Heap} {stack : List Env} (ff : h.FunFrames base stack) (up : h.UpToSlots h') : ∀ b ∈ frs stack, ∀ o, h.get? b = some o → ∃ sl, h'.get? b = some { o with slots := sl } := fun b hb o e => by
  obtain ⟨_, o', ho', hnf⟩ := ff.mem hb
  rw [e] at ho'; cases ho'
  exact up b o e hnf
theorem Un.no {fs : List Addr} {H₀ H : Hp} {h₀ h : Heap} {b : Addr} (u : Un fs [] H₀ H h₀ h) (n : h.get? b = none) : h₀.get? b = none := by
  cases q : h₀.get? b with
  | none => rfl
  | some o =>
    obtain ⟨o', e⟩ := u.there b o q (by simp)
    rw [n] at e; cases e
/-! ### an exception that has left a def -/
structure Flew (P : Program) (w : World) (outer : List Env) (H : Hp) (s : Shared) (H' : Hp) (e T : Addr) (cls a0 : Value) (s' : Shared) : Prop where
  os : s'.os = s.os
  bare : AllBare s'.gens
  tk : 0 < s'.toks
  un : Un (frs outer) [] H H' s.heap s'.heap
  hok : HOk P w H' s'.heap
  ne : s.heap.get? e = none
  nT : s.heap.get? T = none
  fe : H' e = none
  fT : H' T = none
  tr : Tr s'.heap e T cls a0 .none
def CXr (P : Program) (w : World) : CXT := fun outer H s E ev s' => ∃ e T cls a0 H', ev = .ref e ∧ E cls none H' ∧ Flew P w outer H s H' e T cls a0 s'
theorem passR {P : Program} {w : World} {X : Cx} : Passes (CXr P w) X E0 := fun _ _ _ _ _ _ _ ⟨_, _, _, _, _, _, h, _⟩ => h.elim
/-- an address that was not there at the entry, and is no part of the frame -/
structure NewA (X : Cx) (pins : List (Addr × Obj)) (b : Addr) : Prop where
  s0 : X.s₀.heap.get? b = none
  loc : b ≠ X.env.locals
  cell : ∀ x c, X.env.cells.lookup x = some c → c ≠ b
  pin : ∀ p ∈ X.pn ++ pins, p.1 ≠ b
theorem NewA.of {X : Cx} {pins : List (Addr × Obj)} {σ : St} {H : Hp} {s : Shared} {b : Addr} (I : Inv X pins σ H s) (hex : X.ex = []) (n : s.heap.get? b = none) : NewA X pins b where
  s0 := by
    have u := I.base
    rw [hex] at u
    exact u.no n
  loc := fun z => by
    obtain ⟨m, ⟨o, _, _, ho, _⟩, _⟩ := I.loc
    rw [← z, n] at ho; cases ho
  cell := fun x c e z => by
    obtain ⟨v, o, ho, _⟩ := I.cell x c e
    rw [z, n] at ho; cases ho
  pin := fun p hp z => by
    obtain ⟨e, _⟩ := I.pin p hp
    rw [z, n] at e; cases e
/-- the state behind a step of the flight -/
theorem Inv.fly {X : Cx} {pins : List (Addr × Obj)} {σ : St} {H : Hp} {s : Shared} {h' : Heap} {ex : List Addr} (I : Inv X pins σ H s) (hex : X.ex = []) (st : (PySem.W.hideAll s.heap (frs X.stack ++ ex)).StaysIn h')
    (hn : ∀ b ∈ ex, NewA X pins b ∧ H b = none) (up : s.heap.UpToSlots h') : Inv X pins σ H { s with heap := h' } := by
  have ff := I.stack
  have hF : ∀ b ∈ frs X.stack ++ ex, H b = none := fun b hb => (List.mem_append.mp hb).elim (I.stkFree b) fun z => (hn b z).2
  have neL : ∀ b o, X.s₀.heap.get? b = some o → b ≠ X.env.locals := fun b o e => Nat.ne_of_lt (Nat.lt_of_lt_of_le (Heap.lt_size e) I.ok.above)
  have cellK : ∀ c v, s.heap.IsCell c v → h'.IsCell c v := fun c v ⟨o, ho, hd⟩ => by
    obtain ⟨sl, q⟩ := up c o ho fun vs z => by rw [hd] at z; cases z
    exact ⟨_, q, hd⟩
  have fsub : ∀ b ∈ X.fs, b ∈ frs X.stack := fun b hb => by
    rcases I.ok.stk with e | ⟨e, _⟩
    · rw [e]; exact hb
    · rw [e]
      obtain ⟨env, he, q⟩ := List.mem_filterMap.mp (show b ∈ X.outer.filterMap (·.frame) from hb)
      exact List.mem_filterMap.mpr ⟨env, List.mem_cons_of_mem _ he, q⟩
  refine ⟨I.ok, I.os, I.bare, ?_, ?_, fun x c e => ?_, I.free, I.freeC, fun p hp => ?_, I.hok.fly hF st, I.len, I.tk⟩
  · have u := I.base
    rw [hex] at u ⊢
    refine u.fly st (fun b o e m => ?_) fun b hb => ff_slot ff up b (fsub b hb)
    rcases List.mem_append.mp m with m | m
    · exact (List.mem_cons.mp (I.stkSub b m)).elim (fun z => absurd z (neL b o e)) fun z => z
    · rw [(hn b m).1.s0] at e; cases e
  · obtain ⟨m, hm, hl⟩ := I.loc
    refine ⟨m, up.ns hm, fun i x v e1 e2 e3 => ?_⟩
    obtain ⟨u, r, l⟩ := hl i x v e1 e2 e3
    refine ⟨u, r, ?_⟩
    rcases l with l | ⟨k, c, e, z⟩
    · exact .inl l
    · exact .inr ⟨k, c, e, cellK c _ z⟩
  · obtain ⟨v, z⟩ := I.cell x c e
    exact ⟨v, cellK c v z⟩
  · obtain ⟨e, n, ne, nf, d⟩ := I.pin p hp
    refine ⟨st _ _ (PySem.W.hideAll_get _ e fun m => ?_), n, ne, nf, d⟩
    rcases List.mem_append.mp m with m | m
    · exact (List.mem_cons.mp (I.stkSub p.1 m)).elim ne nf
    · exact (hn p.1 m).1.pin p hp rfl
/-! ### an exception within the frame -/
structure Fl (X : Cx) (pins : List (Addr × Obj)) (σ : St) (H : Hp) (e T : Addr) (cls a0 fl : Value) (s : Shared) : Prop where
  inv : Inv X pins σ H s
  tr : Tr s.heap e T cls a0 fl
  fe : H e = none
  fT : H T = none
  ne : NewA X pins e
  nT : NewA X pins T
section
variable {X : Cx} {pins : List (Addr × Obj)} {σ : St} {H H' : Hp} {e T : Addr} {cls a0 fl fl' : Value} {s s' : Shared} {h' : Heap}
theorem Fl.of_call (I : Inv X pins σ H s) (hex : X.ex = []) (F : Flew X.prog X.w X.stack H s H' e T cls a0 s') : Fl X pins σ H' e T cls a0 .none s' :=
  ⟨I.call' (ch := []) F.os F.un F.hok F.bare (fun b z => absurd z (by simp)) F.tk, F.tr, F.fe, F.fT, NewA.of I hex F.ne, NewA.of I hex F.nT⟩
theorem Fl.moved (F : Fl X pins σ H e T cls a0 fl s) (hex : X.ex = []) (st : (PySem.W.hideAll s.heap (frs X.stack ++ [e, T])).StaysIn h') (tr : h'.TracedAtW (PySem.W.hideAll s.heap (frs X.stack ++ [e, T])) e cls a0 fl') (up : s.heap.UpToSlots h') :
    ∃ T', Fl X pins σ H e T' cls a0 fl' { s with heap := h' } := by
  obtain ⟨T', hn, tr'⟩ := Tr.of tr
  obtain ⟨hne, oT, ts, hT, hd⟩ := tr'.T_rec
  have J := F.inv.fly hex st (fun b hb => by
    rcases List.mem_cons.mp hb with z | z
    · rw [z]; exact ⟨F.ne, F.fe⟩
    · rw [List.mem_singleton.mp z]; exact ⟨F.nT, F.fT⟩) up
  have k : H T' = none ∧ NewA X pins T' := by
    rcases rec_new F.inv.stack up hn hT hd with z | z
    · exact ⟨F.inv.hok.none_of z, NewA.of F.inv hex z⟩
    · rcases List.mem_cons.mp z with z | z
      · exact absurd z hne
      · rw [List.mem_singleton.mp z]; exact ⟨F.fT, F.nT⟩
  exact ⟨T', J, tr', F.fe, k.1, F.ne, k.2⟩
theorem Fl.held (F : Fl X pins σ H e T cls a0 fl s) : (PySem.W.hideAll s.heap (frs X.stack ++ [e, T])).StaysIn s.heap ∧ (PySem.W.hideAll s.heap (frs X.stack ++ [e, T])).get? e = none ∧ s.heap.FunFrames (PySem.W.hideAll s.heap (frs X.stack ++ [e, T])) X.stack ∧
    s.heap.TracedAtW (PySem.W.hideAll s.heap (frs X.stack ++ [e, T])) e cls a0 fl :=
  ⟨fun b o q => PySem.W.of_hideAll _ q, PySem.W.hideAll_none _ (List.mem_append_right _ (List.mem_cons_self)), ff_hide F.inv.stack, F.tr.traced (PySem.W.hideAll_none _ (List.mem_append_right _ (List.mem_cons_of_mem _ (List.mem_cons_self))))⟩
variable {M : Model} {A : Around} {E : Value → Shared → Prop} {Q : Unit → Shared → Prop}
theorem Fl.looks (F : Fl X pins σ H e T cls a0 .none s) (hex : X.ex = []) (hst : X.stack = X.env :: X.outer) (hfr : X.env.frame = some X.env.locals) (hA : A.frames = some X.stack)
    (hQ : ∀ T' h', Fl X pins σ H e T' cls a0 (rawInt X.env.locals) { s with heap := h' } → Q () { s with heap := h' }) : wpAny M A (noteFrame (.ref e) X.env) Q E s := by
  obtain ⟨k1, k2, k3, k4⟩ := F.held
  refine wpAny_looks_onW (base := PySem.W.hideAll s.heap (frs X.stack ++ [e, T])) (outer := X.outer) (cls := cls) (a0 := a0) (by rw [hA, hst]) hfr ⟨k1, k2, by rw [← hst]; exact k3, k4⟩ fun h' hh up => ?_
  obtain ⟨j1, j2, j3, j4⟩ := hh
  obtain ⟨T', G⟩ := F.moved hex j1 j4 up
  exact hQ T' h' G
theorem Fl.lands (F : Fl X pins σ H e T cls a0 (rawInt X.env.locals) s) (hex : X.ex = [])
    (hQ : ∀ T' h', Fl X pins σ H e T' cls a0 .none { s with heap := h' } → Q () { s with heap := h' }) : wpAny M A (setFlight (.ref e) none) Q E s := by
  refine wpAny_landsW (base := PySem.W.hideAll s.heap (frs X.stack ++ [e, T])) (l := X.stack) (L := X.env.locals) F.held fun h' hh up => ?_
  obtain ⟨j1, j2, j3, j4⟩ := hh
  obtain ⟨T', G⟩ := F.moved hex j1 j4 up
  exact hQ T' h' G
theorem Fl.again (F : Fl X pins σ H e T cls a0 .none s) (hex : X.ex = [])
    (hQ : ∀ T' h', Fl X pins σ H e T' cls a0 .none { s with heap := h' } → Q () { s with heap := h' }) : wpAny M A (setFlight (.ref e) none) Q E s := by
  refine lands_againW (base := PySem.W.hideAll s.heap (frs X.stack ++ [e, T])) (l := X.stack) F.held fun h' hh up => ?_
  obtain ⟨j1, j2, j3, j4⟩ := hh
  obtain ⟨T', G⟩ := F.moved hex j1 j4 up
  exact hQ T' h' G
/-- an object that is there is tracked from now on -/
theorem Inv.track {o : HO} (I : Inv X pins σ H s) (n : NewA X pins e) (he : H e = none) (new : ObjOk X.prog X.w (upd H e o) s.heap e o) : Inv X pins σ (upd H e o) s := by
  have ne : ∀ b u, H b = some u → b ≠ e := fun b u q z => by rw [z, he] at q; cases q
  refine ⟨I.ok, I.os, I.bare, ⟨I.base.keep, I.base.slot, fun b o' q n' hx => ?_, I.base.there, fun b xs q => ?_, fun b ob u q => ?_, fun b ps q => ?_⟩, I.loc, I.cell, ?_, fun x c q => ?_, fun p hp => ?_, fun b u q => ?_, I.len, I.tk⟩
  · rw [upd_ne fun z => by rw [z, n.s0] at q; cases q]
    exact I.base.free b o' q n' hx
  · have z := I.base.tups b xs q
    rw [upd_ne (ne b _ z)]; exact z
  · have z := I.base.frzs b ob u q
    rw [upd_ne (ne b _ z)]; exact z
  · obtain ⟨more, z⟩ := I.base.tbls b ps q
    exact ⟨more, by rw [upd_ne (ne b _ z)]; exact z⟩
  · rw [upd_ne (Ne.symm n.loc)]; exact I.free
  · rw [upd_ne (n.cell x c q)]; exact I.freeC x c q
  · obtain ⟨q, f, r⟩ := I.pin p hp
    exact ⟨q, by rw [upd_ne (n.pin p hp)]; exact f, r⟩
  · by_cases hb : b = e
    · subst hb; rw [upd_same] at q; cases q; exact new
    · rw [upd_ne hb] at q
      exact (I.hok b u q).stay (fun _ _ _ q => q) (fun c r => by rw [upd_ne (ne c _ r)]; exact r) fun c xs r => by rw [upd_ne (ne c _ r)]; exact r
end
/-- an exception, as a tracked thing -/
def excO (e : Addr) (cls : Value) : HO := .ext fun h => ∃ (oe : Obj) (vs : Array Value), h.get? e = some oe ∧ oe.cls = cls ∧ oe.data = .fields vs
theorem excO_ok {P : Program} {w : World} {H : Hp} {h : Heap} {e T : Addr} {cls a0 fl : Value} (x : Tr h e T cls a0 fl) : ObjOk P w H h e (excO e cls) := by
  obtain ⟨oe, vs, h1, h2, h3⟩ := x.e_obj
  exact ⟨⟨oe, vs, h1, h2, h3⟩, ⟨oe, h1⟩, fun h1 h2 ⟨oe, vs, a, b, c⟩ k => ⟨oe, vs, k _ a, b, c⟩⟩
theorem Fl.track {X : Cx} {pins : List (Addr × Obj)} {σ : St} {H : Hp} {e T : Addr} {cls a0 fl : Value} {s : Shared} (F : Fl X pins σ H e T cls a0 fl s) : Inv X pins σ (upd H e (excO e cls)) s :=
  F.inv.track F.ne F.fe (excO_ok F.tr)
theorem excO_get {P : Program} {w : World} {H : Hp} {h : Heap} {e : Addr} {cls : Value} (ok : HOk P w H h) (x : H e = some (excO e cls)) : ∃ (oe : Obj) (vs : Array Value), h.get? e = some oe ∧ oe.cls = cls ∧ oe.data = .fields vs :=
  (show ObjOk P w H h e (excO e cls) from ok e _ x).1
end L2

set_option Elab.async false
set_option linter.all false
set_option maxRecDepth 100000
/-! raise, try, and calls that may raise. -/
namespace L2
open PySem PySem.Spec PyProof.Rows
/-! ### leaving a def -/
section
variable {P : Program} {w : World} {K : PySem.W.Frag} {mg : Str → Option Value} {base : Heap} {N : List Str} {qual : Str} {scope : Scope} {f : Addr} {cd : Value} {A : Around} {outer : List Env} {s₀ : Shared} {H₀ : Hp} {E : XK}
theorem frs_tail {env : Env} {outer : List Env} {b : Addr} (h : b ∈ frs outer) : b ∈ frs (env :: outer) := by
  obtain ⟨x, hx, q⟩ := List.mem_filterMap.mp (show b ∈ outer.filterMap (·.frame) from h)
  exact List.mem_filterMap.mpr ⟨x, List.mem_cons_of_mem _ hx, q⟩
/-- a made exception leaves the def -/
theorem leave_made {pins : List (Addr × Obj)} {σ : St} {H : Hp} {s : Shared} {h' : Heap} {e : Addr} {cls : Value} {args : List Value} (I : Inv (cxOf (CXr P w) P w K mg base N qual scope f cd A outer s₀ H₀ E) pins σ H s)
    (hx : Heap.MadeExcOf s.heap h' e cls args) (hE : E cls none H) : (cxOf (CXr P w) P w K mg base N qual scope f cd A outer s₀ H₀ E).xe (.ref e) { s with heap := h' } := by
  have ff : s.heap.FunFrames base (envOfC qual scope s₀.heap.objs.size f cd :: outer) := I.stack
  have hB := ff_hide (ex := []) ff
  show wpAny (model P w) (A.deeper (envOfC qual scope s₀.heap.objs.size f cd)) (leaving (envOfC qual scope s₀.heap.objs.size f cd) (.ref e)) _ _ _
  refine wpAny_leaves_madeW (base := PySem.W.hideAll s.heap (frs (envOfC qual scope s₀.heap.objs.size f cd :: outer) ++ [])) (h := s.heap) (outer := outer) (L := s₀.heap.objs.size) (show (A.deeper (envOfC qual scope s₀.heap.objs.size f cd)).frames = _ from I.ok.frames) rfl
    (fun b o q => PySem.W.of_hideAll _ q) hB hx fun h2 t fl htup hnt up => ?_
  obtain ⟨st, hen, ffo, tr⟩ := fl
  have up' : s.heap.UpToSlots h2 := (Heap.UpToSlots.of_keeps hx.keeps).trans up
  obtain ⟨T, hn, tr'⟩ := Tr.of tr.at
  obtain ⟨hne, oT, ts, hT, hd⟩ := tr'.T_rec
  have nT : s.heap.get? T = none := by
    rcases rec_new ff up' hn hT hd with z | z
    · exact z
    · cases z
  have u : Un (frs outer) [] H₀ H s₀.heap s.heap := I.base
  have neL : ∀ b o, s₀.heap.get? b = some o → b ≠ s₀.heap.objs.size := fun b o e => Nat.ne_of_lt (Heap.lt_size e)
  refine ⟨e, T, cls, .ref t, H, rfl, hE, I.os, I.bare, I.tk, ?_, ?_, u.no hx.new, u.no nT, I.hok.none_of hx.new, I.hok.none_of nT, tr'⟩
  · refine u.fly st (fun b o q m => ?_) fun b hb => ff_slot ff up' b (frs_tail hb)
    rw [List.append_nil] at m
    exact (List.mem_cons.mp (I.stkSub b m)).elim (fun z => absurd z (neL b o q)) fun z => z
  · refine I.hok.fly (fun b m => ?_) st
    rw [List.append_nil] at m
    exact I.stkFree b m
/-- an exception of a callee passes on -/
theorem pass_on {E' : XK} (h : ∀ cls H, E' cls none H → E cls none H) : Passes (CXr P w) (cxOf (CXr P w) P w K mg base N qual scope f cd A outer s₀ H₀ E) E' := by
  intro pins σ H s ev s' I hq
  obtain ⟨e, T, cls, a0, H', rfl, hE, F0⟩ := hq
  have F : Fl (cxOf (CXr P w) P w K mg base N qual scope f cd A outer s₀ H₀ E) pins σ H' e T cls a0 .none s' := Fl.of_call I rfl F0
  have J := F.inv
  have ff : s'.heap.FunFrames base (envOfC qual scope s₀.heap.objs.size f cd :: outer) := J.stack
  obtain ⟨k1, k2, k3, k4⟩ := F.held
  show wpAny (model P w) (A.deeper (envOfC qual scope s₀.heap.objs.size f cd)) (leaving (envOfC qual scope s₀.heap.objs.size f cd) (.ref e)) _ _ _
  refine wpAny_leaves_onW (base := PySem.W.hideAll s'.heap (frs (envOfC qual scope s₀.heap.objs.size f cd :: outer) ++ [e, T])) (outer := outer) (L := s₀.heap.objs.size) (cls := cls) (a0 := a0) (show (A.deeper (envOfC qual scope s₀.heap.objs.size f cd)).frames = _ from J.ok.frames) rfl ⟨k1, k2, k3, k4⟩ fun h2 fl up => ?_
  obtain ⟨st, hen, ffo, tr⟩ := fl
  obtain ⟨T2, F2⟩ := F.moved rfl st tr.at up
  have J2 := F2.inv
  exact ⟨e, T2, cls, a0, H', rfl, h _ _ hE, J2.os, J2.bare, J2.tk, J2.base, J2.hok, F2.ne.s0, F2.nT.s0, F2.fe, F2.fT, F2.tr⟩
end
/-! ### raise -/
/-- an own class of exceptions: its shape in the fragment -/
structure OwnX (K : PySem.W.Frag) (C : Addr) : Prop where
  ex : ∃ (bmB : List Value) (newId initId B : String), PySem.W.excIn K C bmB newId = true ∧ ExcBaseFacts B newId initId bmB
/-- what is wanted where an exception of the class at C is raised -/
def Raises (X : Cx) (E : XK) : Prop := ∀ (pins : List (Addr × Obj)) (σ : St) (H : Hp) (s : Shared) (h' : Heap) (e : Addr) (cls : Value) (vs : List Value), Inv X pins σ H s → Heap.MadeExcOf s.heap h' e cls vs → E cls none H → X.xe (.ref e) { s with heap := h' }
def tRaise (C : Addr) (E : XK) (ta : TA) : TS := fun _ σ H => ta σ H fun vs H1 => vs.length ≤ sizeLine ∧ E (.ref C) none H1
section
variable {X : Cx} {C : Addr} {E : XK} {x : Str} {e0 : Expr} {rest : List Expr} {ta : TA} {np cpos pos : Pos}
theorem ps_raise (O : OwnX X.K C) (hm : X.mg x = some (.ref C)) (hc : X.calm = true) (hE : Raises X E) (ha : PA X (e0 :: rest) ta) (hg : Gl X x := by exact rfl) (hdb : (x == ("__debug__" : Str)) = false := by decide)
    (he : starEach (e0 :: rest) X.env = (false, eval e0 X.env) :: starEach rest X.env := by rfl) (hpl : (backTo cpos (starEach rest X.env)).any (·.1) = false := by rfl) :
    PS X (.Raise (some (.Call (.Name x np) (e0 :: rest) [] cpos)) none pos) (tRaise C E ta) := by
  intro pins s σ H D I h
  obtain ⟨bmB, newId, initId, B, q, FB⟩ := O.ex
  have hK : X.K.In X.base := I.ok.mod.kin
  unfold PySem.W.excIn at q
  split at q
  case h_2 => cases q
  rename_i d1 c1 l1 hC
  split at q
  case h_2 => cases q
  rename_i C1 tl j0 j1 j2 j3 id1 j5 hmro hslots
  rw [Bool.and_eq_true, Bool.and_eq_true, Bool.and_eq_true, Bool.and_eq_true, Bool.and_eq_true] at q
  obtain ⟨⟨⟨⟨⟨q1, q2⟩, q3⟩, q4⟩, q5⟩, q6⟩ := q
  cases beq_iff_eq.mp q1
  cases beq_iff_eq.mp q2
  have q3 : c1.hasDel = false := by simpa using q3
  obtain ⟨n1, b1, m1, a1, w1, g1, y1, u1, v1, z1, x1⟩ := c1
  cases hmro
  cases q3
  obtain ⟨l1⟩ := l1
  cases hslots
  have hget := hK _ _ hC
  have hns : X.base.Ns a1 (X.base.nsMap a1) := .of_isNs (PySem.W.isNs_of_in hK q5)
  have hno : X.base.nsMap a1 "__init__" = none := PySem.W.nsMap_none_of_in hK q5 (beq_iff_eq.mp q6)
  have htl := PySem.W.tail_of_in hK q4
  refine wpAny_Raise_call_subT (nm := n1) (q := w1) (C := C) (N := a1)
    (bs := b1) (bm := tl) (hdct := g1) (sn := y1) (sub := u1) (ab := v1) (col := z1) (dd := d1)
    (k0 := j0) (k1 := j1) (k2 := j2) (k3 := j3) (k5 := j5) FB (htl.hasType FB.hasBase) (I.ok.hd hc) ?_ hno (ld_glob I hg hm ⟨rfl, ?_⟩ hdb)
  · rw [he]
    show (false || (backTo cpos (starEach rest X.env)).any (·.1)) = false
    rw [hpl]; rfl
  · have h2 := ha cpos pins s σ H _ I h
    rw [he] at h2 ⊢
    refine Calls.evalArgs_plain (wpAny_mono h2 (fun us s2 r2 => ?_) fun _ _ y => y)
    obtain ⟨vs, H1, I2, rv, hz, hw⟩ := r2
    exact ⟨rfl, by rw [← rv.length]; exact hz, I2.bk _ _ hget, hns.keeps I2.bk, htl.keeps I2.bk, fun h' e hx => hE pins σ H1 s2 h' e _ _ I2 hx hw⟩
end
theorem raises_cx {P : Program} {w : World} {K : PySem.W.Frag} {mg : Str → Option Value} {base : Heap} {N : List Str} {qual : Str} {scope : Scope} {f : Addr} {cd : Value} {A : Around} {outer : List Env} {s₀ : Shared} {H₀ : Hp} {E : XK} :
    Raises (cxOf (CXr P w) P w K mg base N qual scope f cd A outer s₀ H₀ E) E := fun _ _ _ _ _ _ _ _ I hx hE => leave_made I hx hE
/-! ### a def that may raise -/
structure DefR (P : Program) (w : World) (K : PySem.W.Frag) (mg : Str → Option Value) (base : Heap) (k : Nat) (x : Str) (ps : List Str) (sp : Sp) : Prop where
  ex : ∃ f fd, FnOk P w K mg base (CXr P w) k f fd ps sp ∧ mg x = some (.ref f) ∧ PySem.W.keepIn K (.ref f) = true ∧ Binds K fd ps []
theorem Fun.okR {P : Program} {w : World} {K : PySem.W.Frag} {mg : Str → Option Value} {base : Heap} {x qual : Str} {st : Stmt} {f : Addr} {fd : FuncData} {N ps : List Str} {k : Nat} {sp : Sp} (F : Fun K x qual st f fd) (S : FnScope N ps (defScope st)) (len : ∀ vs H Q E, sp vs H Q E → vs.length = ps.length)
    (hbody : ∀ (cdv : Value) (A : Around) (outer : List Env) (s : Shared) (H : Hp) (vs : List V) (Q : VK) (E : XK), Room k (A.deeper (envOfC qual (defScope st) s.heap.objs.size f cdv)) → sp vs H Q E →
      ∃ t, PSs (cxOf (CXr P w) P w K mg base N qual (defScope st) f cdv A outer s H E) (defBody st) t ∧ t { nx := fun _ H' => Q .non H', rt := Q } (start N vs) H) : FnOk P w K mg base (CXr P w) (k + 1) f fd ps sp := by
  obtain ⟨oc, od, kV, doc, pm, an, cdv, ct, osl, rfl, lk, hcd⟩ := F.ex
  exact fn_of lk hcd S len fun A outer s H vs Q E hr hsp => hbody cdv A outer s H vs Q E hr hsp
section
variable {X : Cx} {k : Nat} {x : Str} {ps : List Str} {sp : Sp} {e : Expr} {es : List Expr} {te : TE} {t : TA} {p pos : Pos}
theorem stars2 (hst : noStars (e :: es) = true) : isStar e = false ∧ noStars es = true := by
  unfold noStars at hst
  rw [Bool.and_eq_true, Bool.not_eq_true'] at hst
  exact hst
/-- .. called where it does not raise -/
theorem xcR (D : DefR X.prog X.w X.K X.mg X.base k x ps sp) (hr : Room k X.A) (ha : XA X (e :: es) t) (hg : Gl X x := by exact rfl) (hdb : (x == ("__debug__" : Str)) = false := by decide) (hst : noStars (e :: es) = true := by rfl) :
    XE X (.Call (.Name x p) (e :: es) [] pos) (tCall sp [] E0 t) := by
  obtain ⟨f, fd, G, hm, hk, hb⟩ := D.ex
  obtain ⟨h1, h2⟩ := stars2 hst
  exact ⟨pe_call G hr hg hm hk hb .nil passR ha.h hdb (star_cons h1) (stars_any h2)⟩
/-! ### code that may raise, the exception seen with the names as they are -/
def XP (X : Cx) (pins : List (Addr × Obj)) (R : St → Value → Hp → Prop) (ev : Value) (s' : Shared) : Prop := ∃ e T cls a0 σ' H', ev = .ref e ∧ Fl X pins σ' H' e T cls a0 .none s' ∧ R σ' cls H'
structure XEx (X : Cx) (e : Expr) (t : (Value → Hp → Prop) → TE) : Prop where
  h : ∀ (pins : List (Addr × Obj)) (s : Shared) (σ : St) (H : Hp) (Q : VK) (R : Value → Hp → Prop), Inv X pins σ H s → t R σ H Q → wpAny (model X.prog X.w) X.A (eval e X.env) (EP X pins σ Q) (XP X pins fun σ' cls H' => σ' = σ ∧ R cls H') s
abbrev TSx := (St → Value → Hp → Prop) → TS
structure XSx (X : Cx) (st : Stmt) (t : TSx) : Prop where
  h : ∀ (pins : List (Addr × Obj)) (s : Shared) (σ : St) (H : Hp) (D : Ends) (R : St → Value → Hp → Prop), Inv X pins σ H s → t R D σ H → wpAny (model X.prog X.w) X.A (exec st X.env) (SP X pins D) (XP X pins R) s
structure XBx (X : Cx) (st : List Stmt) (t : TSx) : Prop where
  h : ∀ (pins : List (Addr × Obj)) (s : Shared) (σ : St) (H : Hp) (D : Ends) (R : St → Value → Hp → Prop), Inv X pins σ H s → t R D σ H → wpAny (model X.prog X.w) X.A (execs st X.env) (SP X pins D) (XP X pins R) s
theorem xex_call (D : DefR X.prog X.w X.K X.mg X.base k x ps sp) (hr : Room k X.A) (hex : X.ex = []) (ha : XA X.nox (e :: es) t) (hg : Gl X x := by exact rfl) (hdb : (x == ("__debug__" : Str)) = false := by decide) (hst : noStars (e :: es) = true := by rfl) :
    XEx X (.Call (.Name x p) (e :: es) [] pos) (fun R σ H Q => t σ H fun vs H1 => sp vs H1 Q fun cls _ H2 => R cls H2) := by
  obtain ⟨f, fd, G, hm, hk, hb⟩ := D.ex
  obtain ⟨h1, h2⟩ := stars2 hst
  refine ⟨fun pins s σ H Q R I h => ?_⟩
  refine wpAny_Call_Name_kw (ld_glob I hg hm ?_ hdb)
  refine PySem.W.callWith_K (h₀ := X.base) I.ok.mod.kin hk (wpAny_mono (ha.h pos pins s σ H _ (I.wish _) h) (fun us s1 q0 => ?_) (fun _ _ z => z.elim)) (star_cons h1) (stars_any h2)
  obtain ⟨vs, H1, I1', r, q⟩ := q0
  have I1 := I1'.unwish
  have hl : (us ++ []).length = ps.length := by rw [List.append_nil, ← r.length]; exact G.len _ _ _ _ q
  have hb' := hb s1 us I1.kIn hl
  rw [List.append_nil] at hb'
  refine ⟨I1.kIn, wpAny_call (codeAny_mono (G.run X.A X.stack s1 H1 ⟨us, []⟩ us vs _ _ hr I1.env0 hb' r q) fun r s' hq => ?_)⟩
  cases r with
  | error ev =>
    obtain ⟨e, T, cls, a0, H', rfl, hE, F⟩ := hq
    exact ⟨e, T, cls, a0, σ, H', rfl, Fl.of_call I1 hex F, rfl, hE⟩
  | ok fl =>
    cases fl with
    | ret u => exact I1.after hq
    | next => exact False.elim hq
    | brk => exact False.elim hq
    | cont => exact False.elim hq
theorem XP.imp {pins : List (Addr × Obj)} {R R' : St → Value → Hp → Prop} {ev : Value} {s' : Shared} (h : XP X pins R ev s') (k : ∀ σ cls H, R σ cls H → R' σ cls H) : XP X pins R' ev s' :=
  let ⟨e, T, cls, a0, σ', H', a, b, c⟩ := h; ⟨e, T, cls, a0, σ', H', a, b, k _ _ _ c⟩
theorem xsx_expr {tx : (Value → Hp → Prop) → TE} (he : XEx X e tx) (hs : swapsWith e none pos.line X.env = pure false := by rfl) : XSx X (.Expr e pos) (fun R D σ H => tx (R σ) σ H fun _ H1 => D.nx σ H1) :=
  ⟨fun pins s σ H D R I h => wpAny_Expr_any (wpAny_mono (he.h pins s σ H _ _ I h) (fun v s1 ⟨x, H1, I1, r1, q1⟩ => ⟨σ, H1, I1, q1⟩) fun ev s1 q => q.imp fun σ' cls H' ⟨a, b⟩ => a ▸ b) I.quiet hs⟩
theorem xsx_ret {tx : (Value → Hp → Prop) → TE} (he : XEx X e tx) : XSx X (.Return (some e) pos) (fun R D σ H => tx (R σ) σ H D.rt) :=
  ⟨fun pins s σ H D R I h => wpAny_Return_some (wpAny_mono (he.h pins s σ H _ _ I h) (fun v s1 ⟨x, H1, I1, r1, q1⟩ => ⟨x, σ, H1, I1, r1, q1⟩) fun ev s1 q => q.imp fun σ' cls H' ⟨a, b⟩ => a ▸ b)⟩
theorem xsx_set {tx : (Value → Hp → Prop) → TE} {i : Nat} {pos' : Pos} (hN : X.N.Nodup) (hi : X.N[i]? = some x) (hx : Loc X.env.scope x) (he : XEx X e tx) (hs : swapsWith e (some (.Name x pos')) pos.line X.env = pure false := by rfl)
    (hf : X.fn x = true ∨ X.env.scope.names.lookup x = some .local := by first | exact .inl rfl | exact .inr rfl) : XSx X (.Assign [.Name x pos'] e pos) (fun R D σ H => tx (R σ) σ H fun v H1 => D.nx (σ.set i (some v)) H1) :=
  ⟨fun pins s σ H D R I h => wpAny_Assign_Name (wpAny_mono (he.h pins s σ H _ _ I h) (fun v s1 ⟨y, H1, I1, r1, q1⟩ => store_ok I1 hN hi hx r1 (fun s2 I2 => ⟨_, H1, I2, q1⟩) hf) fun ev s1 q => q.imp fun σ' cls H' ⟨a, b⟩ => a ▸ b) hs⟩
theorem xsx_no {st : Stmt} {u : TS} (h : XS X.nox st u) : XSx X st (fun _ => u) :=
  ⟨fun pins s σ H D R I q => wpAny_mono (h.h pins s σ H D (I.wish _) q) (fun f s1 z => z.unwish) fun _ _ z => z.elim⟩
theorem xbx_no {st : List Stmt} {u : TS} (h : XB X.nox st u) : XBx X st (fun _ => u) :=
  ⟨fun pins s σ H D R I q => wpAny_mono (h.h pins s σ H D (I.wish _) q) (fun f s1 z => z.unwish) fun _ _ z => z.elim⟩
theorem xsx_if {c : Expr} {a b : List Stmt} {tc : TT} {ta tb : TSx} (hc : XT X.nox c tc) (ha : XBx X a ta) (hb : XBx X b tb) : XSx X (.If c a b pos) (fun R D σ H => tc σ H fun d H1 => if d = true then ta R D σ H1 else tb R D σ H1) := by
  refine ⟨fun pins s σ H D R I h => wpAny_If (wpAny_mono (hc.h pins s σ H _ (I.wish _) h) (fun d s1 q => ?_) fun _ _ z => z.elim)⟩
  obtain ⟨H1, I1, q1⟩ := q
  cases d with
  | true => exact ha.h pins s1 σ H1 D R I1.unwish q1
  | false => exact hb.h pins s1 σ H1 D R I1.unwish q1
theorem xbx_one {st : Stmt} {u : TSx} (h : XSx X st u) : XBx X [st] u :=
  ⟨fun pins s σ H D R I q => wpAny_execs_cons (wpAny_mono (h.h pins s σ H D R I q) (fun f s1 z => by
    cases f with
    | next => exact wpAny_execs_nil z
    | ret u => exact z
    | brk => exact z
    | cont => exact z) fun _ _ z => z)⟩
end
/-! ### try -/
/-- within an except suite -/
abbrev XM (X : Cx) (e : Addr) : Cx := { X with A := X.A.mark (some (.ref e)), calm := false }
theorem Inv.mark {X : Cx} {pins : List (Addr × Obj)} {σ : St} {H : Hp} {s : Shared} (I : Inv X pins σ H s) (e : Addr) : Inv (XM X e) pins σ H s :=
  ⟨⟨I.ok.mod, I.ok.kind, I.ok.glob, I.ok.blt, I.ok.above, I.ok.inj, I.ok.has, I.ok.cab, (fun z => nomatch z), I.ok.frames, I.ok.stk, I.ok.exf, I.ok.bs, I.ok.bsz, I.ok.noex, I.ok.exfs, I.ok.funs, I.ok.frf⟩,
    I.os, I.bare, I.base, I.loc, I.cell, I.free, I.freeC, I.pin, I.hok, I.len, I.tk⟩
theorem Inv.unmark {X : Cx} {pins : List (Addr × Obj)} {σ : St} {H : Hp} {s s1 : Shared} {σ1 : St} {H1 : Hp} {e : Addr} (J : Inv X pins σ1 H1 s1) (I : Inv (XM X e) pins σ H s) : Inv X pins σ H s :=
  ⟨J.ok, I.os, I.bare, I.base, I.loc, I.cell, I.free, I.freeC, I.pin, I.hok, I.len, I.tk⟩
/-- the name of the exception goes -/
theorem Inv.gone {X : Cx} {pins : List (Addr × Obj)} {σ : St} {H : Hp} {s : Shared} {M : Model} {A : Around} {E : Value → Shared → Prop} {Q : Unit → Shared → Prop} {i : Nat} {n : Str} {pos : Pos} (I : Inv X pins σ H s) (hN : X.N.Nodup) (hi : X.N[i]? = some n) (hl : X.env.scope.names.lookup n = some .local)
    (hQ : ∀ s', Inv X pins (σ.set i none) H s' → Q () s') : wpAny M A (do bindName X.env n .none; unbindBehindTheSuite X.env n pos) Q E s := by
  obtain ⟨m, hn, hlk⟩ := id I.loc
  have hcls : (X.env.scope.kind == .class || (X.env.scope.kind == .module && X.env.locals != X.env.globals)) = false := by rw [I.ok.kind]; rfl
  refine wpAny_nameGoes_keeps hl hn hcls fun h' v hn' hs => hQ _ ?_
  have neL : ∀ b o, X.s₀.heap.get? b = some o → b ≠ X.env.locals := fun b o e => Nat.ne_of_lt (Nat.lt_of_lt_of_le (Heap.lt_size e) I.ok.above)
  have nH : ∀ b u, H b = some u → b ≠ X.env.locals := fun b u q z => by rw [z, I.free] at q; cases q
  refine ⟨I.ok, I.os, I.bare, ⟨fun b o e n' hb hx => (hs.2 b (neL b o e)).trans (I.base.keep b o e n' hb hx), fun b o e n' hb hx => ?_, I.base.free, fun b o e hx => ?_, I.base.tups, I.base.frzs, I.base.tbls⟩, ⟨_, hn', fun j y v' e1 e2 e3 => ?_⟩, fun y c e => ?_, I.free, I.freeC, fun p hp => ?_, fun b u q => ?_, by simpa using I.len, Nat.succ_pos _⟩
  · obtain ⟨sl, e1⟩ := I.base.slot b o e n' hb hx
    exact ⟨sl, (hs.2 b (neL b o e)).trans e1⟩
  · obtain ⟨o', e1⟩ := I.base.there b o e hx
    exact ⟨o', (hs.2 b (neL b o e)).trans e1⟩
  · by_cases hj : j = i
    · subst hj
      rw [List.getElem?_set] at e2
      split at e2
      · split at e2 <;> cases e2
      · exact absurd rfl (by assumption)
    · rw [List.getElem?_set_ne (Ne.symm hj)] at e2
      obtain ⟨u', r', q⟩ := hlk j y v' e1 e2 e3
      refine ⟨u', r', ?_⟩
      rcases q with ⟨k, e⟩ | ⟨k, c, e, z⟩
      · refine .inl ⟨k, ?_⟩
        have : y ≠ n := fun e => hj (nodup_ix hN e1 (e ▸ hi))
        simp [this, e]
      · exact .inr ⟨k, c, e, z.sameBut hs (I.cne y c e)⟩
  · obtain ⟨w', z⟩ := I.cell y c e
    exact ⟨w', z.sameBut hs (I.cne y c e)⟩
  · obtain ⟨e, n', ne, nf, d⟩ := I.pin p hp
    exact ⟨(hs.2 p.1 ne).trans e, n', ne, nf, d⟩
  · refine (I.hok b u q).stay (fun c v' hc r => (hs.2 c ?_).trans r) (fun _ r => r) fun _ _ r => r
    rcases hc with z | z
    · rw [z]; exact nH b u q
    · exact nH c _ z
def Ends.but (D : Ends) (i : Nat) : Ends := { nx := fun σ H => D.nx (σ.set i none) H, rt := D.rt, bk := fun σ H => D.bk (σ.set i none) H, ct := fun σ H => D.ct (σ.set i none) H }
def tTry (K : PySem.W.Frag) (C : Addr) (i : Nat) (tb : TSx) (th : TS) : TS := fun D σ H =>
  tb (fun σ' cls H' => ∃ C' : Addr, cls = .ref C' ∧ PySem.W.exmOne K (.ref C') (.ref C) = some true ∧ ∀ e, H' e = none → th (D.but i) (σ'.set i (some (.ref e))) (upd H' e (excO e (.ref C')))) D σ H
section
variable {X : Cx} {x n : Str} {C : Addr} {i : Nat} {body suite : List Stmt} {b₀ : Stmt} {np hpos pos : Pos} {tb : TSx} {th : TS}
theorem ps_try (hex : X.ex = []) (hst : X.stack = X.env :: X.outer) (hfr : X.env.frame = some X.env.locals) (hN : X.N.Nodup) (hi : X.N[i]? = some n) (hl : X.env.scope.names.lookup n = some .local) (hm : X.mg x = some (.ref C))
    (hb : XBx X body tb) (hs : ∀ e, XB (XM X e).nox (b₀ :: suite) th) (hg : Gl X x := by exact rfl) (hdb : (x == ("__debug__" : Str)) = false := by decide) :
    PS X (.Try body [.ExceptHandler (some (.Name x np)) (some n) (b₀ :: suite) hpos] [] [] pos) (tTry X.K C i tb th) := by
  intro pins s σ H D I h
  refine wpAny_Try_except (wpAny_mono (hb.h pins s σ H D _ I h) (fun f s1 q => ?_) fun ev s1 q => ?_)
  · cases f with
    | next => exact wpAny_execs_nil q
    | ret u => exact q
    | brk => exact q
    | cont => exact q
  · obtain ⟨e, T, cls, a0, σ', H', rfl, F, C', rfl, hx, hk⟩ := q
    refine F.looks hex hst hfr I.ok.frames fun T2 h2 F2 => ?_
    refine F2.lands hex fun T3 h3 F3 => ?_
    refine wpAny_handleBy_cons (codeAny_handlers_test ?_) (by intro q; cases q)
    refine ld_glob (X := XM X e) (F3.inv.mark e) hg hm ?_ hdb
    obtain ⟨oe, vs, g1, g2, g3⟩ := F3.tr.e_obj
    have LT : PySem.W.Looks (model X.prog X.w) h3 (typeOf (.ref e)) (.ref C') := g2 ▸ (PySem.W.Looks.ld g1).andThen .now
    refine (PySem.W.exm_one (M := model X.prog X.w) F3.inv.kIn LT hx).here ?_
    refine codeAny_handlers_suite_as ?_
    refine F3.again hex fun T4 h4 F4 => ?_
    refine store_ok (X := XM X e) (v := .ref e) (F4.track.mark e) hN hi (.inl hl) rfl (fun s5 I5 => ?_) (.inr hl)
    refine wpAny_mono ((hs e).h pins s5 _ _ (D.but i) (I5.wish _) (hk e F4.fe)) (fun f s6 q => ?_) (fun _ _ z => z.elim)
    have q := q.unwish
    cases f with
    | next =>
      obtain ⟨σ2, H2, I6, q6⟩ := q
      exact (I.unmark I6).gone hN hi hl fun s7 I7 => ⟨_, H2, I7, q6⟩
    | brk =>
      obtain ⟨σ2, H2, I6, q6⟩ := q
      exact (I.unmark I6).gone hN hi hl fun s7 I7 => ⟨_, H2, I7, q6⟩
    | cont =>
      obtain ⟨σ2, H2, I6, q6⟩ := q
      exact (I.unmark I6).gone hN hi hl fun s7 I7 => ⟨_, H2, I7, q6⟩
    | ret u =>
      obtain ⟨v, σ2, H2, I6, rv, q6⟩ := q
      exact (I.unmark I6).gone hN hi hl fun s7 I7 => ⟨v, _, H2, I7, rv, q6⟩
end
end L2

set_option Elab.async false
set_option linter.all false
set_option maxRecDepth 100000
/-! isinstance of a caught exception of an own class. -/
namespace L2
open PySem PySem.Spec PySem.Calls PyProof.Rows PySem.W PySem.Builtin PySem.Builtin.Str PySem.Builtin.ObjectAttr PySem.Builtin.Getset_descriptor
/-- what the fragment says of an own class of exceptions -/
structure ExcK (K : PySem.W.Frag) (C : Addr) : Prop where
  ga : findIn K (.ref C) "__getattribute__" = some (some (.builtin "BaseException.__getattribute__"))
  noga : findIn K (.ref C) "__getattr__" = some none
  cls : findIn K (.ref C) "__class__" = some (some (.builtin "object.__class__"))
  get : specialIn K (.builtin "object.__class__") "__get__" = some (some (.builtin "getset_descriptor.__get__"))
  takes : takesIn K (.builtin "object.__class__") = some true
  base : mroIn K C (.type "BaseException") = some true
  obj : mroIn K C (.type "object") = some true
theorem ExcK.isC {K : PySem.W.Frag} {C : Addr} (k : ExcK K C) : (clsIn K C).isSome = true := by
  obtain ⟨cd, e, _⟩ := Option.bind_eq_some_iff.mp k.obj
  rw [e]
  rfl
/-- an exception of the class at C stands at e -/
def ExcAt (e C : Addr) (h : Heap) : Prop := ∃ (oe : Obj) (vs : Array Value), h.get? e = some oe ∧ oe.cls = .ref C ∧ oe.data = .fields vs
section
variable {prog : Program} {w : World} {A : Around} {E : Value → Shared → Prop} {s : Shared} {K : PySem.W.Frag} {e C : Addr}
theorem ExcAt.ty {M : Model} {h : Heap} (p : ExcAt e C h) : Looks M h (typeOf (.ref e)) (.ref C) := by
  obtain ⟨oe, vs, h1, h2, _⟩ := p
  exact h2 ▸ (Looks.ld h1).andThen .now
theorem excls_get {tp : Value} {R : Result → Shared → Prop} (X : K.In s.heap) (p : ExcAt e C s.heap) (hm : mroIn K C (.type "object") = some true) (h : R (.ok (.ret (.ref C))) s) :
    codeAny (model prog w) A (.call (.builtin "getset_descriptor.__get__") ⟨[.builtin "object.__class__", .ref e, tp], []⟩) R s := by
  obtain ⟨hh, g, dr, t, os⟩ := s
  have La := p.ty (M := model prog w)
  have Lb := looks_mroIn (M := model prog w) X hm
  refine codeAny_call_builtin KF.slot_gs.plain KF.entry_gs
    (KF.slot_gs.check _ _ _ _ _ _ _ _ KF.type_class (KF.args_gs _ _ _) ?_)
  unfold Builtin.«getset_descriptor.__get__»
  unfold descrGet
  rw [dga_obj]
  refine wpAny_bind (wpAny_pure ?_)
  unfold descrGetter descrCheckInstance descrNameAndClass
  unfold isInstance
  simp only [KF.owner_class]
  repeat lk
  refine ⟨Code.quiet_builtin _ (by decide +kernel), ?_⟩
  refine codeAny_builtin KF.entry_class ?_
  unfold Builtin.«object.__class__»
  unfold shownTypeOf
  repeat lk
  exact h
theorem excls_find {M : Model} {h : Heap} (X : K.In h) (k : ExcK K C) : Looks M h (Builtin.ObjectAttr.find (.ref e) (.ref C) "__class__") (.bind (.builtin "getset_descriptor.__get__") (.builtin "object.__class__")) := by
  have La := looks_findIn (M := M) X k.cls
  have Lb : Looks M h (Builtin.ObjectAttr.getOf (some (.builtin "object.__class__"))) (some (.builtin "getset_descriptor.__get__")) := looks_specialIn X k.get
  have Lc := looks_takesIn (M := M) X k.takes
  have Ld : Looks M h (Builtin.ObjectAttr.dataDescriptor? (some (.builtin "object.__class__")) (some (.builtin "getset_descriptor.__get__"))) (some (.builtin "getset_descriptor.__get__", .builtin "object.__class__")) := Lc.andThen .now
  exact La.andThen (Lb.andThen (Ld.andThen (Looks.tag .now)))
theorem excls_attr {Q : Option Value → Shared → Prop} (X : K.In s.heap) (p : ExcAt e C s.heap) (k : ExcK K C) (h : Q (some (.ref C)) { s with toks := s.toks + 1 }) : wpAny (model prog w) A (getAttr? (.ref e) "__class__") Q E s := by
  obtain ⟨hh, g, d, t, os⟩ := s
  have L0 := p.ty (M := model prog w)
  have L1 := looks_findIn (M := model prog w) X k.ga
  have L2 := looks_findIn (M := model prog w) X k.noga
  have L3 := excls_find (M := model prog w) (e := e) X k
  have L4 := looks_mroIn (M := model prog w) X k.base
  have hk : builtinKind "BaseException.__getattribute__" = some .slot := by decide +kernel
  have hsp : splitId "BaseException.__getattribute__" = some ("BaseException", "__getattribute__") := by decide +kernel
  have ha := F.args_bexc_ga (.ref e) (.str "__class__" t)
  unfold getAttr? getAttrBy? getAttrBy
  refine wpAny_bind (wpAny_mkText (wpAny_bind (wpAny_attempt (wpAny_holding (wpAny_bind (L0.at (wpAny_bind (L1.at ?_))))))))
  show wpAny _ _ (getAttrByItsOwn (.ref e) (.str "__class__" t) (.ref C) (.builtin "BaseException.__getattribute__") false false) _ _ _
  unfold getAttrByItsOwn
  refine wpAny_bind ?_
  show wpAny _ _ (typeLookup (.ref C) "__getattr__") _ _ _
  refine L2.at (wpAny_bind (wpAny_attempt (wpAny_holding ?_)))
  show wpAny _ _ (boundAndCalled (.builtin "BaseException.__getattribute__") (.ref e) (.str "__class__" t)) _ _ _
  unfold boundAndCalled
  refine wpAny_bind (wpAny_of_eq (F.excAttr_ValueError.ga.bind (.ref e)) ?_)
  refine wpAny_call (codeAny_call_builtin F.excAttr_ValueError.ga.plain F.entry_bexc_ga ?_)
  simp only [checkBuiltinCall, hk, hsp]
  refine wpAny_bind ?_
  unfold isInstance
  repeat (first | lk | wp_step)
  show wpAny _ _ (run (Code.call (.builtin "getset_descriptor.__get__") ⟨[.builtin "object.__class__", .ref e, .ref C], []⟩) none) _ _ _
  refine wpAny_run ?_
  refine excls_get (s := ⟨hh, g, d, t + 1, os⟩) X p k.obj ?_
  refine wpAny_pure (wpAny_pure ?_)
  exact wpAny_pure (wpAny_pure h)
theorem kitx_exc (k : ExcK K C) : KitX K (.ref e) (.ref C) (ExcAt e C) where
  ty := fun _ _ _ p => p.ty
  it := fun _ _ X _ => by
    have z := k.isC
    unfold clsIn at z
    split at z
    · rename_i ho
      intro A' Q' E' s' j q
      unfold isType loadHead
      exact wpAny_bind (wpAny_loadPart (j _ _ (X _ _ ho)) (wpAny_pure q))
    · cases z
  ne := fun h tp dd its n sl X htp => by
    have z := k.isC
    refine Bool.eq_false_iff.mpr fun q => ?_
    cases Value.ref.inj (beq_iff_eq.mp q)
    unfold clsIn at z
    split at z
    · rename_i ho
      have y := (X _ _ ho).symm.trans htp
      cases y
    · cases z
  ca := fun X p q => excls_attr X p k q
end
/-! ### the rules in short -/
def rIsX (K : PySem.W.Frag) : List V → Hp → VK → Prop := fun xs H Q => ∃ (e C : Addr) (v : V) (b : Bool), xs = [.ref e, v] ∧ H e = some (excO e (.ref C)) ∧ ExcK K C ∧ ((∃ D : Addr, v = .ref D ∧ kitOne K (.ref C) (.ref D) = some b) ∨ ∃ T : String, v = .ty T ∧ kitOne K (.ref C) (.type T) = some b) ∧ Q (.bl b) H
section
variable {X : Cx} {x : Str} {pos p : Pos}
theorem call_isX : CallR X (.builtin "isinstance") (rIsX X.K) := by
  intro pins s σ H xs us Q I r h
  obtain ⟨e, C, v, b, rfl, he, k, hv, q⟩ := h
  obtain ⟨u, u2, rfl, rx, rv⟩ := r.two
  cases (show u = Value.ref e from rx)
  have p : ExcAt e C s.heap := excO_get I.hok he
  rcases hv with ⟨D, rfl, hk⟩ | ⟨T, rfl, hk⟩
  · cases (show u2 = Value.ref D from rv)
    exact wpAny_with_toks (n := 1) I.tk (kia_one (kitx_exc k) I.kIn p hk (fun z => nomatch z) fun tk htk => ⟨.bl b, H, I.tok _ htk, rfl, q⟩)
  · cases (show u2 = Value.type T from rv)
    exact wpAny_with_toks (n := 1) I.tk (kia_one (kitx_exc k) I.kIn p hk (fun z => nomatch z) fun tk htk => ⟨.bl b, H, I.tok _ htk, rfl, q⟩)
theorem xgC {C : Addr} (hm : X.mg x = some (.ref C)) (hg : Gl X x := by exact rfl) (hd : (x == ("__debug__" : Str)) = false := by decide) : XE X (.Name x pos) (tC (.ref C)) := ⟨pe_glob hg hm rfl hd⟩
theorem Room.hm {k : Nat} {A : Around} {e : Option Value} (r : Room k A) : RoomH k (A.mark e) := ⟨r.dp, r.un⟩
theorem xraise {C : Addr} {E : XK} {e0 : Expr} {rest : List Expr} {ta : TA} {np cpos : Pos} (O : OwnX X.K C) (hm : X.mg x = some (.ref C)) (hc : X.calm = true) (hE : Raises X E) (ha : XA X (e0 :: rest) ta) (hg : Gl X x := by exact rfl) (hdb : (x == ("__debug__" : Str)) = false := by decide)
    (hst : noStars (e0 :: rest) = true := by rfl) : XS X (.Raise (some (.Call (.Name x np) (e0 :: rest) [] cpos)) none pos) (tRaise C E ta) := by
  obtain ⟨h1, h2⟩ := stars2 hst
  exact ⟨ps_raise O hm hc hE ha.h hg hdb (star_cons h1) (stars_any h2)⟩
theorem xtry {n : Str} {C : Addr} {i : Nat} {body suite : List Stmt} {b₀ : Stmt} {np hpos : Pos} {tb : TSx} {th : TS} (hex : X.ex = []) (hst : X.stack = X.env :: X.outer) (hfr : X.env.frame = some X.env.locals) (hN : X.N.Nodup) (hi : X.N[i]? = some n)
    (hl : X.env.scope.names.lookup n = some .local) (hm : X.mg x = some (.ref C)) (hb : XBx X body tb) (hs : ∀ e, XB (XM X e).nox (b₀ :: suite) th) (hg : Gl X x := by exact rfl) (hdb : (x == ("__debug__" : Str)) = false := by decide) :
    XS X (.Try body [.ExceptHandler (some (.Name x np)) (some n) (b₀ :: suite) hpos] [] [] pos) (tTry X.K C i tb th) := ⟨ps_try hex hst hfr hN hi hl hm hb hs hg hdb⟩
/-! ### the empty dict, a text many times -/
def tDict0 : TE := fun _ H Q => ∀ p, H p = none → Q (.ref p) (upd H p (.dK []))
theorem xdict0 : XE X (.Dict [] [] pos) tDict0 := by
  refine ⟨fun pins s σ H Q I h => wpAny_Dict_empty ?_⟩
  have big : 1 < s.heap.objs.size := by
    obtain ⟨o, es, ep, ho, _⟩ := I.mod.glob
    exact Nat.lt_of_le_of_lt (by decide : 1 ≤ mainGlobals) (Heap.lt_size (I.bk _ _ ho))
  refine ⟨.ref s.heap.objs.size, _, I.laid (a := s.heap.objs.size) (o := .dK []) (t' := s.toks) (fun _ _ q => Heap.get?_push_of_some _ q) (Nat.le_refl _) ⟨Nat.zero_le _, ?_, [], .nil, Heap.DictOf.new s.heap⟩, rfl, h _ (I.hok.fresh (Nat.le_refl _))⟩
  exact beq_eq_false_iff_ne.mpr (show s.heap.objs.size ≠ 1 by omega)
theorem op_mulS : OpR X (binaryOp .Mult) (fun x y H Q => ∃ z n, x = .str z ∧ y = .int n ∧ z.length ≤ 1000 ∧ 0 ≤ n ∧ n ≤ 1000 ∧ Q (.str (Txt.mul z n)) H) := by
  intro pins s σ H x y v u Q I rx ry h
  obtain ⟨z, n, rfl, rfl, hz, h0, h1, q⟩ := h
  obtain ⟨t, rfl⟩ := rx
  obtain ⟨t', rfl⟩ := ry
  refine wpAny_with_toks (n := 1) I.tk (SB.mul ?_ fun t' k htk => ⟨.str (Txt.mul z n), H, I.tok _ htk, ⟨_, rfl⟩, q⟩)
  have hs : sizeLine = 16777216 := sizeLine_eq
  have hm : (z.length : Int) * n ≤ 1000 * 1000 := Int.mul_le_mul (by omega) h1 h0 (by omega)
  have hm2 : z.length * n.toNat ≤ 1000 * 1000 := Nat.mul_le_mul hz (by omega)
  refine ⟨?_, fun _ _ => ?_, fun _ _ => ?_⟩
  · have e1 : decide (n < -(2 ^ 63 : Int)) = false := decide_eq_false (by omega)
    have e2 : decide (n ≥ 2 ^ 63) = false := decide_eq_false (by omega)
    rw [e1, e2]; rfl
  · intro q
    rename_i a _
    have hp : 0 < n := by omega
    have h9 : (z.length : Int) ≤ (2 ^ 63 - 1 : Int) / n := (Int.le_ediv_iff_mul_le hp).mpr (by omega)
    omega
  · unfold tooLong
    exact decide_eq_false (by omega)
end
end L2

set_option Elab.async false
set_option linter.all false
set_option maxRecDepth 100000
/-! rules for a comprehension's block that name the outer context's fragment -/
namespace L2
open PySem PySem.Spec PyProof.Rows
section
variable {X : Cx} {scope : Scope} {cl : List (Str × Addr)} {C : Addr} {N' : List Str} {fp : List Addr} {s : Shared} {H : Hp} {o e : Expr} {es : List Expr} {to : TE} {t : TA} {apos cpos : Pos}
theorem mt_joinC : MtR (compX X scope cl C N' fp s H) "str.join" (rJoin X.K) := mt_join (X := compX X scope cl C N' fp s H)
theorem xmC {name : Str} {T id : String} {r : V → List V → Hp → VK → Prop} (pa : PlainAttrs T) (slot : Slot T name id) (hty : typeOf (.builtin id) = pure (.type "method_descriptor")) (hm : MtR (compX X scope cl C N' fp s H) id r)
    (ho : XE (compX X scope cl C N' fp s H) o to) (ha : XA (compX X scope cl C N' fp s H) (e :: es) t) (hb : plainBase o = true := by rfl) (hst : noStars (e :: es) = true := by rfl)
    (hl : decide ((e :: es).length + ([] : List Keyword).length + (if ([] : List Keyword).isEmpty then 0 else 1) < 30) = true := by rfl) (hline : (apos.endLine == cpos.line) = true := by rfl) :
    XE (compX X scope cl C N' fp s H) (.Call (.Attribute o name apos) (e :: es) [] cpos) (tBM X.K T r to t) := xm (X := compX X scope cl C N' fp s H) pa slot hty hm ho ha hb hst hl hline
theorem op_eqDM {X : Cx} {e : Addr} (hu : X.A.units + 64 < cLine) : OpR (XM X e).nox (compareOp .Eq) (rEqD X.K true) := op_eqD (X := (XM X e).nox) hu
end
end L2

set_option Elab.async false
set_option linter.all false
set_option maxRecDepth 100000
/-! Closures: a def within a def, what it captures, a call with it, a call of it. -/
namespace L2
open PySem PySem.Spec PyProof.Rows

/-! ### the closure's body -/
structure CloScope (N ps fr : List Str) (sc : Scope) : Prop where
  kind : sc.kind = .function
  co : sc.isCoroutine = false
  gen : sc.isGenerator = false
  nd : N.Nodup
  pre : N.take (ps.length + fr.length) = ps ++ fr
  par : ∀ x ∈ ps, sc.names.lookup x = some .local
  nocell : ∀ y ∈ sc.names, y.2 ≠ .cell

/-- the cells that it captures, and their values -/
structure CloCells (base : Heap) (cl : List (Str × Addr)) (sc : Scope) (fr : List Str) (fvs : List V) : Prop where
  cell : ∀ x c, cl.lookup x = some c → ∃ v, base.IsCell c v
  inj : ∀ x y c, cl.lookup x = some c → cl.lookup y = some c → x = y
  has : ∀ x, sc.names.lookup x = some .free → ∃ c, cl.lookup x = some c
  len : fvs.length = fr.length
  val : ∀ (i : Nat) x v, fr[i]? = some x → fvs[i]? = some v → sc.names.lookup x = some .free ∧ ∃ u c, RelV v u ∧ cl.lookup x = some c ∧ base.IsCell c (some u)

def cxC (CX : CXT) (P : Program) (w : World) (K : PySem.W.Frag) (mg : Str → Option Value) (base : Heap) (N : List Str) (qual : Str) (scope : Scope) (f : Addr) (cd : Value) (cl : List (Str × Addr)) (A : Around) (outer : List Env) (s : Shared) (H : Hp) (E : XK) : Cx where
  prog := P
  w := w
  K := K
  mg := mg
  base := base
  A := A.deeper (PySem.W.envX qual scope s.heap.objs.size f cd cl)
  N := N
  s₀ := s
  H₀ := H
  env := PySem.W.envX qual scope s.heap.objs.size f cd cl
  outer := outer
  stack := PySem.W.envX qual scope s.heap.objs.size f cd cl :: outer
  ex := []
  calm := true
  fn := fun _ => false
  pn := []
  xe := fun e s' => wpAny (model P w) (A.deeper (PySem.W.envX qual scope s.heap.objs.size f cd cl)) (leaving (PySem.W.envX qual scope s.heap.objs.size f cd cl) e) (fun _ s'' => CX outer H s E e s'') (fun e' s'' => CX outer H s E e' s'') s'

theorem rev_lookup_zip {x : Str} {u : Value} : ∀ {ps : List Str} {us : List Value} {i : Nat}, ps.Nodup → ps[i]? = some x → us[i]? = some u → (ps.zip us).reverse.lookup x = some u := by
  have out : ∀ (l : List (Str × Value)) (r : List (Str × Value)), (∀ v, (x, v) ∉ l) → (l ++ r).lookup x = r.lookup x := by
    intro l
    induction l with
    | nil => intro r _; rfl
    | cons a l ih =>
      intro r h
      obtain ⟨y, v⟩ := a
      have hy : (x == y) = false := by
        apply Bool.eq_false_iff.mpr
        intro z
        have z' := eq_of_beq z
        subst z'
        exact h v List.mem_cons_self
      rw [List.cons_append, List.lookup_cons, hy]
      exact ih r fun v hv => h v (List.mem_cons_of_mem _ hv)
  intro ps
  induction ps with
  | nil => intro us i _ h; simp at h
  | cons p ps ih =>
    intro us i nd h1 h2
    cases us with
    | nil => simp at h2
    | cons w us =>
      rw [List.zip_cons_cons, List.reverse_cons]
      cases i with
      | zero =>
        simp at h1 h2
        subst h1; subst h2
        rw [out _ _ fun v hv => (List.nodup_cons.mp nd).1 (List.of_mem_zip (List.mem_reverse.mp hv)).1]
        rw [List.lookup_cons]; simp
      | succ i =>
        have q := ih (us := us) (i := i) (List.nodup_cons.mp nd).2 (by simpa using h1) (by simpa using h2)
        have app : ∀ (l r : List (Str × Value)) (v : Value), l.lookup x = some v → (l ++ r).lookup x = some v := by
          intro l
          induction l with
          | nil => intro r v h; cases h
          | cons a l ih =>
            intro r v h
            obtain ⟨y, z⟩ := a
            rw [List.cons_append, List.lookup_cons] at *
            cases hb : x == y with
            | true => rw [hb] at h; exact h
            | false => rw [hb] at h; exact ih r v h
        exact app _ _ _ q

theorem inv_startC {CX : CXT} {P : Program} {w : World} {K : PySem.W.Frag} {mg : Str → Option Value} {base : Heap} {N ps fr : List Str} {qual : Str} {scope : Scope} {f : Addr} {cd : Value} {cl : List (Str × Addr)} {A : Around} {outer : List Env} {s : Shared} {h₁ : Heap} {tk : Nat} {H : Hp} {E : XK} {us : List Value} {vs fvs : List V}
    (S : CloScope N ps fr scope) (C : CloCells base cl scope fr fvs) (hd : A.handled = none) (e0 : Env0 P w K mg base A outer s H) (hl : vs.length = ps.length) (r : Vals vs us) (htk : 0 < tk)
    (hns : h₁.Ns s.heap.objs.size (fun x => (ps.zip us).reverse.lookup x)) (hk : ∀ b o, s.heap.get? b = some o → h₁.get? b = some o) :
    Inv (cxC CX P w K mg base N qual scope f cd cl A outer s H E) [] (start N (vs ++ fvs)) H { s with heap := h₁, toks := tk } := by
  have hpl : ps.length + fr.length ≤ N.length := by have := congrArg List.length S.pre; rw [List.length_take, List.length_append] at this; omega
  have noA : ∀ b : Addr, b ∉ (cxC CX P w K mg base N qual scope f cd cl A outer s H E).ex := fun b z => absurd (show b ∈ ([] : List Addr) from z) (by simp)
  have hkb : ∀ b o, base.get? b = some o → h₁.get? b = some o := fun b o e => hk b o (e0.bs b o e).1
  refine ⟨⟨e0.mod, S.kind, rfl, rfl, Nat.le_refl _, C.inj, fun y hy => ?_, fun y c z _ => absurd (show false = true from z) Bool.false_ne_true, fun _ => hd, Around.frames_deeper e0.frames, .inr ⟨rfl, rfl⟩, fun b z => absurd z (noA b), e0.bs, e0.bsz, fun b _ _ => noA b, fun b z => absurd z (noA b), e0.funs, e0.frf⟩,
    rfl, e0.bare, Un.kept hk, ⟨_, hns, fun i y v h1 h2 h3 => ?_⟩, fun y c h => ?_, e0.hok.fresh (Nat.le_refl _), fun y c h => ?_, fun p hp => absurd (show p ∈ ([] : List (Addr × Obj)) from hp) (by simp), e0.hok.kept hk, ?_, htk⟩
  · have hy : scope.names.lookup y = some .cell ∨ scope.names.lookup y = some .free := hy
    rcases hy with hy | hy
    · exact absurd rfl (S.nocell _ (PySem.mem_of_lookup hy))
    · exact C.has y hy
  · have hi : i < (vs ++ fvs).length := by
      unfold start at h2
      by_cases hi : i < (vs ++ fvs).length
      · exact hi
      · rw [List.getElem?_append_right (by simpa using hi)] at h2
        rw [List.getElem?_replicate] at h2
        split at h2 <;> cases h2
    have ha : (vs ++ fvs)[i]? = some v := by
      unfold start at h2
      rw [List.getElem?_append_left (by simpa using hi), List.getElem?_map] at h2
      cases e : (vs ++ fvs)[i]? with
      | none => rw [e] at h2; cases h2
      | some a => rw [e] at h2; cases h2; rfl
    have hlen : (vs ++ fvs).length = ps.length + fr.length := by rw [List.length_append, hl, C.len]
    have hp : (ps ++ fr)[i]? = some y := by
      rw [← S.pre, List.getElem?_take_of_lt (by omega)]; exact h1
    have ndP : (ps ++ fr).Nodup := by rw [← S.pre]; exact S.nd.sublist (List.take_sublist _ _)
    by_cases hip : i < ps.length
    · rw [List.getElem?_append_left hip] at hp
      rw [List.getElem?_append_left (by omega)] at ha
      obtain ⟨u, hu, rv⟩ := r.get ha
      exact ⟨u, rv, .inl ⟨S.par y (List.mem_of_getElem? hp), rev_lookup_zip (List.nodup_append.mp ndP).1 hp hu⟩⟩
    · rw [List.getElem?_append_right (by omega)] at hp
      rw [List.getElem?_append_right (by omega), hl] at ha
      obtain ⟨hf, u, c, rv, hc, z⟩ := C.val _ y v hp ha
      exact ⟨u, rv, .inr ⟨.inr hf, c, hc, z.keeps hkb⟩⟩
  · obtain ⟨v, z⟩ := C.cell y c h
    exact ⟨v, z.keeps hkb⟩
  · obtain ⟨v, o, z, _⟩ := C.cell y c h
    exact (e0.bs _ _ z).2
  · unfold start
    show _ = N.length
    have hlen : (vs ++ fvs).length = ps.length + fr.length := by rw [List.length_append, hl, C.len]
    rw [List.length_append, List.length_map, List.length_replicate]
    omega

/-- THE RULE: a closure that stands in the base, by its body -/
theorem fn_ofC {CX : CXT} {P : Program} {w : World} {K : PySem.W.Frag} {mg : Str → Option Value} {base : Heap} {k : Nat} {f : Addr} {name qual : Str} {params : Arguments} {body : List Stmt} {scope : Scope} {cl : List (Str × Addr)} {dV kV doc pm cdv ct oc : Value} {an od : Option Addr}
    {osl : Array (Option Value)} {N ps fr : List Str} {fvs : List V} {sp : Sp} (lk : base.get? f = some ⟨oc, od, .func (PySem.W.fnX name qual params body scope cl dV kV doc pm an cdv ct), osl⟩) (hcd : base.CodeRec cdv qual) (S : CloScope N ps fr scope) (C : CloCells base cl scope fr fvs)
    (len : ∀ vs H Q E, sp vs H Q E → vs.length = ps.length)
    (hbody : ∀ (A : Around) (outer : List Env) (s : Shared) (H : Hp) (vs : List V) (Q : VK) (E : XK), Room k (A.deeper (PySem.W.envX qual scope s.heap.objs.size f cdv cl)) → sp vs H Q E →
      ∃ t, PSs (cxC CX P w K mg base N qual scope f cdv cl A outer s H E) body t ∧ t { nx := fun _ H' => Q .non H', rt := Q } (start N (vs ++ fvs)) H) :
    FnOk P w K mg base CX (k + 1) f (PySem.W.fnX name qual params body scope cl dV kV doc pm an cdv ct) ps sp := by
  refine ⟨len, fun A outer s H args us vs Q E hr e0 hb r hsp => ?_⟩
  have hl := len _ _ _ _ hsp
  have hkb : ∀ b o, base.get? b = some o → s.heap.get? b = some o := fun b o e => (e0.bs b o e).1
  have lim : s.heap.NoLimit := e0.mod.nolimit.keeps hkb
  refine codeAny_call_def (fd := PySem.W.fnX name qual params body scope cl dV kV doc pm an cdv ct) (body := body) (binds := ps.zip us) hr.depth (hkb _ _ lk) rfl lim (hcd.keeps hkb) rfl hb S.nocell (fun x hx => S.par _ (List.of_mem_zip hx).1) (fun h₁ hns hk₁ => ?_) S.co S.gen S.kind
  obtain ⟨t, ht, hq⟩ := hbody A outer s H vs Q E (hr.deeper _) hsp
  have I : Inv (cxC CX P w K mg base N qual scope f cdv cl A outer s H E) [] (start N (vs ++ fvs)) H { s with heap := h₁, toks := s.toks + (ps.zip us).length } :=
    inv_startC S C hr.hd e0 hl r (Nat.lt_of_lt_of_le e0.tk (Nat.le_add_right _ _)) hns hk₁
  refine wpAny_mono (ht [] _ (start N (vs ++ fvs)) H _ I hq) (fun fl s' hs => ?_) fun e s' hs => hs
  have fin : ∀ {σ' : St} {H' : Hp} {v : V} {u : Value}, Inv (cxC CX P w K mg base N qual scope f cdv cl A outer s H E) [] σ' H' s' → RelV v u → Q v H' → CE outer P w H s Q u s' :=
    fun {σ' H' v u} J rv q => ⟨v, H', J.os, J.bare, J.base, J.hok, J.tk, rv, q⟩
  cases fl with
  | ret u =>
    obtain ⟨v, σ', H', J, rv, q⟩ := hs
    exact fin J rv q
  | next =>
    obtain ⟨σ', H', J, q⟩ := hs
    exact fin (v := V.non) (u := Value.none) J rfl q
  | brk =>
    obtain ⟨_, _, _, q⟩ := hs
    exact False.elim q
  | cont =>
    obtain ⟨_, _, _, q⟩ := hs
    exact False.elim q
end L2

set_option Elab.async false
set_option linter.all false
set_option maxRecDepth 100000
/-! A def within a def: the statement. -/
namespace L2
open PySem PySem.Spec PyProof.Rows

/-! ### what it captures -/
def closL (env : Env) : List (Str × NameKind) → List (Str × Addr) → List (Str × Addr)
  | [], acc => acc
  | (n, k) :: r, acc => if k == .free then (match env.cells.lookup n with | some c => closL env r ((n, c) :: acc) | none => closL env r acc) else closL env r acc
theorem closureFor_of {env : Env} {sc : Scope} (h : ∀ n, (n, NameKind.free) ∈ sc.names → ∃ c, env.cells.lookup n = some c) : closureFor sc env = pure (closL env sc.names []) := by
  have go : ∀ (l : List (Str × NameKind)) (acc : List (Str × Addr)), (∀ n, (n, NameKind.free) ∈ l → ∃ c, env.cells.lookup n = some c) →
      (forIn l acc fun (x : Str × NameKind) (cs : List (Str × Addr)) => (if (x.2 == .free) = true then do let __do_lift ← cellOf env x.1; pure (ForInStep.yield ((x.1, __do_lift) :: cs)) else pure (ForInStep.yield cs) : Sem (ForInStep (List (Str × Addr))))) = pure (closL env l acc) := by
    intro l
    induction l with
    | nil => intro acc _; rfl
    | cons a l ih =>
      intro acc hl
      obtain ⟨n, k⟩ := a
      rw [List.forIn_cons]
      unfold closL
      by_cases hk : (k == NameKind.free) = true
      · have hk' : k = NameKind.free := eq_of_beq hk
        subst hk'
        obtain ⟨c, hc⟩ := hl n List.mem_cons_self
        simp only [hk, if_true, cellOf, hc, pure_bind]
        exact ih _ fun m hm => hl m (List.mem_cons_of_mem _ hm)
      · simp only [hk, if_false, pure_bind, Bool.false_eq_true]
        exact ih _ fun m hm => hl m (List.mem_cons_of_mem _ hm)
  unfold closureFor
  show (forIn sc.names [] _ >>= pure) = _
  rw [bind_pure]
  exact go sc.names [] h
theorem closL_sub {env : Env} {x : Str} {c : Addr} : ∀ {l : List (Str × NameKind)} {acc : List (Str × Addr)}, (x, c) ∈ closL env l acc → (x, c) ∈ acc ∨ env.cells.lookup x = some c
  | [], acc, h => .inl h
  | (n, k) :: r, acc, h => by
    unfold closL at h
    split at h
    · split at h
      · rename_i c' hc
        rcases closL_sub h with z | z
        · rcases List.mem_cons.mp z with z | z
          · cases z; exact .inr hc
          · exact .inl z
        · exact .inr z
      · exact closL_sub h
    · exact closL_sub h
theorem closL_acc {env : Env} {x : Str} {c : Addr} : ∀ {l : List (Str × NameKind)} {acc : List (Str × Addr)}, acc.lookup x = some c → env.cells.lookup x = some c → (closL env l acc).lookup x = some c
  | [], acc, h, _ => h
  | (n, k) :: r, acc, h, he => by
    unfold closL
    split
    · split
      · rename_i c' hc
        refine closL_acc ?_ he
        rw [List.lookup_cons]
        cases hb : x == n with
        | true =>
          have := eq_of_beq hb
          subst this
          rw [he] at hc
          cases hc
          rfl
        | false => exact h
      · exact closL_acc h he
    · exact closL_acc h he
theorem closL_get {env : Env} {x : Str} {c : Addr} (he : env.cells.lookup x = some c) : ∀ {l : List (Str × NameKind)} {acc : List (Str × Addr)}, (x, NameKind.free) ∈ l → (closL env l acc).lookup x = some c
  | [], _, h => by cases h
  | (n, k) :: r, acc, h => by
    unfold closL
    rcases List.mem_cons.mp h with z | z
    · cases z
      rw [if_pos (by rfl), he]
      refine closL_acc ?_ he
      rw [List.lookup_cons]; simp
    · split
      · split
        · exact closL_get he z
        · exact closL_get he z
      · exact closL_get he z

/-! ### the table of a def's codes -/
abbrev codeExt (c : Addr) (q : Str) : HO := .ext fun h => h.CodeRec (.ref c) q
abbrev fnExt (g : Addr) (o : Obj) : HO := .ext fun h => h.get? g = some o
theorem codeExt_ok {P : Program} {w : World} {H : Hp} {h : Heap} {c : Addr} {q : Str} (x : h.CodeRec (.ref c) q) : ObjOk P w H h c (codeExt c q) := by
  refine ⟨x, ?_, fun h1 h2 y k => ?_⟩
  · obtain ⟨c', o, vs, t, e, g, _⟩ := x
    cases e
    exact ⟨o, g⟩
  · obtain ⟨c', o, vs, t, e, g, r⟩ := y
    cases e
    exact ⟨c, o, vs, t, rfl, k o g, r⟩
theorem fnExt_ok {P : Program} {w : World} {H : Hp} {h : Heap} {g : Addr} {o : Obj} (x : h.get? g = some o) : ObjOk P w H h g (fnExt g o) := ⟨x, ⟨o, x⟩, fun h1 h2 y k => k o y⟩

/-- the codes of the defs at the places qs, as far as they were made -/
def Tab (P : Addr) (qs : List (Pos × Str)) (H : Hp) : Prop :=
  ∃ ps, H P = some (.tbl ps) ∧ TriplesOk ps.toList ∧ ∀ q ∈ qs, codeAmong q.1 ps.toList = none ∨ ∃ c, codeAmong q.1 ps.toList = some (.ref c) ∧ H c = some (codeExt c q.2)
theorem Tab.new {P : Addr} {qs : List (Pos × Str)} {H : Hp} (h : H P = some (.tbl #[])) : Tab P qs H := ⟨#[], h, trivial, fun _ _ => .inl rfl⟩
theorem Tab.keep {P : Addr} {qs : List (Pos × Str)} {H H' : Hp} (t : Tab P qs H) (k : ∀ b o, H b = some o → H' b = some o) : Tab P qs H' := by
  obtain ⟨ps, a, b, c⟩ := t
  refine ⟨ps, k _ _ a, b, fun q hq => (c q hq).imp id fun ⟨d, e, f⟩ => ⟨d, e, k _ _ f⟩⟩

theorem Tab.keepW {P : Addr} {qs : List (Pos × Str)} {H H' : Hp} (t : Tab P qs H) (k : ∀ b o, (∀ xs, o ≠ .lst xs) → H b = some o → H' b = some o) : Tab P qs H' := by
  obtain ⟨ps, a, b, c⟩ := t
  refine ⟨ps, k _ _ (fun _ z => nomatch z) a, b, fun q hq => (c q hq).imp id fun ⟨d, e, f⟩ => ⟨d, e, k _ _ (fun _ z => nomatch z) f⟩⟩
theorem codeAmong_app {pos : Pos} {a b : Int} {c : Value} (l : List Value) (h : TriplesOk l) :
    codeAmong pos (l ++ [rawInt a, rawInt b, c]) = match codeAmong pos l with | some v => some v | none => if (a == pos.line && b == pos.col) = true then some c else none := by
  fun_induction TriplesOk l with
  | case1 => simp [codeAmong, rawInt]
  | case2 a' t b' u x rest ih =>
    simp only [List.cons_append, codeAmong]
    split
    · rfl
    · exact ih h
  | case3 l h1 h2 => exact h.elim

/-- a cell that no frame has any more -/
abbrev cellExt (c : Addr) (v : V) : HO := .ext fun h => ∃ u, RelV v u ∧ h.IsCell c (some u)
theorem cellExt_ok {P : Program} {w : World} {H : Hp} {h : Heap} {c : Addr} {v : V} {u : Value} (r : RelV v u) (x : h.IsCell c (some u)) : ObjOk P w H h c (cellExt c v) := by
  refine ⟨⟨u, r, x⟩, ?_, fun h1 h2 ⟨u', r', o, e, q⟩ k => ⟨u', r', o, k o e, q⟩⟩
  obtain ⟨o, e, _⟩ := x
  exact ⟨o, e⟩
/-- a closure: the function, its code, and the cells that it alone has -/
structure Clo where
  g : Addr
  c : Addr
  obj : Obj
  qual : Str
  cs : List (Addr × V)
structure Made (P : Addr) (qs : List (Pos × Str)) (H H' : Hp) (d : Clo) : Prop where
  fn : H' d.g = some (fnExt d.g d.obj)
  cd : H' d.c = some (codeExt d.c d.qual)
  tab : Tab P qs H'
  new : H d.g = none
  ne : d.g ≠ d.c
  keep : ∀ b o, b ≠ P → H b = some o → H' b = some o
  only : ∀ b, H b = none → b ≠ d.g → b ≠ d.c → H' b = none

/-- def g(..): ..: a new function (and, at its first time, its code) -/
def tDef (P : Addr) (qs : List (Pos × Str)) (i : Nat) (mk : Clo → Prop) : TS := fun D σ H => Tab P qs H ∧ ∀ d H', Made P qs H H' d → mk d → D.nx (σ.set i (some (.ref d.g))) H'
/-- the def that runs has its code at c, its table at P -/
structure DefAt (X : Cx) (c P : Addr) : Prop where
  code : X.env.code = .ref c
  hd : PySem.W.CodeHd X.base c P
  bi : X.base.BuiltinsAt X.mg P

theorem BuiltinsAt.keeps' {h h' : Heap} {mg : Str → Option Value} {P : Addr} (x : h.BuiltinsAt mg P) (k : ∀ b o, h.get? b = some o → h'.get? b = some o) : h'.BuiltinsAt mg P :=
  let ⟨bm, o, a1, a2, a3, a4, a5, r⟩ := x; ⟨bm, o, a1, a2, a3, a4, k _ _ a5, r⟩

/-- the function that is made -/
def FnMade (X : Cx) (name : Str) (params : Arguments) (body : List Stmt) (scope : Scope) (d : Clo) : Prop :=
  ∃ doc ct, d.obj = PySem.W.fnMade name (qualnameIn X.env name name) params body scope (closL X.env scope.names []) doc ((X.mg "__name__").getD .none) d.c ct ∧ d.qual = qualnameIn X.env name name ∧ d.cs = []

section
variable {X : Cx} {c P : Addr} {name : Str} {params : Arguments} {body : List Stmt} {scope : Scope} {pos : Pos} {qs : List (Pos × Str)} {i : Nat}
theorem ps_def (T : DefAt X c P) (hcl : ∀ n, (n, NameKind.free) ∈ scope.names → ∃ c, X.env.cells.lookup n = some c) (hq : (pos, qualnameIn X.env name name) ∈ qs) (hqs : ∀ q ∈ qs, q.1.line = pos.line → q.1.col = pos.col → q.2 = qualnameIn X.env name name)
    (hN : X.N.Nodup) (hi : X.N[i]? = some name) (hx : Loc X.env.scope name) (hf : X.fn name = true ∨ X.env.scope.names.lookup name = some .local)
    (hd0 : params.defaults = []) (hk0 : params.kw_defaults = []) (ha : annTrees params none X.env = []) :
    PS X (.FunctionDef name params body [] none [] scope none name pos) (tDef P qs i (FnMade X name params body scope)) := by
  intro pins s σ H D I hw
  obtain ⟨tab, hw⟩ := hw
  obtain ⟨ps, hP, hT, hC⟩ := id tab
  have tk0 := I.tk
  have ePs : s.heap.get? P = some (PySem.W.tabObj ps) := I.hok P _ hP
  have hgs : s.heap.Ns mainGlobals X.mg := I.mod.glob.keeps I.bk
  have hgP : mainGlobals ≠ P := by
    obtain ⟨o, es, ep, e, _⟩ := I.mod.glob
    exact fun z => by have := (I.bs _ _ e).2; rw [z, hP] at this; cases this
  have hhd := T.hd.keeps I.bk
  have hbi := BuiltinsAt.keeps' T.bi I.bk
  have big : ∀ b o, H b = some o → b < s.heap.objs.size := fun b o e => I.hok.lt e
  refine PySem.W.nestDef_K hd0 hk0 ha ?_
  rcases hC _ hq with hnf | ⟨c0, hf0, hc0⟩
  · refine wpAny_with_toks (n := 1) tk0 ?_
    refine PySem.W.makeFunction_K (closureFor_of hcl) I.ok.glob hgs T.code hhd ePs hT hnf hgP hbi fun c' ctv doc h' tk hx' hge hlt hrec htb htk => ?_
    have hgt : s.heap.objs.size ≤ h'.objs.size := Nat.le_trans hge (Nat.le_of_lt hlt)
    have cP : c' ≠ P := Nat.ne_of_gt (Nat.lt_of_lt_of_le (big P _ hP) hge)
    have gP : h'.objs.size ≠ P := Nat.ne_of_gt (Nat.lt_of_lt_of_le (big P _ hP) hgt)
    have gc : h'.objs.size ≠ c' := Nat.ne_of_gt hlt
    have old : ∀ b o, H b = some o → b ≠ c' ∧ b ≠ h'.objs.size := fun b o e => ⟨Nat.ne_of_lt (Nat.lt_of_lt_of_le (big b o e) hge), Nat.ne_of_lt (Nat.lt_of_lt_of_le (big b o e) hgt)⟩
    have H'g : ∀ b, (upd (upd (upd H P (.tbl (ps ++ #[rawInt pos.line, rawInt pos.col, .ref c']))) c' (codeExt c' (qualnameIn X.env name name))) h'.objs.size
      (fnExt h'.objs.size (PySem.W.fnMade name (qualnameIn X.env name name) params body scope (closL X.env scope.names []) doc ((X.mg "__name__").getD .none) c' ctv))) b =
      if b = h'.objs.size then some (fnExt h'.objs.size (PySem.W.fnMade name (qualnameIn X.env name name) params body scope (closL X.env scope.names []) doc ((X.mg "__name__").getD .none) c' ctv)) else
      if b = c' then some (codeExt c' (qualnameIn X.env name name)) else if b = P then some (.tbl (ps ++ #[rawInt pos.line, rawInt pos.col, .ref c'])) else H b := fun b => rfl
    generalize (upd (upd (upd H P (.tbl (ps ++ #[rawInt pos.line, rawInt pos.col, .ref c']))) c' (codeExt c' (qualnameIn X.env name name))) h'.objs.size
      (fnExt h'.objs.size (PySem.W.fnMade name (qualnameIn X.env name name) params body scope (closL X.env scope.names []) doc ((X.mg "__name__").getD .none) c' ctv))) = H' at H'g
    have kp : ∀ b o, b ≠ P → H b = some o → H' b = some o := fun b o nP e => by
      rw [H'g, if_neg (old b o e).2, if_neg (old b o e).1, if_neg nP]; exact e
    have none' : ∀ b, H b = none → b ≠ h'.objs.size → b ≠ c' → H' b = none := fun b e n1 n2 => by
      rw [H'g, if_neg n1, if_neg n2, if_neg (fun z => by rw [z, hP] at e; cases e)]; exact e
    have kH : ∀ b o, b ≠ P → s.heap.get? b = some o → (h'.push (PySem.W.fnMade name (qualnameIn X.env name name) params body scope (closL X.env scope.names []) doc ((X.mg "__name__").getD .none) c' ctv)).get? b = some o :=
      fun b o nP e => Heap.get?_push_of_some _ (hx' b o nP e)
    have nP' : ∀ b, H b = none → b ≠ P := fun b e z => by rw [z, hP] at e; cases e
    have J : Inv X pins σ H' { s with heap := h'.push (PySem.W.fnMade name (qualnameIn X.env name name) params body scope (closL X.env scope.names []) doc ((X.mg "__name__").getD .none) c' ctv), toks := tk } := by
      refine I.un ⟨fun b o e n _ _ => kH b o (nP' b n) e, fun b o e n _ _ => ⟨o.slots, kH b o (nP' b n) e⟩, fun b o e n _ => ?_, fun b o e _ => ?_, fun b xs e => ?_, fun b o u e => ?_, fun b qs' e => ?_⟩ (fun b o e => ?_) htk
      · have := Heap.lt_size e
        exact none' b n (Nat.ne_of_lt (Nat.lt_of_lt_of_le this hgt)) (Nat.ne_of_lt (Nat.lt_of_lt_of_le this hge))
      · by_cases z : b = P
        · subst z; exact ⟨_, Heap.get?_push_of_some _ htb⟩
        · exact ⟨o, kH b o z e⟩
      · exact kp b _ (fun z => by rw [z, hP] at e; cases e) e
      · exact kp b _ (fun z => by rw [z, hP] at e; cases e) e
      · by_cases z : b = P
        · subst z
          rw [hP] at e; cases e
          exact ⟨#[rawInt pos.line, rawInt pos.col, .ref c'], by rw [H'g, if_neg gP.symm, if_neg cP.symm, if_pos rfl]⟩
        · exact ⟨#[], by rw [kp b _ z e]; simp⟩
      · rw [H'g] at e
        split at e
        · rename_i z; cases e; subst z
          exact fnExt_ok (Heap.get?_push_size _ rfl)
        · split at e
          · rename_i z; cases e; subst z
            exact codeExt_ok (hrec.push _)
          · split at e
            · rename_i z; cases e; subst z
              exact Heap.get?_push_of_some _ htb
            · rename_i z
              refine (I.hok b o e).stay (fun d u hd q => kH d u ?_ q) (fun d q => kp d _ (fun z => by rw [z, hP] at q; cases q) q) fun d xs q => kp d _ (fun z => by rw [z, hP] at q; cases q) q
              rcases hd with hd | hd
              · rw [hd]; exact z
              · exact fun z => by rw [z, hP] at hd; cases hd
    refine store_ok J hN hi hx (v := .ref h'.objs.size) rfl (fun s2 J2 => ?_) hf
    refine ⟨_, H', J2, hw ⟨h'.objs.size, c', PySem.W.fnMade name (qualnameIn X.env name name) params body scope (closL X.env scope.names []) doc ((X.mg "__name__").getD .none) c' ctv, qualnameIn X.env name name, []⟩ H' ⟨?_, ?_, ⟨ps ++ #[rawInt pos.line, rawInt pos.col, .ref c'], ?_, ?_, fun q hq' => ?_⟩, I.hok.fresh hgt, gc, kp, none'⟩ ⟨doc, ctv, rfl, rfl, rfl⟩⟩
    · rw [H'g, if_pos rfl]
    · rw [H'g, if_neg gc.symm, if_pos rfl]
    · rw [H'g, if_neg gP.symm, if_neg cP.symm, if_pos rfl]
    · rw [Array.toList_append]
      exact TriplesOk_snoc _ _ _ _ hT
    · rw [show (ps ++ #[rawInt pos.line, rawInt pos.col, .ref c']).toList = ps.toList ++ [rawInt pos.line, rawInt pos.col, .ref c'] from Array.toList_append]
      rw [codeAmong_app _ hT]
      rcases hC q hq' with z | ⟨d, z, zd⟩
      · rw [z]
        by_cases hb : ((pos.line : Int) == (q.1.line : Int) && (pos.col : Int) == (q.1.col : Int)) = true
        · refine .inr ⟨c', by simp only [hb, if_true], ?_⟩
          rw [Bool.and_eq_true, beq_iff_eq, beq_iff_eq] at hb
          rw [hqs q hq' (by omega) (by omega), H'g, if_neg gc.symm, if_pos rfl]
        · exact .inl (by simp only [hb, if_false, Bool.false_eq_true])
      · rw [z]
        exact .inr ⟨d, rfl, kp d _ (fun y => by rw [y, hP] at zd; cases zd) zd⟩
  · refine wpAny_with_toks (n := 1) tk0 ?_
    refine PySem.W.makeFunction_hit (closureFor_of hcl) I.ok.glob hgs T.code hhd ePs hT hf0 hbi fun ctv doc h' tk hk hsz htk => ?_
    have J := I.laid (a := h'.objs.size) (o := fnExt h'.objs.size (PySem.W.fnMade name (qualnameIn X.env name name) params body scope (closL X.env scope.names []) doc ((X.mg "__name__").getD .none) c0 ctv))
      (t' := tk) (h' := h'.push (PySem.W.fnMade name (qualnameIn X.env name name) params body scope (closL X.env scope.names []) doc ((X.mg "__name__").getD .none) c0 ctv))
      (fun b u e => Heap.get?_push_of_some _ (hk b u e)) hsz (fnExt_ok (Heap.get?_push_size _ rfl)) htk
    have fr : H h'.objs.size = none := I.hok.fresh hsz
    have kp : ∀ b o, H b = some o → upd H h'.objs.size (fnExt h'.objs.size (PySem.W.fnMade name (qualnameIn X.env name name) params body scope (closL X.env scope.names []) doc ((X.mg "__name__").getD .none) c0 ctv)) b = some o := fun b o e => by
      rw [upd_ne (ne_of_none e fr)]; exact e
    refine store_ok J hN hi hx (v := .ref h'.objs.size) rfl (fun s2 J2 => ?_) hf
    exact ⟨_, _, J2, hw ⟨h'.objs.size, c0, PySem.W.fnMade name (qualnameIn X.env name name) params body scope (closL X.env scope.names []) doc ((X.mg "__name__").getD .none) c0 ctv, qualnameIn X.env name name, []⟩ _ ⟨upd_same, kp _ _ hc0, tab.keep kp, fr, (ne_of_none hc0 fr).symm, fun b o _ e => kp b o e, fun b e n1 _ => by rw [upd_ne n1]; exact e⟩ ⟨doc, ctv, rfl, rfl, rfl⟩⟩
end
end L2

set_option Elab.async false
set_option linter.all false
set_option maxRecDepth 100000
/-! A call with closures: the callee's base holds them. A call of a closure. -/
namespace L2
open PySem PySem.Spec PyProof.Rows

def adrs (D : List Clo) : List Addr := D.flatMap fun d => d.g :: d.c :: d.cs.map (·.1)
theorem mem_adrs {D : List Clo} {b : Addr} : b ∈ adrs D ↔ ∃ d ∈ D, b = d.g ∨ b = d.c ∨ b ∈ d.cs.map (·.1) := by
  unfold adrs
  rw [List.mem_flatMap]
  constructor
  · rintro ⟨d, hd, hb⟩; exact ⟨d, hd, by simpa using hb⟩
  · rintro ⟨d, hd, hb⟩; exact ⟨d, hd, by simpa using hb⟩
/-- the heap without the closures, and with them again -/
def drop (H : Hp) (D : List Clo) : Hp := fun b => if b ∈ adrs D then none else H b
def back (H : Hp) (D : List Clo) (H2 : Hp) : Hp := fun b => if b ∈ adrs D then H b else H2 b
theorem drop_ne {H : Hp} {D : List Clo} {b : Addr} (h : b ∉ adrs D) : drop H D b = H b := if_neg h
theorem back_ne {H H2 : Hp} {D : List Clo} {b : Addr} (h : b ∉ adrs D) : back H D H2 b = H2 b := if_neg h
theorem drop_in {H : Hp} {D : List Clo} {b : Addr} (h : b ∈ adrs D) : drop H D b = none := if_pos h
theorem back_in {H H2 : Hp} {D : List Clo} {b : Addr} (h : b ∈ adrs D) : back H D H2 b = H b := if_pos h
def CloOk (H : Hp) (d : Clo) : Prop := H d.g = some (fnExt d.g d.obj) ∧ H d.c = some (codeExt d.c d.qual) ∧ ∀ q ∈ d.cs, H q.1 = some (cellExt q.1 q.2)
theorem clo_ext {H : Hp} {D : List Clo} (h : ∀ d ∈ D, CloOk H d) {b : Addr} (hb : b ∈ adrs D) : ∃ φ, H b = some (.ext φ) := by
  obtain ⟨d, hd, e⟩ := mem_adrs.mp hb
  rcases e with e | e | e
  · exact ⟨_, e ▸ (h d hd).1⟩
  · exact ⟨_, e ▸ (h d hd).2.1⟩
  · obtain ⟨q, hq, rfl⟩ := List.mem_map.mp e
    exact ⟨_, (h d hd).2.2 q hq⟩
/-- what is no function and no code stays -/
theorem clo_out {H : Hp} {D : List Clo} (h : ∀ d ∈ D, CloOk H d) {b : Addr} {o : HO} (e : H b = some o) (ho : ∀ φ, o ≠ .ext φ) : b ∉ adrs D := fun z => by
  obtain ⟨φ, q⟩ := clo_ext h z
  rw [e] at q; cases q; exact ho φ rfl

structure BaseX (X : Cx) (σ : St) (D : List Clo) (base : Heap) : Prop where
  kin : X.K.In base
  glob : base.Ns mainGlobals X.mg
  old : ∀ b o, X.base.get? b = some o → base.get? b = some o
  fn : ∀ d ∈ D, base.get? d.g = some d.obj
  cd : ∀ d ∈ D, base.CodeRec (.ref d.c) d.qual
  cs : ∀ d ∈ D, ∀ q ∈ d.cs, ∃ u, RelV q.2 u ∧ base.IsCell q.1 (some u)
  cell : ∀ x c, X.env.cells.lookup x = some c → ∃ v, base.IsCell c v
  inj : ∀ x y c, X.env.cells.lookup x = some c → X.env.cells.lookup y = some c → x = y
  val : ∀ (i : Nat) x v, X.N[i]? = some x → σ[i]? = some (some v) → (X.env.kindOf x = some .cell ∨ X.env.kindOf x = some .free) → ∃ u c, RelV v u ∧ X.env.cells.lookup x = some c ∧ base.IsCell c (some u)
/-- the cells of a closure that X makes -/
theorem BaseX.cells {X : Cx} {σ : St} {D : List Clo} {base : Heap} (B : BaseX X σ D base) {sc : Scope} {fr : List Str} {fvs : List V} (hcl : ∀ n, (n, NameKind.free) ∈ sc.names → ∃ c, X.env.cells.lookup n = some c) (hl : fvs.length = fr.length)
    (hv : ∀ (i : Nat) x v, fr[i]? = some x → fvs[i]? = some v → sc.names.lookup x = some .free ∧ (X.env.kindOf x = some .cell ∨ X.env.kindOf x = some .free) ∧ ∃ j : Nat, X.N[j]? = some x ∧ σ[j]? = some (some v)) :
    CloCells base (closL X.env sc.names []) sc fr fvs := by
  have sub : ∀ x c, (closL X.env sc.names []).lookup x = some c → X.env.cells.lookup x = some c := fun x c e => by
    rcases closL_sub (PySem.mem_of_lookup e) with z | z
    · cases z
    · exact z
  refine ⟨fun x c e => B.cell x c (sub x c e), fun x y c e1 e2 => B.inj x y c (sub x c e1) (sub y c e2), fun x hx => ?_, hl, fun i x v e1 e2 => ?_⟩
  · obtain ⟨c, hc⟩ := hcl x (PySem.mem_of_lookup hx)
    exact ⟨c, closL_get hc (PySem.mem_of_lookup hx)⟩
  · obtain ⟨h1, h2, j, h3, h4⟩ := hv i x v e1 e2
    obtain ⟨u, c, r, hc, z⟩ := B.val j x v h3 h4 h2
    exact ⟨h1, u, c, r, closL_get hc (PySem.mem_of_lookup h1), z⟩

section
variable {X : Cx} {pins : List (Addr × Obj)} {σ : St} {H : Hp} {s : Shared} {D : List Clo}
def InX (X : Cx) (D : List Clo) (b : Addr) : Prop := X.base.get? b ≠ none ∨ b ∈ adrs D ∨ ∃ x, X.env.cells.lookup x = some b
noncomputable def hidX (X : Cx) (D : List Clo) (n : Nat) : List Addr := (List.range n).filter fun b => @decide (¬ InX X D b) (Classical.propDecidable _)
theorem mem_hidX {n : Nat} {b : Addr} : b ∈ hidX X D n ↔ b < n ∧ ¬ InX X D b := by
  unfold hidX
  rw [List.mem_filter, List.mem_range]
  exact and_congr Iff.rfl (@decide_eq_true_iff _ (Classical.propDecidable _))
/-- the base with the frame's cells and the closures -/
noncomputable def baseX (X : Cx) (D : List Clo) (h : Heap) : Heap := PySem.W.hideAll h (hidX X D h.objs.size)
theorem baseX_get {h : Heap} {b : Addr} {o : Obj} (e : h.get? b = some o) (p : InX X D b) : (baseX X D h).get? b = some o :=
  PySem.W.hideAll_get _ e fun z => (mem_hidX.mp z).2 p
theorem of_baseX {h : Heap} {b : Addr} {o : Obj} (e : (baseX X D h).get? b = some o) : h.get? b = some o ∧ InX X D b := by
  have e1 := PySem.W.of_hideAll _ e
  refine ⟨e1, Classical.byContradiction fun n => ?_⟩
  have := PySem.W.hideAll_none (h := h) _ (mem_hidX.mpr ⟨Heap.lt_size e1, n⟩)
  unfold baseX at e
  rw [this] at e; cases e
theorem Inv.baseX_ok (I : Inv X pins σ H s) (hD : ∀ d ∈ D, CloOk H d) : BaseX X σ D (baseX X D s.heap) := by
  have old : ∀ b o, X.base.get? b = some o → (baseX X D s.heap).get? b = some o := fun b o e => baseX_get (I.bk b o e) (.inl (by rw [e]; simp))
  have cellK : ∀ x c v, X.env.cells.lookup x = some c → s.heap.IsCell c v → (baseX X D s.heap).IsCell c v := fun x c v e ⟨o, z, r⟩ => ⟨o, baseX_get z (.inr (.inr ⟨x, e⟩)), r⟩
  refine ⟨I.mod.kin.keeps old, I.mod.glob.keeps old, old, fun d hd => ?_, fun d hd => ?_, fun d hd q hq => ?_, fun x c e => ?_, I.ok.inj, fun i x v h1 h2 h3 => ?_⟩
  · obtain ⟨z, _⟩ := I.hok d.g _ (hD d hd).1
    exact baseX_get z (.inr (.inl (mem_adrs.mpr ⟨d, hd, .inl rfl⟩)))
  · obtain ⟨⟨c, o, vs, t, e, z, r⟩, _⟩ := I.hok d.c _ (hD d hd).2.1
    have e' : d.c = c := by cases e; rfl
    exact ⟨c, o, vs, t, e, baseX_get z (.inr (.inl (mem_adrs.mpr ⟨d, hd, .inr (.inl e'.symm)⟩))), r⟩
  · obtain ⟨⟨u, r, o, z, r2⟩, _⟩ := I.hok q.1 _ ((hD d hd).2.2 q hq)
    exact ⟨u, r, o, baseX_get z (.inr (.inl (mem_adrs.mpr ⟨d, hd, .inr (.inr (List.mem_map_of_mem hq))⟩))), r2⟩
  · obtain ⟨v, z⟩ := I.cell x c e
    exact ⟨v, cellK x c v e z⟩
  · obtain ⟨m, hn, hl⟩ := I.loc
    obtain ⟨u, r, l⟩ := hl i x v h1 h2 (by rcases h3 with z | z; exact .inr (.inl z); exact .inr (.inr z))
    rcases l with ⟨k, _⟩ | ⟨_, c, e, z⟩
    · rcases h3 with z | z <;> (rw [z] at k; cases k)
    · exact ⟨u, c, r, e, cellK x c _ e z⟩

theorem Inv.env0X (I : Inv X pins σ H s) (hfn : ∀ x, X.fn x = true) (hD : ∀ d ∈ D, CloOk H d) : Env0 X.prog X.w X.K X.mg (baseX X D s.heap) X.A X.stack s (drop H D) := by
  have B := I.baseX_ok hD
  have dn : ∀ b, H b = none → drop H D b = none := fun b e => by unfold drop; split; rfl; exact e
  have frN : ∀ b ∈ frs X.stack, (baseX X D s.heap).get? b = none := fun b hb => by
    cases q : (baseX X D s.heap).get? b with
    | none => rfl
    | some o =>
      obtain ⟨e, p⟩ := of_baseX q
      rcases p with p | p | ⟨x, p⟩
      · exact absurd (I.stack.mem hb).1 p
      · obtain ⟨φ, z⟩ := clo_ext hD p
        rw [I.stkFree b hb] at z; cases z
      · rcases List.mem_cons.mp (I.stkSub b hb) with z | z
        · exact absurd z (I.cne x b p)
        · obtain ⟨_, o', ho', _⟩ := I.ok.funs.mem z
          exact absurd (Heap.lt_size ho') (Nat.not_lt.mpr (I.ok.cab x b (hfn x) p))
  have fun' : ∀ l : List Env, (∀ b ∈ frs l, b ∈ frs X.stack) → s.heap.FunFrames X.base l → s.heap.FunFrames (baseX X D s.heap) l := by
    intro l
    induction l with
    | nil => intro _ _; trivial
    | cons env r ih =>
      intro hs hl
      obtain ⟨hk, ⟨L, o, hf, hn, ho, hd⟩, hr⟩ := hl
      have hL : L ∈ frs X.stack := hs L (by unfold frs; rw [List.filterMap_cons, hf]; exact List.mem_cons_self)
      exact ⟨hk, ⟨L, o, hf, frN L hL, ho, hd⟩, ih (fun b hb => hs b (by unfold frs; rw [List.filterMap_cons, hf]; exact List.mem_cons_of_mem _ hb)) hr⟩
  refine ⟨I.ok.frames, ⟨B.kin, B.glob, ?_, I.mod.nolimit.keeps B.old⟩, fun b o e => ?_, Nat.le_of_eq (PySem.W.hideAll_size _ _), fun' X.stack (fun _ h => h) I.stack, fun b hb => dn b (I.stkFree b hb), fun b o e => ?_, I.bare, I.tk⟩
  · obtain ⟨mb, h1, h2⟩ := I.mod.blt
    exact ⟨mb, h1.keeps B.old, h2⟩
  · obtain ⟨e1, p⟩ := of_baseX e
    refine ⟨e1, ?_⟩
    rcases p with p | p | ⟨x, p⟩
    · cases q : X.base.get? b with
      | none => exact absurd q p
      | some o' => exact dn b (I.bs b o' q).2
    · exact drop_in p
    · exact dn b (I.freeC x b p)
  · by_cases hb : b ∈ adrs D
    · rw [drop_in hb] at e; cases e
    · rw [drop_ne hb] at e
      refine (I.hok b o e).stay (fun _ _ _ q => q) (fun c q => ?_) fun c xs q => ?_
      · rw [drop_ne (clo_out hD q fun φ z => by cases z)]; exact q
      · rw [drop_ne (clo_out hD q fun φ z => by cases z)]; exact q

theorem Inv.afterX {Q : VK} {u : Value} {s' : Shared} (I : Inv X pins σ H s) (hD : ∀ d ∈ D, CloOk H d) (h : CE X.stack X.prog X.w (drop H D) s (fun v H2 => (∀ b ∈ adrs D, H2 b = none) → Q v (back H D H2)) u s') : EP X pins σ Q u s' := by
  obtain ⟨v, H2, os, bare, un, hok, tk', r, q⟩ := h
  have dn : ∀ b, H b = none → drop H D b = none := fun b e => by unfold drop; split; rfl; exact e
  have inD : ∀ b, b ∈ adrs D → H2 b = none := fun b hb => by
    obtain ⟨φ, z⟩ := clo_ext hD hb
    obtain ⟨_, ⟨o, e⟩, _⟩ := I.hok b _ z
    exact un.free b o e (drop_in hb) (by simp)
  refine I.after ⟨v, back H D H2, os, bare, ⟨fun b o e n => un.keep b o e (dn b n), fun b o e n => un.slot b o e (dn b n), fun b o e n hx => ?_, un.there, fun b xs e => ?_, fun b o u e => ?_, fun b ps e => ?_⟩, fun b o e => ?_, tk', r, q inD⟩
  · by_cases hb : b ∈ adrs D
    · rw [back_in hb]; exact n
    · rw [back_ne hb]; exact un.free b o e (dn b n) hx
  · have hb := clo_out hD e fun φ z => by cases z
    rw [back_ne hb]; exact un.tups b xs (by rw [drop_ne hb]; exact e)
  · have hb := clo_out hD e fun φ z => by cases z
    rw [back_ne hb]; exact un.frzs b o u (by rw [drop_ne hb]; exact e)
  · have hb := clo_out hD e fun φ z => by cases z
    obtain ⟨more, z⟩ := un.tbls b ps (by rw [drop_ne hb]; exact e)
    exact ⟨more, by rw [back_ne hb]; exact z⟩
  · by_cases hb : b ∈ adrs D
    · rw [back_in hb] at e
      obtain ⟨φ, z⟩ := clo_ext hD hb
      rw [e] at z; cases z
      obtain ⟨p, ⟨ob, eo⟩, st⟩ := I.hok b _ e
      have nf : b ∉ frs X.stack := fun z => by rw [I.stkFree b z] at e; cases e
      have k : ∀ o, s.heap.get? b = some o → s'.heap.get? b = some o := fun o e => un.keep b o e (drop_in hb) nf (by simp)
      exact ⟨st _ _ p k, ⟨ob, k ob eo⟩, st⟩
    · rw [back_ne hb] at e
      refine (hok b o e).stay (fun _ _ _ q => q) (fun c q => ?_) fun c xs q => ?_
      · rw [back_ne fun z => by rw [inD c z] at q; cases q]; exact q
      · rw [back_ne fun z => by rw [inD c z] at q; cases q]; exact q
end

/-- f(..), the closures D handed on: f's promise at the base that holds them -/
def tCallX (X : Cx) (k : Nat) (x : Str) (ps : List Str) (t : TA) : TE := fun σ H Q => t σ H fun vs H1 => ∃ D sp, (∀ d ∈ D, CloOk H1 d) ∧ (∀ base, BaseX X σ D base → Def X.prog X.w X.K X.mg base k x ps sp) ∧
  sp vs (drop H1 D) (fun v H2 => (∀ b ∈ adrs D, H2 b = none) → Q v (back H1 D H2)) E0
section
variable {X : Cx} {k i : Nat} {x : Str} {ps : List Str} {sp : Sp} {e : Expr} {es : List Expr} {te : TE} {t : TA} {p pos : Pos}
theorem pe_callX (hm : ∃ f, X.mg x = some (.ref f) ∧ PySem.W.keepIn X.K (.ref f) = true) (hfn : ∀ x, X.fn x = true) (hr : Room k X.A) (ha : PA X (e :: es) t) (hg : Gl X x := by exact rfl) (hdb : (x == ("__debug__" : Str)) = false := by decide)
    (he : starEach (e :: es) X.env = (false, eval e X.env) :: starEach es X.env := by rfl) (hpl : (backTo pos (starEach es X.env)).any (·.1) = false := by rfl) :
    PE X (.Call (.Name x p) (e :: es) [] pos) (tCallX X k x ps t) := by
  obtain ⟨f, hmf, hk⟩ := hm
  intro pins s σ H Q I h
  refine wpAny_Call_Name_kw (ld_glob I hg hmf ?_ hdb)
  refine PySem.W.callWith_K (h₀ := X.base) I.ok.mod.kin hk (thn (ha pos pins s σ H _ I h) fun us s1 ⟨vs, H1, I1, r, D, sp, hD, hF, q⟩ => ⟨I1.kIn, ?_⟩) he hpl
  obtain ⟨f', fd, F, hm', _, hb⟩ := (hF _ (I1.baseX_ok hD)).ex
  have e' := hmf.symm.trans hm'
  cases e'
  have hl : (us ++ []).length = ps.length := by rw [List.append_nil, ← r.length]; exact F.len _ _ _ _ q
  show wpAny _ _ (call (.ref f) us) _ _ s1
  refine wpAny_call (codeAny_mono (F.run X.A X.stack s1 (drop H1 D) ⟨us, []⟩ us vs (fun v H2 => (∀ b ∈ adrs D, H2 b = none) → Q v (back H1 D H2)) E0 hr (I1.env0X hfn hD) (by have := hb s1 us I1.kIn hl; rwa [List.append_nil] at this) r q) fun r s' hq => ?_)
  cases r with
  | error e => exact False.elim hq
  | ok fl =>
    cases fl with
    | ret u => exact I1.afterX hD hq
    | next => exact False.elim hq
    | brk => exact False.elim hq
    | cont => exact False.elim hq

/-- a function that stands in the base, as a value -/
structure FnV (P : Program) (w : World) (K : PySem.W.Frag) (mg : Str → Option Value) (base : Heap) (k : Nat) (g : Addr) (ps : List Str) (sp : Sp) : Prop where
  ex : ∃ fd, FnOk P w K mg base CX0 k g fd ps sp ∧ Binds K fd ps [] ∧ PySem.W.FnAt g base
theorem FnV.mono {P : Program} {w : World} {K : PySem.W.Frag} {mg : Str → Option Value} {base : Heap} {j k : Nat} {g : Addr} {ps : List Str} {sp : Sp} (V : FnV P w K mg base j g ps sp) (h : j ≤ k) : FnV P w K mg base k g ps sp := let ⟨fd, F, r⟩ := V.ex; ⟨fd, F.mono h, r⟩
/-- x(..), x a name of the def that holds a function -/
def tCallV (X : Cx) (k i : Nat) (t : TA) : TE := fun σ H Q => ∃ g ps sp, σ[i]? = some (some (.ref g)) ∧ FnV X.prog X.w X.K X.mg X.base k g ps sp ∧ t σ H fun vs H1 => sp vs H1 Q E0
theorem FnAt.keeps' {h h' : Heap} {q : Addr} (x : PySem.W.FnAt q h) (k : ∀ b o, h.get? b = some o → h'.get? b = some o) : PySem.W.FnAt q h' := let ⟨a, b, c, d, e⟩ := x; ⟨a, b, c, d, k _ _ e⟩
theorem pe_callV (hN : X.N[i]? = some x) (hv : Vis X.env.scope x) (hr : Room k X.A) (ha : PA X (e :: es) t) (hd : (x == ("__debug__" : Str)) = false := by decide) (hcd : (x == ("__classdict__" : Str)) = false := by decide)
    (he : starEach (e :: es) X.env = (false, eval e X.env) :: starEach es X.env := by rfl) (hpl : (backTo pos (starEach es X.env)).any (·.1) = false := by rfl) :
    PE X (.Call (.Name x p) (e :: es) [] pos) (tCallV X k i t) := by
  intro pins s σ H Q I h
  obtain ⟨g, ps, sp, hg, V, h⟩ := h
  obtain ⟨fd, F, hb, hat⟩ := V.ex
  refine wpAny_Call_Name_kw (thn (pe_var hN hv hd hcd pins s σ H (fun v H' => v = .ref g ∧ H' = H) I ⟨_, hg, rfl, rfl⟩) fun u s1 ⟨v, H', I1, r, hv', hH⟩ => ?_)
  subst hv'; subst hH
  obtain rfl : u = Value.ref g := r
  refine PySem.W.callWith_F (FnAt.keeps' hat I1.bk) (thn (ha pos pins s1 σ _ _ I1 h) fun us s2 ⟨vs, H2, I2, r2, q⟩ => ⟨FnAt.keeps' hat I2.bk, ?_⟩) he hpl
  exact run_fn (ds := []) (dvs := []) F hr hb .nil pass0 I2 r2 (by rw [List.append_nil]; exact q)
end
end L2

set_option Elab.async false
set_option linter.all false
set_option maxRecDepth 100000
/-! The head with tables of codes; a def that has defs within it. -/
namespace L2
open PySem PySem.Spec PyProof.Rows

section
variable {P : Program} {w : World} {K : PySem.W.Frag} {mg : Str → Option Value} {base : Heap}
/-- a def whose code stands at c -/
theorem Fun.okT {x qual : Str} {st : Stmt} {f c : Addr} {fd : FuncData} {N ps : List Str} {k : Nat} {sp : Sp} (F : Fun K x qual st f fd) (hc : fd.code = .ref c) (S : FnScope N ps (defScope st)) (len : ∀ vs H Q E, sp vs H Q E → vs.length = ps.length)
    (hbody : ∀ (A : Around) (outer : List Env) (s : Shared) (H : Hp) (vs : List V) (Q : VK) (E : XK), Room k (A.deeper (envOfC qual (defScope st) s.heap.objs.size f (.ref c))) → sp vs H Q E →
      ∃ t, PSs (cxOf CX0 P w K mg base N qual (defScope st) f (.ref c) A outer s H E).nox (defBody st) t ∧ t { nx := fun _ H' => Q .non H', rt := Q } (start N vs) H) : FnOk P w K mg base CX0 (k + 1) f fd ps sp := by
  obtain ⟨oc, od, kV, doc, pm, an, cdv, ct, osl, rfl, lk, hcd⟩ := F.ex
  obtain rfl : cdv = .ref c := hc
  refine fn_of lk hcd S len fun A outer s H vs Q E hr hsp => ?_
  obtain ⟨t, h, q⟩ := hbody A outer s H vs Q E hr hsp
  exact ⟨t, h.nox, q⟩
/-- a closure of the base, no exception leaving -/
theorem fn_ofC0 {k : Nat} {f : Addr} {name qual : Str} {params : Arguments} {body : List Stmt} {scope : Scope} {cl : List (Str × Addr)} {doc pm ct : Value} {c' : Addr}
    {N ps fr : List Str} {fvs : List V} {sp : Sp} (lk : base.get? f = some (PySem.W.fnMade name qual params body scope cl doc pm c' ct)) (hcd : base.CodeRec (.ref c') qual) (S : CloScope N ps fr scope) (C : CloCells base cl scope fr fvs)
    (len : ∀ vs H Q E, sp vs H Q E → vs.length = ps.length)
    (hb : ∀ us : List Value, us.length = ps.length → bindArgs (PySem.W.fnX name qual params body scope cl .none .none doc pm none (.ref c') ct) ⟨us, []⟩ = pure (ps.zip us))
    (hbody : ∀ (A : Around) (outer : List Env) (s : Shared) (H : Hp) (vs : List V) (Q : VK) (E : XK), Room k (A.deeper (PySem.W.envX qual scope s.heap.objs.size f (.ref c') cl)) → sp vs H Q E →
      ∃ t, PSs (cxC CX0 P w K mg base N qual scope f (.ref c') cl A outer s H E).nox body t ∧ t { nx := fun _ H' => Q .non H', rt := Q } (start N (vs ++ fvs)) H) :
    FnV P w K mg base (k + 1) f ps sp := by
  refine ⟨_, fn_ofC lk hcd S C len fun A outer s H vs Q E hr hsp => ?_, .all hb, ⟨_, _, _, _, lk⟩⟩
  obtain ⟨t, h, q⟩ := hbody A outer s H vs Q E hr hsp
  exact ⟨t, h.nox, q⟩
end

/-! ### the fragment without the tables -/
def dropK (K : PySem.W.Frag) (Ps : List Addr) : PySem.W.Frag := K.filter fun p => !Ps.contains p.1
theorem dropK_lookup {Ps : List Addr} {a : Addr} : ∀ {K : PySem.W.Frag}, (dropK K Ps).lookup a = if Ps.contains a = true then none else K.lookup a
  | [] => by
    show (none : Option Obj) = _
    split <;> rfl
  | (b, o) :: K => by
    have ih := dropK_lookup (Ps := Ps) (a := a) (K := K)
    unfold dropK at ih ⊢
    by_cases hb : Ps.contains b = true
    · rw [List.filter_cons_of_neg (by simp only [hb]; decide), ih, List.lookup_cons]
      cases hab : a == b with
      | true =>
        have := eq_of_beq hab
        subst this
        rw [if_pos hb, if_pos hb]
      | false => rfl
    · rw [List.filter_cons_of_pos (by simp only [hb]; decide), List.lookup_cons, List.lookup_cons]
      cases hab : a == b with
      | true =>
        have := eq_of_beq hab
        subst this
        rw [if_neg hb]
      | false => exact ih
theorem dropK_in {K : PySem.W.Frag} {Ps : List Addr} {h : Heap} (X : K.In h) : (dropK K Ps).In h := fun a o e => by
  rw [dropK_lookup] at e
  split at e
  · cases e
  · exact X a o e
theorem dropK_not {K : PySem.W.Frag} {tabs : List (Addr × Addr)} : ∀ b o, (dropK K (tabs.map (·.2))).lookup b = some o → ∀ q ∈ tabs, q.2 ≠ b := fun b o e q hq z => by
  rw [dropK_lookup, if_pos (by rw [List.contains_iff_mem, ← z]; exact List.mem_map_of_mem hq)] at e
  cases e
/-- what stands at the places left out is an empty table -/
def Tabs0 (K : PySem.W.Frag) (Ps : List Addr) : Prop := ∀ a o, a ∈ Ps → K.lookup a = some o → o = PySem.W.tabObj #[]
theorem tabs0_of {K : PySem.W.Frag} {tabs : List (Addr × Addr)} {h : Heap} (X : K.In h) (hT : PySem.W.TabsAt tabs h) : Tabs0 K (tabs.map (·.2)) := fun a o ha e => by
  obtain ⟨q, hq, rfl⟩ := List.mem_map.mp ha
  have := (hT q hq).2
  rw [X _ _ e] at this
  exact Option.some.inj this
theorem dropK_other {K : PySem.W.Frag} {Ps : List Addr} {a : Addr} {o : Obj} (h : Tabs0 K Ps) (e : K.lookup a = some o) (ho : o ≠ PySem.W.tabObj #[]) : (dropK K Ps).lookup a = some o := by
  rw [dropK_lookup, if_neg (fun z => ho (h a o (List.contains_iff_mem.mp z) e))]
  exact e
theorem nsIn_drop {K : PySem.W.Frag} {Ps : List Addr} (h : Tabs0 K Ps) (a : Addr) (x : Str) : PySem.W.nsIn (dropK K Ps) a x = PySem.W.nsIn K a x := by
  unfold PySem.W.nsIn
  rw [dropK_lookup]
  by_cases hb : Ps.contains a = true
  · rw [if_pos hb]
    cases e : K.lookup a with
    | none => rfl
    | some o => rw [h a o (List.contains_iff_mem.mp hb) e]
  · rw [if_neg hb]
theorem codeIn_drop {K : PySem.W.Frag} {Ps : List Addr} (h : Tabs0 K Ps) (cd : Value) (q : Str) : PySem.W.codeIn (dropK K Ps) cd q = PySem.W.codeIn K cd q := by
  unfold PySem.W.codeIn
  split
  · rename_i c
    rw [dropK_lookup]
    by_cases hb : Ps.contains c = true
    · rw [if_pos hb]
      cases e : K.lookup c with
      | none => rfl
      | some o => rw [h c o (List.contains_iff_mem.mp hb) e]
    · rw [if_neg hb]
  · rfl
/-- nothing is tracked but the script and the tables -/
def OnlyT (tabs : List (Addr × Addr)) (H : Hp) : Prop := ∀ b, H b = none ∨ (∃ o xs, H b = some (.frz o (.lst xs))) ∨ ((∃ q ∈ tabs, q.2 = b) ∧ H b = some (.tbl #[]))

theorem law_callT {P : Program} {w : World} {K : PySem.W.Frag} {mg mb : Str → Option Value} {CX : CXT} {k : Nat} {fa a : Addr} {fd : FuncData} {x : Str} {sp : Sp} {s₁ : Shared} {vs : List Value} {ns : List Int} {tabs : List (Addr × Addr)}
    (KX : K.In s₁.heap) (hns : s₁.heap.Ns mainGlobals mg) (hb : s₁.heap.Ns builtinsNs mb) (hbb : ∀ x : Str, x ≠ "__name__" → mb x = bootBuiltins x) (hlim : s₁.heap.NoLimit) (hg : s₁.gens = #[]) (htk : 0 < s₁.toks)
    (ha : s₁.heap.get? a = some { cls := .type "list", data := .seq vs.toArray }) (hi : IntsAre vs ns) (hl : ns.length ≤ sizeLine) (hr : Room k callerA)
    (hT : PySem.W.TabsAt tabs s₁.heap) (hnt : ∀ b o, K.lookup b = some o → ∀ q ∈ tabs, q.2 ≠ b) (hbi : ∃ bm o, mg "__builtins__" = some (.ref bm) ∧ bm ≠ builtinsNs ∧ bm ≠ mainGlobals ∧ s₁.heap.get? bm = some o ∧ o.cls = .type "module" ∧ o.dict = some builtinsNs ∧ o.data = .plain)
    (F : ∀ base : Heap, K.In base → base.Ns mainGlobals mg → (∀ q ∈ tabs, PySem.W.CodeHd base q.1 q.2 ∧ base.BuiltinsAt mg q.2) → FnOk P w K mg base CX k fa fd [x] sp) (hbind : ∀ (s : Shared) (u : Value), BindsTo s fd ⟨[u], []⟩ [(x, u)])
    (hsp : ∀ H : Hp, OnlyT tabs H → SqL K H a (ns.map V.int) → (∀ q ∈ tabs, H q.2 = some (.tbl #[])) → sp [.ref a] H (fun v _ => v = .bl true) fun _ _ _ => False)
    (hCX : ∀ H e s', CX [] H s₁ (fun _ _ _ => False) e s' → False) :
    codeAny (model P w) callerA (.call (.ref fa) ⟨[.ref a], []⟩) (fun r s' => r = .ok (.ret (.bool true)) ∧ OldK s₁.heap s'.heap ∧ s'.os = s₁.os ∧ AllBare s'.gens) s₁ := by
  have rv := vals_ints hi
  have lenV := hi.length
  have tabNe : ∀ q ∈ tabs, q.2 ≠ a := fun q hq z => by
    have e := (hT q hq).2
    rw [z, ha] at e; cases e
  -- from an abstract heap in which nothing but the script and the tables may be tracked
  have core : ∀ H : Hp, OnlyT tabs H → SqL K H a (ns.map V.int) → HOk P w H s₁.heap → (∀ b, H b ≠ none → b = a ∨ ∃ q ∈ tabs, q.2 = b) → (H a ≠ none → K.lookup a = none) → (∀ q ∈ tabs, H q.2 = some (.tbl #[])) →
      codeAny (model P w) callerA (.call (.ref fa) ⟨[.ref a], []⟩) (fun r s' => r = .ok (.ret (.bool true)) ∧ OldK s₁.heap s'.heap ∧ s'.os = s₁.os ∧ AllBare s'.gens) s₁ := by
    intro H hO hS hok hA hK hTb
    have base_of : ∀ {b : Addr} {o : Obj}, s₁.heap.get? b = some o → H b = none → (hidT s₁.heap H).get? b = some o := fun e n => hidT_get e n
    have notTab : ∀ {b : Addr} {o : Obj}, s₁.heap.get? b = some o → b ≠ a → o ≠ PySem.W.tabObj #[] → H b = none := fun {b o} e n1 n2 => by
      cases q : H b with
      | none => rfl
      | some u =>
        rcases hA b (by rw [q]; simp) with z | ⟨r, hr', z⟩
        · exact absurd z n1
        · have e2 := (hT r hr').2
          rw [z, e] at e2
          exact absurd (Option.some.inj e2) n2
    have noA : ∀ {b : Addr} {o : Obj} {es : Array DictEntry} {ep : Nat}, s₁.heap.get? b = some o → o.data = .dict es ep → H b = none := fun {b o es ep} e d => by
      refine notTab e (fun z => ?_) fun z => ?_
      · subst z; rw [ha] at e; cases e; cases d
      · subst z; cases d
    have nsK : ∀ {b : Addr} {m : Str → Option Value}, s₁.heap.Ns b m → (hidT s₁.heap H).Ns b m := fun {b m} ⟨o, es, ep, e, d, r⟩ => ⟨o, es, ep, base_of e (noA e d), d, r⟩
    have hKb : K.In (hidT s₁.heap H) := fun b o e => base_of (KX b o e) (by
      cases q : H b with
      | none => rfl
      | some u =>
        rcases hA b (by rw [q]; simp) with z | ⟨r, hr', z⟩
        · subst z
          rw [hK (by rw [q]; simp)] at e; cases e
        · exact absurd z (hnt b o e r hr'))
    have hcd : ∀ q ∈ tabs, PySem.W.CodeHd (hidT s₁.heap H) q.1 q.2 ∧ (hidT s₁.heap H).BuiltinsAt mg q.2 := fun q hq => by
      refine ⟨?_, ?_⟩
      · obtain ⟨o, vs', file, tf, flags, tg, inF, text, tt, e1, r1, r2, r⟩ := (hT q hq).1
        refine ⟨o, vs', file, tf, flags, tg, inF, text, tt, base_of e1 (notTab e1 (fun z => ?_) fun z => ?_), r1, r2, r⟩
        · rw [z, ha] at e1; cases e1; exact absurd r1 (by simp)
        · subst z; cases r1
      · obtain ⟨bm, o, b1, b2, b3, b4, b5, b6, b7⟩ := hbi
        refine ⟨bm, o, b1, b2, b3, fun z => ?_, base_of b4 (notTab b4 (fun z => ?_) fun z => ?_), b5, b6, b7⟩
        · have e2 := (hT q hq).2
          rw [← z, b4] at e2; cases e2; cases b5
        · rw [z, ha] at b4; cases b4; exact absurd b5 (by simp)
        · subst z; cases b5
    have hM : Mod K mg (hidT s₁.heap H) := ⟨hKb, nsK hns, ⟨mb, nsK hb, hbb⟩, let ⟨mc, h1, h2⟩ := hlim; ⟨mc, nsK h1, h2⟩⟩
    have e0 : Env0 P w K mg (hidT s₁.heap H) callerA [] s₁ H := ⟨rfl, hM, fun b o e => of_hidT e, Nat.le_of_eq (hidT_size _ _), trivial, fun b hb => absurd (show b ∈ ([] : List Addr) from hb) (by simp), hok, .of_eq hg, htk⟩
    refine codeAny_mono ((F _ hKb (nsK hns) hcd).run callerA [] s₁ H ⟨[.ref a], []⟩ [.ref a] [.ref a] _ _ hr e0 (hbind s₁ (.ref a)) (.cons rfl .nil) (hsp H hO hS hTb)) fun r s' h => ?_
    cases r with
    | error e => exact (hCX H e s' h).elim
    | ok fl =>
      cases fl with
      | next => exact False.elim h
      | brk => exact False.elim h
      | cont => exact False.elim h
      | ret u =>
        obtain ⟨v, H', os, bare, un, hok', _, r', q⟩ := h
        have q' : v = .bl true := q
        subst q'
        obtain rfl : u = Value.bool true := r'
        have cases3 : ∀ b o, s₁.heap.get? b = some o → s'.heap.get? b = some o ∨ ((∃ q ∈ tabs, q.2 = b) ∧ o = PySem.W.tabObj #[] ∧ ∃ more, s'.heap.get? b = some (PySem.W.tabObj more)) := fun b o e => by
          rcases hO b with z | ⟨ob, xs, z⟩ | ⟨hq, z⟩
          · exact .inl (un.keep b o e z (by intro z; exact absurd (show b ∈ ([] : List Addr) from z) (by simp)) (by simp))
          · have z2 := un.frzs b ob _ z
            obtain ⟨e1, _⟩ := hok b _ z
            obtain ⟨e2, _⟩ := hok' b _ z2
            rw [e] at e1; cases e1
            exact .inl e2
          · obtain ⟨more, z2⟩ := un.tbls b _ z
            have e1 : s₁.heap.get? b = some (PySem.W.tabObj #[]) := hok b _ z
            have e2 : s'.heap.get? b = some (PySem.W.tabObj (#[] ++ more)) := hok' b _ z2
            rw [e] at e1; cases e1
            exact .inr ⟨hq, rfl, _, e2⟩
        refine ⟨rfl, ⟨fun b o e => ?_, fun b o e => ?_⟩, os, bare⟩
        · rcases cases3 b o e with z | ⟨⟨q, hq, hb'⟩, rfl, more, z⟩
          · exact .inl z
          · obtain ⟨o', vs', _, _, _, _, _, _, _, e1, r1, r2, r3, _⟩ := (hT q hq).1
            exact .inr (.inl ⟨⟨q.1, o', vs', e1, r1, r2, by rw [← hb']; exact r3⟩, rfl, #[], more, rfl, by rw [Array.empty_append]; exact z⟩)
        · rcases cases3 b o e with z | ⟨_, _, more, z⟩
          · exact ⟨_, z⟩
          · exact ⟨_, z⟩
  have tabIn : ∀ q ∈ tabs, ∀ (H : Hp), ObjOk P w H s₁.heap q.2 (.tbl #[]) := fun q hq H => (hT q hq).2
  have dec : ∀ b : Addr, (∃ q ∈ tabs, q.2 = b) ∨ ¬ ∃ q ∈ tabs, q.2 = b := fun b => Classical.em _
  cases hk : K.lookup a with
  | some o =>
    -- the script is one of the module's own objects
    have e := KX a o hk
    rw [ha] at e
    cases e
    have hH : ∀ b, (if b ∈ tabs.map (·.2) then some (HO.tbl #[]) else none : Option HO) = some (.tbl #[]) ∧ (∃ q ∈ tabs, q.2 = b) ∨ (if b ∈ tabs.map (·.2) then some (HO.tbl #[]) else none : Option HO) = none := fun b => by
      by_cases hb' : b ∈ tabs.map (·.2)
      · obtain ⟨q, hq, rfl⟩ := List.mem_map.mp hb'
        exact .inl ⟨if_pos hb', q, hq, rfl⟩
      · exact .inr (if_neg hb')
    refine core (fun b => if b ∈ tabs.map (·.2) then some (HO.tbl #[]) else none) (fun b => ?_) (.inr ⟨_, vs.toArray, _, hk, rfl, rfl, rfl, by rw [List.size_toArray, lenV]; exact hl, by simpa using rv⟩) (fun b u z => ?_) (fun b z => ?_) (fun z => ?_) fun q hq => if_pos (List.mem_map_of_mem hq)
    · rcases hH b with ⟨z, y⟩ | z
      · exact .inr (.inr ⟨y, z⟩)
      · exact .inl z
    · rcases hH b with ⟨y, q, hq, rfl⟩ | y
      · have z' := y.symm.trans z; cases z'
        exact tabIn q hq _
      · have z' := y.symm.trans z; cases z'
    · rcases hH b with ⟨_, y⟩ | y
      · exact .inr y
      · exact absurd y z
    · rcases hH a with ⟨_, q, hq, y⟩ | y
      · exact absurd y (tabNe q hq)
      · exact absurd y z
  | none =>
    have hH : ∀ b, (b = a ∧ (if b = a then some (HO.frz { cls := .type "list", data := .seq vs.toArray } (.lst (ns.map V.int))) else if b ∈ tabs.map (·.2) then some (HO.tbl #[]) else none : Option HO) = some (HO.frz { cls := .type "list", data := .seq vs.toArray } (.lst (ns.map V.int)))) ∨
        ((∃ q ∈ tabs, q.2 = b) ∧ (if b = a then some (HO.frz { cls := .type "list", data := .seq vs.toArray } (.lst (ns.map V.int))) else if b ∈ tabs.map (·.2) then some (HO.tbl #[]) else none : Option HO) = some (.tbl #[])) ∨
        (if b = a then some (HO.frz { cls := .type "list", data := .seq vs.toArray } (.lst (ns.map V.int))) else if b ∈ tabs.map (·.2) then some (HO.tbl #[]) else none : Option HO) = none := fun b => by
      by_cases h1 : b = a
      · exact .inl ⟨h1, if_pos h1⟩
      · by_cases hb' : b ∈ tabs.map (·.2)
        · obtain ⟨q, hq, e⟩ := List.mem_map.mp hb'
          exact .inr (.inl ⟨⟨q, hq, e⟩, by rw [if_neg h1, if_pos hb']⟩)
        · exact .inr (.inr (by rw [if_neg h1, if_neg hb']))
    refine core (fun b => if b = a then some (HO.frz { cls := .type "list", data := .seq vs.toArray } (.lst (ns.map V.int))) else if b ∈ tabs.map (·.2) then some (HO.tbl #[]) else none) (fun b => ?_) (.inl (.inr ⟨{ cls := .type "list", data := .seq vs.toArray }, if_pos rfl⟩)) (fun b u z => ?_) (fun b z => ?_) (fun _ => hk)
      fun q hq => ?_
    · rcases hH b with ⟨_, y⟩ | ⟨y, z⟩ | y
      · exact .inr (.inl ⟨_, _, y⟩)
      · exact .inr (.inr ⟨y, z⟩)
      · exact .inl y
    · rcases hH b with ⟨rfl, y⟩ | ⟨⟨q, hq, rfl⟩, y⟩ | y
      · have z' := y.symm.trans z; cases z'
        exact ⟨ha, by rw [List.length_map]; exact hl, vs, _, rv, ha⟩
      · have z' := y.symm.trans z; cases z'
        exact tabIn q hq _
      · have z' := y.symm.trans z; cases z'
    · rcases hH b with ⟨y, _⟩ | ⟨y, _⟩ | y
      · exact .inl y
      · exact .inr y
      · exact absurd y z
    · show (if q.2 = a then _ else if q.2 ∈ tabs.map (·.2) then _ else _) = _
      rw [if_neg (tabNe q hq), if_pos (List.mem_map_of_mem hq)]
end L2

set_option Elab.async false
set_option linter.all false
set_option maxRecDepth 100000
namespace Lw
open PySem L2 Lm
abbrev bls (n : Nat) : List Nat := List.replicate n 32
theorem mul_S (c : Nat) (n : Nat) : Txt.mul (S [c]) (n : Int) = S (List.replicate n c) := by
  unfold Txt.mul
  by_cases h : (n : Int) < 1
  · rw [if_pos h]
    have : n = 0 := by omega
    subst this
    rfl
  · rw [if_neg h]
    by_cases h1 : n = 1
    · subst h1; rfl
    · rw [if_neg (by
        rw [Bool.or_eq_true]
        rintro (z | z)
        · have : (n : Int) = 1 := by simpa using z
          omega
        · rw [S_len] at z; simp at z)]
      have key : ∀ (m : Nat) (acc : List Nat), List.foldl (fun x1 x2 => x1 ++ x2) acc.toArray (List.replicate m (S [c]).cps) = (acc ++ List.replicate m c).toArray := by
        intro m
        induction m with
        | zero => intro acc; simp
        | succ m ih =>
          intro acc
          rw [List.replicate_succ, List.foldl_cons]
          have e : acc.toArray ++ (S [c]).cps = (acc ++ [c]).toArray := by simp
          rw [e, ih (acc ++ [c]), List.replicate_succ]
          simp
      have := key n []
      rw [show (n : Int).toNat = n by omega]
      simp only [List.nil_append] at this
      rw [show (#[] : Array Nat) = ([] : List Nat).toArray from rfl, this]
theorem splitC_mid (c : Nat) (r : List Nat) : ∀ l : List Nat, splitC c (l ++ c :: r) = splitC c l ++ splitC c r
  | [] => by rw [List.nil_append, splitC_sep]; rfl
  | x :: l => by
    have ih := splitC_mid c r l
    rw [List.cons_append]
    by_cases h : x = c
    · subst h; rw [splitC_sep, splitC_sep, ih]; rfl
    · obtain ⟨p, t, e1, e2⟩ := splitC_cons c x l h
      obtain ⟨p', t', e3, e4⟩ := splitC_cons c x (l ++ c :: r) h
      rw [e4, e2]
      rw [e1, e3] at ih
      cases ih
      rfl
theorem words_mid (l r : List Nat) : wordsC (l ++ 32 :: r) = wordsC l ++ wordsC r := by
  unfold wordsC
  rw [splitC_mid, List.filter_append]
theorem words_blanks (r : List Nat) : ∀ n : Nat, wordsC (bls n ++ r) = wordsC r
  | 0 => rfl
  | n + 1 => by
    rw [bls, List.replicate_succ, List.cons_append, words_blank]
    exact words_blanks r n
theorem words_sep (l r : List Nat) (n : Nat) : wordsC (l ++ bls (n + 1) ++ r) = wordsC l ++ wordsC r := by
  rw [List.append_assoc, bls, List.replicate_succ, List.cons_append, words_mid]
  rw [show List.replicate n 32 ++ r = bls n ++ r from rfl, words_blanks]
theorem bare_end {x : List Nat} (n : Nat) (h : x.getLastD 0 ≠ 32) : bareC (x ++ bls n) = x := by
  unfold bareC rstripL
  rw [List.reverse_append, bls, List.reverse_replicate]
  have key : ∀ m : Nat, (List.replicate m 32 ++ x.reverse).dropWhile ([32] : List Nat).contains = x.reverse.dropWhile ([32] : List Nat).contains := by
    intro m
    induction m with
    | zero => rfl
    | succ m ih => rw [List.replicate_succ, List.cons_append, List.dropWhile_cons_of_pos (by decide)]; exact ih
  rw [key]
  rcases List.eq_nil_or_concat x with rfl | ⟨q, y, rfl⟩
  · rfl
  · rw [List.concat_eq_append] at h ⊢
    rw [List.reverse_append]
    have hy : y ≠ 32 := by simpa using h
    show ((y :: q.reverse).dropWhile ([32] : List Nat).contains).reverse = q ++ [y]
    rw [List.dropWhile_cons_of_neg (by simpa using hy)]
    simp
theorem last_app {a b : List Nat} (h : b ≠ []) : (a ++ b).getLastD 0 = b.getLastD 0 := by
  rcases List.eq_nil_or_concat b with rfl | ⟨q, y, rfl⟩
  · exact absurd rfl h
  · rw [List.concat_eq_append, ← List.append_assoc]; simp
theorem ne_of_last {x : List Nat} (h : x.getLastD 0 ≠ 32) (h0 : x[0]? = some 120) : x ≠ [] := fun z => by rw [z] at h0; cases h0
/-- the row's bare, its first sign none of the marks -/
theorem sort_else {l b : List Nat} (hb : bareC l = b) (hn : b ≠ []) (h : ∀ x, b[0]? = some x → x ≠ 62 ∧ x ≠ 126 ∧ x ≠ 61 ∧ x ≠ 124 ∧ x ≠ 91) : sortC l = itemC b := by
  obtain ⟨x, r, rfl⟩ : ∃ x r, b = x :: r := by
    cases b with
    | nil => exact absurd rfl hn
    | cons x r => exact ⟨x, r, rfl⟩
  obtain ⟨h1, h2, h3, h4, h5⟩ := h x rfl
  have hl : levelC (x :: r) = 0 := by
    unfold levelC
    rw [List.takeWhile_cons_of_neg (by simpa using h3)]; rfl
  have hh : headC (x :: r) = 0 := by unfold headC; rw [hl]; split <;> rfl
  have hd : defC (x :: r) = none := by
    unfold defC
    split
    · rfl
    · rw [if_pos (by rw [pre1]; intro z; exact h5 (Option.some.inj z))]
  unfold sortC
  simp only []
  rw [hb, if_neg (by simp), if_neg (by rw [pre1]; intro z; exact h1 (Option.some.inj z)), if_neg (by intro z; cases z; exact h2 rfl), if_neg (by rw [hh]; omega), if_neg, hd]
  unfold isCellsC
  intro z
  rw [Bool.and_eq_true, Bool.and_eq_true, pre1] at z
  exact h4 (Option.some.inj z.1.2)
theorem tw_rep (n c : Nat) (r : List Nat) (h : r.headD 0 ≠ c) (hc : c ≠ 0) : (List.replicate n c ++ r).takeWhile ([c] : List Nat).contains = List.replicate n c := by
  induction n with
  | zero =>
    cases r with
    | nil => rfl
    | cons x r =>
      show (x :: r).takeWhile _ = []
      rw [List.takeWhile_cons_of_neg (by simpa using h)]
  | succ n ih => rw [List.replicate_succ, List.cons_append, List.takeWhile_cons_of_pos (by simp), ih]
theorem dw_rep (n c : Nat) (r : List Nat) (h : r.headD 0 ≠ c) (hc : c ≠ 0) : (List.replicate n c ++ r).dropWhile ([c] : List Nat).contains = r := by
  induction n with
  | zero =>
    cases r with
    | nil => rfl
    | cons x r =>
      show (x :: r).dropWhile _ = x :: r
      rw [List.dropWhile_cons_of_neg (by simpa using h)]
  | succ n ih => rw [List.replicate_succ, List.cons_append, List.dropWhile_cons_of_pos (by simp), ih]
/-- words as the law builds them -/
structure Words (neat loose : List Nat) : Prop where
  e : neat = tidyC loose
  h : loose[0]? = some 120
  l : loose.getLastD 0 ≠ 32
  a : Asc loose
  n : loose.length ≤ 200
section
variable {neat loose : List Nat}
theorem Words.ne (W : Words neat loose) : loose ≠ [] := ne_of_last W.l W.h
theorem Words.asc (W : Words neat loose) : Asc neat := by rw [W.e]; exact W.a.tidy
theorem Words.len (W : Words neat loose) : neat.length ≤ 200 := by rw [W.e]; exact Nat.le_trans (tidy_len _) W.n
theorem Words.hd (W : Words neat loose) : loose.headD 0 = 120 := by
  have := W.h
  cases hl : loose with
  | nil => rw [hl] at this; cases this
  | cons x r => rw [hl] at this; exact Option.some.inj this
theorem sort_plain (W : Words neat loose) (far n : Nat) : sortC (bls far ++ loose ++ bls n) = .plain far neat := by
  have hb := bare_end (x := bls far ++ loose) n (by rw [last_app W.ne]; exact W.l)
  have hdw : (bls far ++ loose).dropWhile ([32] : List Nat).contains = loose := dw_rep far 32 loose (by rw [W.hd]; decide) (by decide)
  rw [sort_else hb (by simp [W.ne]) ?_]
  · unfold itemC
    simp only []
    rw [hdw, if_neg]
    · rw [List.length_append, bls, List.length_replicate, W.e, Nat.add_sub_cancel]
    · rintro (z | z) <;> rw [pre2, W.h] at z <;> cases z.1
  · intro x hx
    cases far with
    | zero => rw [show bls 0 ++ loose = loose from rfl, W.h] at hx; cases hx; decide
    | succ k => rw [bls, List.replicate_succ] at hx; cases hx; decide
theorem sort_item (W : Words neat loose) (far k n sg : Nat) (hs : sg = 45 ∨ sg = 43) : sortC (bls far ++ [sg] ++ bls (k + 1) ++ loose ++ bls n) = .item far sg neat := by
  have hb := bare_end (x := bls far ++ [sg] ++ bls (k + 1) ++ loose) n (by rw [last_app W.ne]; exact W.l)
  have e0 : bls far ++ [sg] ++ bls (k + 1) ++ loose = bls far ++ (sg :: (bls (k + 1) ++ loose)) := by simp
  have hdw : (bls far ++ [sg] ++ bls (k + 1) ++ loose).dropWhile ([32] : List Nat).contains = sg :: (bls (k + 1) ++ loose) := by
    rw [e0]
    exact dw_rep far 32 _ (show sg ≠ 32 by rcases hs with rfl | rfl <;> decide) (by decide)
  rw [sort_else hb (by simp) ?_]
  · unfold itemC
    simp only []
    rw [hdw, if_pos]
    · have e1 : (bls far ++ [sg] ++ bls (k + 1) ++ loose).length - (sg :: (bls (k + 1) ++ loose)).length = far := by
        rw [e0, List.length_append, bls, List.length_replicate]; omega
      rw [e1, W.e]
      congr 1
      unfold tidyC
      congr 1
      show wordsC ((bls (k + 1) ++ loose).drop 1) = wordsC loose
      rw [bls, List.replicate_succ, List.cons_append, List.drop_one, List.tail_cons]
      exact words_blanks loose k
    · rw [pre2, pre2]
      have e2 : (sg :: (bls (k + 1) ++ loose))[1]? = some 32 := by
        rw [bls, List.replicate_succ]; rfl
      rcases hs with rfl | rfl
      · exact .inl ⟨rfl, e2⟩
      · exact .inr ⟨rfl, e2⟩
  · intro x hx
    rw [e0] at hx
    cases far with
    | zero => rcases hs with rfl | rfl <;> cases hx <;> decide
    | succ k => rw [bls, List.replicate_succ] at hx; cases hx; decide
theorem sort_heading (W : Words neat loose) (lv k n : Nat) (h1 : 1 ≤ lv) (h3 : lv ≤ 3) : sortC (List.replicate lv 61 ++ bls (k + 1) ++ loose ++ bls n) = .heading lv neat := by
  have hb := bare_end (x := List.replicate lv 61 ++ bls (k + 1) ++ loose) n (by rw [last_app W.ne]; exact W.l)
  have e0 : List.replicate lv 61 ++ bls (k + 1) ++ loose = List.replicate lv 61 ++ (32 :: (bls k ++ loose)) := by rw [bls, List.replicate_succ]; simp
  have hl : levelC (List.replicate lv 61 ++ bls (k + 1) ++ loose) = lv := by
    unfold levelC
    rw [e0, tw_rep lv 61 (32 :: (bls k ++ loose)) (show (32 : Nat) ≠ 61 by decide) (by decide), List.length_replicate]
  have hdr : (List.replicate lv 61 ++ bls (k + 1) ++ loose).drop lv = 32 :: (bls k ++ loose) := by
    rw [e0, List.drop_append_of_le_length (by simp)]
    simp
  have hh : headC (List.replicate lv 61 ++ bls (k + 1) ++ loose) = lv := by
    unfold headC
    rw [hl, if_neg]
    rintro (z | z)
    · omega
    · rw [hdr, pre1] at z; exact z rfl
  have h0 : (List.replicate lv 61 ++ bls (k + 1) ++ loose)[0]? = some 61 := by
    obtain ⟨m, rfl⟩ : ∃ m, lv = m + 1 := ⟨lv - 1, by omega⟩
    rw [List.replicate_succ]; rfl
  unfold sortC
  simp only []
  rw [hb, if_neg (by simp [W.ne]), if_neg (by rw [pre1, h0]; intro z; cases z), if_neg (by intro z; rw [z] at h0; cases h0), if_pos (by rw [hh]; omega), hh, hdr, W.e]
  congr 1
  unfold tidyC
  rw [words_blank, words_blanks]
/-- a note's or a name's row -/
theorem find_name (pre name r : List Nat) (hp : ∀ c ∈ pre, c ≠ 93) (hn : ∀ c ∈ name, c ≠ 93) : findL [93, 58, 32] (pre ++ name ++ [93, 58, 32] ++ r) = some (pre.length + name.length) := by
  have e : pre ++ name ++ [93, 58, 32] ++ r = (pre ++ name) ++ ([93, 58, 32] ++ r) := by simp
  refine find_at ?_ (fun k hk z => ?_) ?_
  · simp only [List.length_append]; omega
  · have h1 : (pre ++ name ++ [93, 58, 32] ++ r)[k]? = some 93 := by
      have := congrArg (fun t => t[0]?) z
      simp only [List.getElem?_take, List.getElem?_drop] at this
      simpa using this
    rw [e, List.getElem?_append_left (by rw [List.length_append]; omega)] at h1
    rcases List.mem_append.mp (List.mem_of_getElem? h1) with z | z
    · exact hp 93 z rfl
    · exact hn 93 z rfl
  · rw [e, ← List.length_append, List.drop_left]; rfl
theorem name_no93 {name : List Nat} (h : isNameC name = true) : (∀ c ∈ name, c ≠ 93) ∧ name[0]? ≠ some 94 ∧ name ≠ [] ∧ name.length ≤ 12 := by
  unfold isNameC at h
  rw [Bool.and_eq_true, Bool.and_eq_true] at h
  have key : ∀ x ∈ nameSigns, x ≠ 93 ∧ x ≠ 94 := by decide
  have hm : ∀ c ∈ name, c ∈ nameSigns := fun c hc => List.contains_iff_mem.mp (List.all_eq_true.mp h.2 c hc)
  refine ⟨fun c hc => (key c (hm c hc)).1, fun z => (key 94 (hm 94 (List.mem_of_getElem? z))).2 rfl, fun z => ?_, of_decide_eq_true h.1.2⟩
  have := of_decide_eq_true h.1.1
  rw [z] at this
  cases this
theorem sort_br {l b : List Nat} (hb : bareC l = b) (h : b[0]? = some 91) : sortC l = match defC b with | some d => d | none => itemC b := by
  obtain ⟨r, rfl⟩ : ∃ r, b = 91 :: r := by
    cases b with
    | nil => cases h
    | cons x r => cases h; exact ⟨r, rfl⟩
  have hl : levelC (91 :: r) = 0 := by
    unfold levelC
    rw [List.takeWhile_cons_of_neg (by decide)]; rfl
  have hh : headC (91 :: r) = 0 := by unfold headC; rw [hl]; split <;> rfl
  have hc : ¬ isCellsC (91 :: r) = true := by
    unfold isCellsC
    intro z
    rw [Bool.and_eq_true, Bool.and_eq_true, pre1] at z
    cases z.1.2
  unfold sortC
  simp only []
  rw [hb, if_neg (by simp), if_neg (by rw [pre1]; intro z; cases z), if_neg (by intro z; cases z), if_neg (by rw [hh]; omega), if_neg hc]
  all_goals (cases defC (91 :: r) <;> rfl)
theorem sort_note (W : Words neat loose) (name : List Nat) (hn : isNameC name = true) (m n : Nat) : sortC ([91, 94] ++ name ++ [93, 58, 32] ++ bls m ++ loose ++ bls n) = .note (smallC name) neat := by
  obtain ⟨h93, h94, hne, hle⟩ := name_no93 hn
  have hb := bare_end (x := [91, 94] ++ name ++ [93, 58, 32] ++ bls m ++ loose) n (by rw [last_app W.ne]; exact W.l)
  have e0 : [91, 94] ++ name ++ [93, 58, 32] ++ bls m ++ loose = [91, 94] ++ name ++ [93, 58, 32] ++ (bls m ++ loose) := by simp
  have hf := find_name [91, 94] name (bls m ++ loose) (by decide) h93
  rw [← e0] at hf
  have hp1 : [91].isPrefixOf ([91, 94] ++ name ++ [93, 58, 32] ++ bls m ++ loose) = true := by rw [pre1]; rfl
  have hp2 : [91, 94].isPrefixOf ([91, 94] ++ name ++ [93, 58, 32] ++ bls m ++ loose) = true := by rw [pre2]; exact ⟨rfl, rfl⟩
  have ht : (([91, 94] ++ name ++ [93, 58, 32] ++ bls m ++ loose).drop 2).take ([91, 94].length + name.length - 2) = name := by
    show (name ++ [93, 58, 32] ++ bls m ++ loose).take _ = name
    rw [show [91, 94].length + name.length - 2 = name.length by show 2 + name.length - 2 = _; omega]
    simp only [List.append_assoc]
    exact List.take_left ..
  have hd : ([91, 94] ++ name ++ [93, 58, 32] ++ bls m ++ loose).drop ([91, 94].length + name.length + 3) = bls m ++ loose := by
    have : [91, 94] ++ name ++ [93, 58, 32] ++ bls m ++ loose = ([91, 94] ++ name ++ [93, 58, 32]) ++ (bls m ++ loose) := by simp
    rw [this, show [91, 94].length + name.length + 3 = ([91, 94] ++ name ++ [93, 58, 32]).length by simp; omega, List.drop_left]
  have hdef : defC ([91, 94] ++ name ++ [93, 58, 32] ++ bls m ++ loose) = some (.note (smallC name) neat) := by
    unfold defC
    rw [hf]
    simp only []
    rw [if_neg (by rw [hp1]; simp), ht, hd, if_pos ⟨hp2, hn⟩, words_blanks, W.e]
    rfl
  rw [sort_br hb rfl, hdef]
theorem sort_name (name : List Nat) (hn : isNameC name = true) (t : List Nat) (ht0 : t ≠ []) (ht : 32 ∉ t) (m n : Nat) : sortC ([91] ++ name ++ [93, 58, 32] ++ bls m ++ t ++ bls n) = .name (smallC name) t := by
  obtain ⟨h93, h94, hne, hle⟩ := name_no93 hn
  have hlast : t.getLastD 0 ≠ 32 := by
    rcases List.eq_nil_or_concat t with z | ⟨q, y, z⟩
    · exact absurd z ht0
    · rw [List.concat_eq_append] at z
      rw [z] at ht ⊢
      intro w
      apply ht
      have : y = 32 := by simpa using w
      rw [this]; simp
  have hb := bare_end (x := [91] ++ name ++ [93, 58, 32] ++ bls m ++ t) n (by rw [last_app ht0]; exact hlast)
  have e0 : [91] ++ name ++ [93, 58, 32] ++ bls m ++ t = [91] ++ name ++ [93, 58, 32] ++ (bls m ++ t) := by simp
  have hf := find_name [91] name (bls m ++ t) (by decide) h93
  rw [← e0] at hf
  have hp1 : [91].isPrefixOf ([91] ++ name ++ [93, 58, 32] ++ bls m ++ t) = true := by rw [pre1]; rfl
  have hp2 : ¬ [91, 94].isPrefixOf ([91] ++ name ++ [93, 58, 32] ++ bls m ++ t) = true := by
    rw [pre2]
    rintro ⟨_, z⟩
    apply h94
    cases name with
    | nil => exact absurd rfl hne
    | cons x r => exact z
  have htk : (([91] ++ name ++ [93, 58, 32] ++ bls m ++ t).drop 1).take ([91].length + name.length - 1) = name := by
    show (name ++ [93, 58, 32] ++ bls m ++ t).take _ = name
    rw [show [91].length + name.length - 1 = name.length by show 1 + name.length - 1 = _; omega]
    simp only [List.append_assoc]
    exact List.take_left ..
  have hd : ([91] ++ name ++ [93, 58, 32] ++ bls m ++ t).drop ([91].length + name.length + 3) = bls m ++ t := by
    have : [91] ++ name ++ [93, 58, 32] ++ bls m ++ t = ([91] ++ name ++ [93, 58, 32]) ++ (bls m ++ t) := by simp
    rw [this, show [91].length + name.length + 3 = ([91] ++ name ++ [93, 58, 32]).length by simp; omega, List.drop_left]
  have hdef : defC ([91] ++ name ++ [93, 58, 32] ++ bls m ++ t) = some (.name (smallC name) t) := by
    unfold defC
    rw [hf]
    simp only []
    rw [if_neg (by rw [hp1]; simp), htk, hd, if_neg (fun z => hp2 z.1), words_blanks, words_one t ht ht0, if_pos ⟨hn, rfl⟩]
    rfl
  rw [sort_br hb rfl, hdef]
theorem sort_empty (n : Nat) : sortC (bls n) = .empty := by
  have hb := bare_end (x := []) n (by decide)
  rw [List.nil_append] at hb
  unfold sortC
  simp only []
  rw [hb, if_pos rfl]
theorem sort_fence (n : Nat) : sortC ([126, 126, 126] ++ bls n) = .fence := by
  have hb := bare_end (x := [126, 126, 126]) n (by decide)
  unfold sortC
  simp only []
  rw [hb, if_neg (by decide), if_neg (by decide), if_pos rfl]
/-- a quote: its bare begins with the sign whatever is behind -/
theorem sort_quote {l : List Nat} (h : l[0]? = some 62) : sortC l = .quote (restQ l) := by
  obtain ⟨t, e, ht, hh⟩ := rstrip_split ([32] : List Nat).contains l
  have e : l = bareC l ++ t := e
  have hn : bareC l ≠ [] := fun z => by
    have := (bare_nil_iff l).mp z 62 (List.mem_of_getElem? h)
    cases this
  have h0 : (bareC l)[0]? = some 62 := by
    cases hb : bareC l with
    | nil => exact absurd hb hn
    | cons x r => rw [hb] at e; rw [e] at h; exact h
  unfold sortC
  simp only []
  rw [if_neg hn, if_pos ((pre1 _ _).mpr h0)]
theorem rest_gap (r : List Nat) : restQ (62 :: 32 :: r) = r := by unfold restQ; rw [if_pos (by rw [pre2]; exact ⟨rfl, rfl⟩)]; rfl
theorem rest_no (r : List Nat) (h : r[0]? ≠ some 32) : restQ (62 :: r) = r := by
  unfold restQ
  rw [if_neg (by rw [pre2]; exact fun z => h z.2)]; rfl
/-! ### cells -/
theorem aux_bar (r : List Nat) : cellsAux 124 r = cellsAux 0 r := by
  cases r with
  | nil => rfl
  | cons x r =>
    rw [cellsAux, cellsAux]
    have : (x = 124 ∧ (124 : Nat) ≠ 92) ↔ (x = 124 ∧ (0 : Nat) ≠ 92) := ⟨fun h => ⟨h.1, by decide⟩, fun h => ⟨h.1, by decide⟩⟩
    by_cases h : x = 124
    · rw [if_pos ⟨h, by decide⟩, if_pos ⟨h, by decide⟩]
    · rw [if_neg (fun z => h z.1), if_neg (fun z => h z.1)]
theorem cells_mid : ∀ (a r : List Nat) (p : Nat), (p :: a).getLastD 0 ≠ 92 → cellsAux p (a ++ 124 :: r) = cellsAux p a ++ cellsAux 0 r
  | [], r, p, h => by
    have hp : p ≠ 92 := by simpa using h
    show (if (124 : Nat) = 124 ∧ p ≠ 92 then [] :: cellsAux 124 r else _) = _
    rw [if_pos ⟨rfl, hp⟩, aux_bar]; rfl
  | x :: a, r, p, h => by
    have ih := cells_mid a r x (by simpa using h)
    rw [List.cons_append, cellsAux, cellsAux, ih]
    split
    · rfl
    · cases hc : cellsAux x a with
      | nil => exact absurd hc (cellsAux_ne a x)
      | cons y z => rfl
theorem raw_mid (a r : List Nat) (h : a.getLastD 0 ≠ 92) : rawCells (a ++ 124 :: r) = rawCells a ++ rawCells r := by
  unfold rawCells
  refine cells_mid a r 0 ?_
  cases a with
  | nil => decide
  | cons x a => simpa using h
theorem sort_cells {inner : List Nat} (hl : inner.getLastD 0 ≠ 92) (n : Nat) : sortC ([124] ++ inner ++ [124] ++ bls n) = .cells (cellsC inner) := by
  have hb := bare_end (x := [124] ++ inner ++ [124]) n (by rw [last_app (by simp)]; decide)
  have hlev : levelC ([124] ++ inner ++ [124]) = 0 := by
    unfold levelC
    show ((124 :: (inner ++ [124])).takeWhile _).length = 0
    rw [List.takeWhile_cons_of_neg (by decide)]; rfl
  have hh : headC ([124] ++ inner ++ [124]) = 0 := by unfold headC; rw [hlev]; split <;> rfl
  have hlen : ([124] ++ inner ++ [124]).length = inner.length + 2 := by simp
  have hc : isCellsC ([124] ++ inner ++ [124]) = true := by
    unfold isCellsC
    rw [hlen, decide_eq_true (show 2 ≤ inner.length + 2 by omega), (pre1 _ _).mpr rfl, Bool.true_and, Bool.true_and]
    rw [show inner.length + 2 - 1 = ([124] ++ inner).length by simp, isBar_at]
    refine decide_eq_true ⟨rfl, ?_⟩
    rcases List.eq_nil_or_concat inner with z | ⟨q, y, z⟩
    · rw [z]; decide
    · rw [last_app (by rw [z]; simp)]; exact hl
  have hin : (([124] ++ inner ++ [124]).drop 1).take (([124] ++ inner ++ [124]).length - 2) = inner := by
    rw [hlen]
    show (inner ++ [124]).take (inner.length + 2 - 2) = inner
    rw [Nat.add_sub_cancel]
    exact List.take_left ..
  unfold sortC
  simp only []
  rw [hb, if_neg (by simp), if_neg (by rw [pre1]; intro z; cases z), if_neg (by intro z; cases z), if_neg (by rw [hh]; omega), if_pos hc, hin]
end
/-- numbers walked: all that is told has the property -/
theorem lc_rangeA {n : Nat} {k : Nat} {fr : List Nat} {g : TG} {tt : TT} {te : TE} {σ : St} {H0 : Hp} {Q : Addr → Hp → Prop} (lo : Int) (Pr : V → Prop) (hl : n ≤ sizeLine)
    (ht : ∀ i, i < n → ∀ H', Same H0 H' → ∀ (C : V → Hp → Prop) (N : Hp → Prop), (∀ v H4, Same H' H4 → Pr v → C v H4) →
      g (.int (lo + (i : Nat))) (nfS k fr σ) H' fun σ2 H2 => nfLe k fr σ σ2 ∧ tt σ2 H2 fun b H3 => if b = true then te σ2 H3 C else N H3)
    (hq : ∀ D H' ys, H0 D = none → Same H0 H' → H' D = some (.lst ys) → ys.length = n → (∀ y ∈ ys, Pr y) → Q D H') : rLC k fr g tt te σ (Itr lo n) H0 Q := by
  intro D hD
  refine ⟨fun i m acc H => m = n - i ∧ i ≤ n ∧ acc.length = i ∧ (∀ y ∈ acc, Pr y) ∧ H D = some (.lst acc) ∧ Same H0 H, ⟨n, by simp, Nat.zero_le _, rfl, (fun _ z => nomatch z), upd_same, same_new hD _⟩, ?_⟩
  rintro i m acc H ⟨rfl, hi, ha, hP, hDa, sm⟩
  refine ⟨hDa, ?_⟩
  by_cases hlt : i < n
  · refine .inr ⟨hlt, ?_⟩
    rintro x H' ⟨rfl, rfl⟩
    refine ht i hlt _ sm _ _ fun v H4 s4 pv => ?_
    refine ⟨s4 _ _ hDa, by omega, n - (i + 1), by omega, rfl, hlt, by rw [List.length_append, ha]; rfl, ?_, upd_same, same_grow hD (sm.trans s4)⟩
    intro z hz
    rcases List.mem_append.mp hz with hz | hz
    · exact hP z hz
    · rw [show z = v by simpa using hz]; exact pv
  · exact .inl ⟨by show n ≤ i; omega, hq D H acc hD sm hDa (by omega) hP⟩
/-- texts of one sign each -/
theorem signs_of {p : Nat → Prop} : ∀ {ys : List V}, (∀ y ∈ ys, ∃ c, y = vS [c] ∧ p c) → ∃ cs : List Nat, ys = (cs.map fun c => S [c]).map V.str ∧ cs.length = ys.length ∧ ∀ c ∈ cs, p c
  | [], _ => ⟨[], rfl, rfl, fun _ z => nomatch z⟩
  | y :: ys, h => by
    obtain ⟨c, e, pc⟩ := h y (List.mem_cons_self ..)
    obtain ⟨cs, e2, hl, hp⟩ := signs_of (ys := ys) fun z hz => h z (List.mem_cons_of_mem _ hz)
    refine ⟨c :: cs, by rw [e, e2]; rfl, by rw [List.length_cons, List.length_cons, hl], ?_⟩
    intro x hx
    rcases List.mem_cons.mp hx with rfl | hx
    · exact pc
    · exact hp x hx
theorem glue_signs : ∀ cs : List Nat, glueC [] (cs.map fun c => [c]) = cs
  | [] => rfl
  | [c] => rfl
  | c :: d :: cs => by
    have ih := glue_signs (d :: cs)
    rw [List.map_cons, glueC_cons _ _ _ (by simp), ih]; rfl
theorem join_signs (cs : List Nat) : Txt.join (Str.ofString "") (cs.map fun c => S [c]) = S cs := by
  have h := joinT_S [] (cs.map fun c => [c])
  rw [List.map_map, glue_signs] at h
  exact h
theorem texts_of {p : List Nat → Prop} : ∀ {ys : List V}, (∀ y ∈ ys, ∃ l, y = vS l ∧ p l) → ∃ ls : List (List Nat), ys = ls.map vS ∧ ∀ l ∈ ls, p l
  | [], _ => ⟨[], rfl, fun _ z => nomatch z⟩
  | y :: ys, h => by
    obtain ⟨l, e, pl⟩ := h y (List.mem_cons_self ..)
    obtain ⟨ls, e2, hp⟩ := texts_of (ys := ys) fun z hz => h z (List.mem_cons_of_mem _ hz)
    refine ⟨l :: ls, by rw [e, e2]; rfl, ?_⟩
    intro x hx
    rcases List.mem_cons.mp hx with rfl | hx
    · exact pl
    · exact hp x hx
theorem ev_mul {σ : St} {H : Hp} {tb : TE} {y : Str} (c n : Nat) (ey : y = S [c]) (hn : n ≤ 1000) (h : Ev tb σ H (.int n)) : Ev (tOp (fun x y H Q => ∃ z n, x = V.str z ∧ y = V.int n ∧ z.length = 1 ∧ 0 ≤ n ∧ n ≤ 1000 ∧ Q (V.str (Txt.mul z n)) H) (tC (.str y)) tb) σ H (vS (List.replicate n c)) := fun R r => by
  refine h _ ⟨_, _, rfl, rfl, by rw [ey]; rfl, by omega, by omega, ?_⟩
  rw [ey, mul_S]
  exact r
theorem ev_mod {σ : St} {H : Hp} {ta : TE} {i m : Int} (hm : 0 < m) (h : Ev ta σ H (.int i)) : Ev (tOp (rI (fun _ j => 0 < j) fun i j => .int (i % j)) ta (tC (.int m))) σ H (.int (i % m)) := fun R r => h _ ⟨i, m, rfl, rfl, hm, r⟩
theorem ev_div {σ : St} {H : Hp} {ta : TE} {i m : Int} (hm : CDiv i m) (h : Ev ta σ H (.int i)) : Ev (tOp (rI CDiv fun i j => .int (i / j)) ta (tC (.int m))) σ H (.int (i / m)) := fun R r => h _ ⟨i, m, rfl, rfl, hm, r⟩
end Lw

set_option Elab.async false
set_option linter.all false
set_option maxRecDepth 100000
namespace L2
open PySem PySem.Spec PyProof.Rows
section
variable {X : Cx} {c P : Addr} {k i : Nat} {x name : Str} {ps : List Str} {e : Expr} {es : List Expr} {t : TA} {p pos : Pos} {params : Arguments} {body : List Stmt} {scope : Scope} {qs : List (Pos × Str)}
theorem star_parts (hst : noStars (e :: es) = true) : isStar e = false ∧ noStars es = true := by
  unfold noStars at hst
  rw [Bool.and_eq_true, Bool.not_eq_true'] at hst
  exact hst
theorem xcX (hm : ∃ f, X.mg x = some (.ref f) ∧ PySem.W.keepIn X.K (.ref f) = true) (hfn : ∀ x, X.fn x = true) (hr : Room k X.A) (ha : XA X (e :: es) t) (hg : Gl X x := by exact rfl) (hdb : (x == ("__debug__" : Str)) = false := by decide) (hst : noStars (e :: es) = true := by rfl) :
    XE X (.Call (.Name x p) (e :: es) [] pos) (tCallX X k x ps t) := ⟨pe_callX hm hfn hr ha.h hg hdb (star_cons (star_parts hst).1) (stars_any (star_parts hst).2)⟩
theorem xcV (hN : X.N[i]? = some x) (hv : Vis X.env.scope x) (hr : Room k X.A) (ha : XA X (e :: es) t) (hd : (x == ("__debug__" : Str)) = false := by decide) (hcd : (x == ("__classdict__" : Str)) = false := by decide) (hst : noStars (e :: es) = true := by rfl) :
    XE X (.Call (.Name x p) (e :: es) [] pos) (tCallV X k i t) := ⟨pe_callV hN hv hr ha.h hd hcd (star_cons (star_parts hst).1) (stars_any (star_parts hst).2)⟩
theorem xdef (T : DefAt X c P) (hcl : ∀ n, (n, NameKind.free) ∈ scope.names → ∃ c, X.env.cells.lookup n = some c) (hq : (pos, qualnameIn X.env name name) ∈ qs) (hqs : ∀ q ∈ qs, q.1.line = pos.line → q.1.col = pos.col → q.2 = qualnameIn X.env name name)
    (hN : X.N.Nodup) (hi : X.N[i]? = some name) (hx : Loc X.env.scope name) (hf : X.fn name = true ∨ X.env.scope.names.lookup name = some .local := by first | exact .inl rfl | exact .inr rfl)
    (hd0 : params.defaults = [] := by rfl) (hk0 : params.kw_defaults = [] := by rfl) (ha : annTrees params none X.env = [] := by rfl) :
    XS X (.FunctionDef name params body [] none [] scope none name pos) (tDef P qs i (FnMade X name params body scope)) := ⟨ps_def T hcl hq hqs hN hi hx hf hd0 hk0 ha⟩
end
/-- all but W is kept -/
def SameW (W : Addr → Prop) (H H' : Hp) : Prop := ∀ b o, ¬ W b → H b = some o → H' b = some o
theorem SameW.refl {W : Addr → Prop} {H : Hp} : SameW W H H := fun _ _ _ h => h
theorem SameW.trans {W : Addr → Prop} {H H1 H2 : Hp} (a : SameW W H H1) (b : SameW W H1 H2) : SameW W H H2 := fun c o n h => b c o n (a c o n h)
theorem SameW.mono {W W' : Addr → Prop} {H H1 : Hp} (a : SameW W H H1) (h : ∀ b, W b → W' b) : SameW W' H H1 := fun c o n e => a c o (fun z => n (h c z)) e
theorem SameW.free {W : Addr → Prop} {H H' : Hp} (e : SameW W H H') {l : Addr} (hx : ¬ W l) (h : H' l = none) : H l = none := by
  cases q : H l with
  | none => rfl
  | some o => rw [e l o hx q] at h; cases h
/-- a function that is handed a number and tells a text: L by the number; what it may change is W; Pre k: it may be called k times more -/
structure LeadW (W : Addr → Prop) (Pre : Nat → Hp → Prop) : Prop where
  stay : ∀ k H H', Pre k H → (∀ b, W b → H' b = H b) → Pre k H'
  there : ∀ k H b, Pre k H → W b → H b ≠ none
  less : ∀ k H, Pre (k + 1) H → Pre k H
def spLeadF (W : Addr → Prop) (Pre : Nat → Hp → Prop) (L : Nat → List Nat) : Sp := fun vs H Q _ => ∃ n k : Nat, vs = [.int n] ∧ n ≤ 4000000 ∧ Pre (k + 1) H ∧ ∀ H', Pre k H' → SameW W H H' → Q (.str (Lm.S (L n))) H'
end L2
namespace Lm
/-! ### words filled -/
def fitC (room : Nat) (due : List Nat) : List (List Nat) → List Nat × List (List Nat)
  | [] => (due, [])
  | w :: r => if due.length + 1 + w.length ≤ room then fitC room (due ++ [32] ++ w) r else (due, w :: r)
inductive Filled (width : Nat) (L : Nat → List Nat) : Nat → List (List Nat) → List (List Nat) → Prop where
  | nil (n) : Filled width L n [] []
  | cut (n w r rows) : width - (L n).length < w.length → Filled width L (n + 1) (w.drop (width - (L n).length) :: r) rows → Filled width L n (w :: r) ((L n ++ w.take (width - (L n).length)) :: rows)
  | row (n w r rows) : w.length ≤ width - (L n).length → Filled width L (n + 1) (fitC (width - (L n).length) w r).2 rows → Filled width L n (w :: r) ((L n ++ (fitC (width - (L n).length) w r).1) :: rows)
theorem Filled.det {width : Nat} {L : Nat → List Nat} {n : Nat} {ws r1 : List (List Nat)} (h : Filled width L n ws r1) : ∀ {r2}, Filled width L n ws r2 → r1 = r2 := by
  induction h with
  | nil n => intro r2 h2; cases h2; rfl
  | cut n w r rows hc _ ih =>
    intro r2 h2
    cases h2 with
    | cut _ _ _ rows2 _ h3 => rw [ih h3]
    | row _ _ _ rows2 h3 _ => omega
  | row n w r rows hc _ ih =>
    intro r2 h2
    cases h2 with
    | cut _ _ _ rows2 h3 _ => omega
    | row _ _ _ rows2 _ h3 => rw [ih h3]
def tot : List (List Nat) → Nat
  | [] => 0
  | w :: r => w.length + 1 + tot r
theorem fit_left (room : Nat) : ∀ (r : List (List Nat)) (due : List Nat), tot (fitC room due r).2 ≤ tot r ∧ (∀ w ∈ (fitC room due r).2, w ∈ r)
  | [], _ => ⟨Nat.le_refl _, fun _ h => h⟩
  | w :: r, due => by
    unfold fitC
    split
    · have := fit_left room r (due ++ [32] ++ w)
      exact ⟨Nat.le_trans this.1 (by simp [tot]), fun x hx => List.mem_cons_of_mem _ (this.2 x hx)⟩
    · exact ⟨Nat.le_refl _, fun _ h => h⟩
theorem Filled.count {width : Nat} {L : Nat → List Nat} {n : Nat} {ws rows : List (List Nat)} (h : Filled width L n ws rows) (hL : ∀ n, (L n).length < width) : rows.length ≤ tot ws := by
  induction h with
  | nil n => exact Nat.le_refl _
  | cut n w r rows hc _ ih =>
    have := hL n
    simp only [tot, List.length_cons, List.length_drop] at ih ⊢
    omega
  | row n w r rows hc _ ih =>
    have := (fit_left (width - (L n).length) r w).1
    simp only [tot, List.length_cons]
    omega
theorem fit_len (room : Nat) : ∀ (r : List (List Nat)) (due : List Nat), due.length ≤ room → (fitC room due r).1.length ≤ room
  | [], _, h => h
  | w :: r, due, h => by
    unfold fitC
    split
    · rename_i hc
      exact fit_len room r _ (by simp only [List.length_append, List.length_cons, List.length_nil]; omega)
    · exact h
theorem Filled.wide {width : Nat} {L : Nat → List Nat} {n : Nat} {ws rows : List (List Nat)} (h : Filled width L n ws rows) (hL : ∀ n, (L n).length < width) : ∀ r ∈ rows, r.length ≤ width := by
  induction h with
  | nil n => intro r h; cases h
  | cut n w r rows hc _ ih =>
    intro x hx
    rcases List.mem_cons.mp hx with rfl | hx
    · have := hL n
      rw [List.length_append, List.length_take]; omega
    · exact ih x hx
  | row n w r rows hc _ ih =>
    intro x hx
    rcases List.mem_cons.mp hx with rfl | hx
    · have := hL n
      have := fit_len (width - (L n).length) r w hc
      rw [List.length_append]; omega
    · exact ih x hx
theorem tot_le {ws : List (List Nat)} {m : Nat} (h : ∀ w ∈ ws, w.length ≤ m) : tot ws ≤ ws.length * (m + 1) := by
  induction ws with
  | nil => simp [tot]
  | cons w ws ih =>
    have h1 := h w List.mem_cons_self
    have h2 := ih fun x hx => h x (List.mem_cons_of_mem _ hx)
    simp only [tot, List.length_cons, Nat.add_mul, Nat.one_mul]
    omega
/-- what the law's lead tells -/
def leadC (kind wide : Nat) (n : Nat) : List Nat :=
  if kind = 0 then [] else if kind = 1 then List.replicate wide 43 else if kind = 2 then (if n = 0 then List.replicate wide 45 else List.replicate wide 32) else List.replicate ((wide + 5 * n) % (wide + 1)) 62
theorem lead_len (kind wide n : Nat) : (leadC kind wide n).length ≤ wide := by
  unfold leadC
  have := Nat.mod_lt (wide + 5 * n) (show 0 < wide + 1 by omega)
  split
  · exact Nat.zero_le _
  · split
    · rw [List.length_replicate]; exact Nat.le_refl _
    · split
      · split <;> (rw [List.length_replicate]; exact Nat.le_refl _)
      · rw [List.length_replicate]; omega
end Lm

set_option Elab.async false
set_option linter.all false
set_option maxRecDepth 100000
namespace L2
open PySem PySem.Spec PyProof.Rows
section
variable {X : Cx}
/-- xs.index(m) of whole numbers: the first place -/
def rIndexI : V → List V → Hp → VK → Prop := fun x vs H Q => ∃ (l : Addr) (ns : List Int) (m : Int) (j : Nat), x = .ref l ∧ vs = [.int m] ∧ H l = some (.lst (ns.map V.int)) ∧ ns[j]? = some m ∧ (∀ i, i < j → ns[i]? ≠ some m) ∧ Q (.int j) H
theorem mt_indexI : MtM X "list.index" rIndexI := by
  intro pins s σ H x vs v us Q I rx rv h
  obtain ⟨l, ns, m, j, rfl, rfl, hH, hj, hno, q⟩ := h
  cases rx
  obtain ⟨u, rfl, t, rfl⟩ := rv.one
  obtain ⟨z, its, n, r, hl, e⟩ := I.lstM hH
  have hs : sizeLine = 16777216 := sizeLine_eq
  have hjl : j < ns.length := (List.getElem?_eq_some_iff.mp hj).1
  have hlen : its.length = ns.length := by rw [← r.length, List.length_map]
  have at' : ∀ i (hi : i < its.length), ∃ t', its[i] = .int (ns.getD i 0) t' := fun i hi => vals_int_get r (List.getElem?_eq_getElem hi)
  have ee : ∀ y : Value, y ∈ its.toArray → MeetsSeq.EqGives y (.int m t) (match y with | .int i _ => i == m | _ => false) := fun y hy => by
    obtain ⟨i, hi, rfl⟩ := List.mem_iff_getElem.mp (show y ∈ its by simpa using hy)
    obtain ⟨t', e'⟩ := at' i hi
    rw [e']
    exact MeetsSeq.EqGives.int _ _ _ _
  refine call_meets F.slot_list_index ⟨_, e, rfl⟩ F.entry_list_index (F.args_list_index_2 _ _)
    (MeetsSeq.list_index l its.toArray n (.int m t) (fun y => match y with | .int i _ => i == m | _ => false) ee j (by rw [List.size_toArray]; omega) (by omega) ?_ ?_) ⟨e, ⟨.int j, H, I.tok _, ⟨_, rfl⟩, q⟩⟩
  · obtain ⟨t', e'⟩ := at' j (by omega)
    show (match its.toArray[j]'_ with | .int i _ => i == m | _ => false) = true
    rw [List.getElem_toArray, e', List.getD_eq_getElem?_getD, hj]
    exact beq_self_eq_true m
  · intro i hi hij
    have hi' : i < its.length := by simpa using hi
    obtain ⟨t', e'⟩ := at' i hi'
    show (match its.toArray[i]'_ with | .int i _ => i == m | _ => false) = false
    rw [List.getElem_toArray, e', List.getD_eq_getElem?_getD]
    have hni := hno i hij
    rw [List.getElem?_eq_getElem (by omega)] at hni ⊢
    show (ns[i] == m) = false
    exact beq_eq_false_iff_ne.mpr fun z => hni (by rw [z])
/-- x.ljust(i), x.rjust(i) -/
theorem mt_ljust : MtR X "str.ljust" (fun x vs H Q => ∃ z i, x = .str z ∧ vs = [.int i] ∧ PadOk i = true ∧ Q (.str (Txt.ljust z i)) H) := by
  intro pins s σ H x vs v us Q I rx rv h
  obtain ⟨z, i, rfl, rfl, hi, q⟩ := h
  obtain ⟨t, rfl⟩ := rx
  obtain ⟨u, rfl, t2, rfl⟩ := rv.one
  exact wpAny_with_toks (n := 1) I.tk (SC.ljust hi fun t' k htk => ⟨.str _, H, I.tok _ htk, ⟨_, rfl⟩, q⟩)
theorem mt_rjust : MtR X "str.rjust" (fun x vs H Q => ∃ z i, x = .str z ∧ vs = [.int i] ∧ PadOk i = true ∧ Q (.str (Txt.rjust z i)) H) := by
  intro pins s σ H x vs v us Q I rx rv h
  obtain ⟨z, i, rfl, rfl, hi, q⟩ := h
  obtain ⟨t, rfl⟩ := rx
  obtain ⟨u, rfl, t2, rfl⟩ := rv.one
  exact wpAny_with_toks (n := 1) I.tk (SC.rjust hi fun t' k htk => ⟨.str _, H, I.tok _ htk, ⟨_, rfl⟩, q⟩)
end
end L2

set_option Elab.async false
set_option linter.all false
set_option maxRecDepth 100000
set_option maxHeartbeats 2000000
namespace K9
open PySem L2 Lm Lw
theorem t_rel9 {σ : St} {H : Hp} {p : Int → Int → Bool} {ta tb : TE} {x y : Int} (h1 : Ev ta σ H (.int x)) (h2 : Ev tb σ H (.int y)) : Tells (tTest (tOp (rI0 fun i j => .bl (p i j)) ta tb)) σ H (p x y) := fun R k => h1 _ (h2 _ ⟨x, y, rfl, rfl, _, rfl, k _ (Same.refl _)⟩)
def capV (L : Int) : V → V
  | .int i => .int (min i L)
  | v => v
theorem capV_all (L : Int) (ws : List Int) : (vI ws).map (capV L) = vI (ws.map fun w => min w L) := by
  show List.map _ (List.map _ _) = List.map _ (List.map _ _)
  rw [List.map_map, List.map_map]
  rfl
section
variable {P : Program} {w : World} {K : PySem.W.Frag} {mg : Str → Option Value} {base : Heap}
abbrev sCut : Stmt := top 3
theorem scCut : FnScope ["wants", "level"] ["wants", "level"] (defScope sCut) := ⟨rfl, rfl, rfl, by decide +kernel, rfl, by decide +kernel, by decide +kernel⟩
def spCut : Sp := fun vs H Q _ => ∃ (a : Addr) (ws : List Int) (L : Int), vs = [.ref a, .int L] ∧ H a = some (.lst (vI ws)) ∧ ws.length ≤ 1000 ∧ ∀ D H', H D = none → Same H H' → H' D = some (.lst (vI (ws.map fun w => min w L))) → Q (.ref D) H'
theorem ok_cut {f : Addr} {fd : FuncData} (F : Fun K "cut_down" "cut_down" sCut f fd) (T : Tx9 mg) : FnOk P w K mg base CX0 1 f fd ["wants", "level"] spCut := by
  have sc := scCut
  refine F.ok sc (fun vs H Q E h => ?_) (fun cdv A outer s H vs Q E hr h => ?_)
  · obtain ⟨a, ws, L, rfl, _⟩ := h
    rfl
  obtain ⟨a, ws, L, rfl, ew, hl, q⟩ := h
  refine of_XB (xb1 (xret (xlc (cl := [("level", s.heap.objs.size + 1)]) (own := ["want"]) (fr := [1]) (N' := ["want", "level"]) rfl (compN (xs := ["level"]) ⟨rfl, trivial⟩ ⟨rfl, rfl, .inl rfl, .inl rfl, trivial⟩ (by decide +kernel)) (by decide +kernel) (by decide +kernel) (by with_unfolding_all rfl)
    (xil (xv 0))
    (fun _ _ _ _ => xgn (i := 0) (show (["want", "level"] : List Str).Nodup by decide +kernel) rfl (Or.inl rfl)) (fun _ _ _ _ => xq0) (fun _ _ _ _ => (xcB (call_min2 rfl) T.n_min rfl (xac (xv 0) (xac (xv 1) xa0))))))) ?_
  have hs : sizeLine = 16777216 := sizeLine_eq
  refine ⟨_, rfl, a, rfl, ⟨_, SqL.of ew⟩, ?_⟩
  refine lc_list (fun _ => true) (capV L) (SqL.of ew) (by rw [List.length_map]; omega) ?_ ?_
  · intro x hx H2 s2 C N hC hN
    obtain ⟨i, _, rfl⟩ := List.mem_map.mp hx
    refine ⟨(nfLe.refl _ _ _).set (by decide) _, iteT (B := N H2) ⟨_, rfl, _, rfl, i, L, rfl, ?_⟩⟩
    rw [show (if L < i then L else i) = min i L by split <;> omega]
    exact hC _ (Same.refl _) rfl
  · intro D H2 hD s2 eD
    refine q D H2 hD s2 ?_
    rw [eD, List.filter_eq_self.mpr (fun _ _ => rfl), capV_all]
abbrev sLevel : Stmt := top 2
theorem scLevel : FnScope ["wants", "room", "low", "high", "middle"] ["wants", "room"] (defScope sLevel) := ⟨rfl, rfl, rfl, by decide +kernel, rfl, by decide +kernel, by decide +kernel⟩
def spLevel : Sp := fun vs H Q _ => ∃ (a : Addr) (ws : List Int) (r : Int), vs = [.ref a, .int r] ∧ H a = some (.lst (vI ws)) ∧ 0 < ws.length ∧ ws.length ≤ 1000 ∧ r < ws.sum ∧ ∀ L H', Same H H' → capS ws L ≤ r → r < capS ws (L + 1) → Q (.int L) H'
theorem ok_level {f : Addr} {fd : FuncData} (F : Fun K "level_within" "level_within" sLevel f fd) (T : Tx9 mg) (D_cut_down : Def P w K mg base 1 "cut_down" ["wants", "level"] spCut) : FnOk P w K mg base CX0 2 f fd ["wants", "room"] spLevel := by
  have sc := scLevel
  refine F.ok sc (fun vs H Q E h => ?_) (fun cdv A outer s H vs Q E hr h => ?_)
  · obtain ⟨a, ws, r, rfl, _⟩ := h
    rfl
  obtain ⟨a, ws, r, rfl, ew, h0, h1, hr0, q⟩ := h
  refine of_XB (xbc (xset (i := 2) sc.nd rfl (Or.inl rfl) (xop op_fdiv (xv 1) (xcB call_len_seq T.n_len PySem.boot_len (xac (xv 0) xa0))))
    (xbc (xset (i := 3) sc.nd rfl (Or.inl rfl) (xcB (call_maxL rfl) T.n_max rfl (xac (xv 0) xa0)))
    (xbc (xwhile PassesOwn.never (xcmpT op_gt (xop op_sub (xv 3) (xv 2)) xint (nomark _))
    (xbc (xset (i := 4) sc.nd rfl (Or.inl rfl) (xop op_fdiv (xop op_add (xv 2) (xv 3)) xint))
    (xb1 (xif (xcmpT op_le (xcB (call_sum rfl) T.n_sum rfl (xac (xcD D_cut_down (hr.mono (by decide)) (xac (xv 0) (xac (xv 4) xa0))) xa0)) (xv 1) (nomark _)) (xb1 (xset (i := 2) sc.nd rfl (Or.inl rfl) (xv 4))) (xb1 (xset (i := 3) sc.nd rfl (Or.inl rfl) (xv 4)))))))
    (xb1 (xret (xv 2)))))) ?_
  rw [show start ["wants", "room", "low", "high", "middle"] [V.ref a, V.int r] = [some (V.ref a), some (V.int r), none, none, none] from rfl]
  refine ⟨_, rfl, _, rfl, a, _, rfl, .inl (SqL.of ew), _, _, rfl, rfl, ?_, ?_⟩
  · rw [List.length_map]
    exact ⟨by omega, by omega⟩
  rw [List.length_map]
  dsimp only [gName, List.set_cons_succ, List.set_cons_zero]
  refine ⟨_, rfl, a, ws, rfl, SqL.of ew, h0, fun m hm hmax => ?_⟩
  dsimp only [gName, List.set_cons_succ, List.set_cons_zero]
  have hb0 : capS ws (r / (ws.length : Int)) ≤ r := Int.le_trans (cap_low _ ws) (Int.mul_ediv_self_le (by omega))
  have ht0 : r < capS ws m := by rw [cap_top hmax]; exact hr0
  refine s_join (fun σ' H' => ∃ lo hi x4, σ' = [some (.ref a), some (.int r), some (.int lo), some (.int hi), x4] ∧ Same H H' ∧ capS ws lo ≤ r ∧ r < capS ws (lo + 1)) (fun N hN => ?_) ?_
  · refine while_t (fun n σ H' => ∃ lo hi x4, n = (hi - lo).toNat ∧ σ = [some (.ref a), some (.int r), some (.int lo), some (.int hi), x4] ∧ Same H H' ∧ capS ws lo ≤ r ∧ r < capS ws hi) _ ⟨_, m, none, rfl, rfl, Same.refl _, hb0, ht0⟩ ?_
    rintro n σ H2 ⟨lo, hi, x4, hn, rfl, s2, hlo, hhi⟩
    have hlt : lo < hi := by
      rcases Int.lt_or_le lo hi with z | z
      · exact z
      · have := cap_mono z ws; omega
    refine ⟨_, t_rel9 (p := fun i j => decide (j < i)) (x := hi - lo) (y := 1) (ev_op (ev_v rfl) (ev_v rfl) rfl) ev_c, fun c H3 s3 => ?_, fun c H3 s3 => ?_⟩
    · have c := of_decide_eq_true c
      have s23 := s2.trans s3
      have ew3 := s23 _ _ ew
      refine ⟨_, rfl, _, rfl, _, _, rfl, rfl, _, _, rfl, rfl, ⟨by decide, by decide⟩, ?_⟩
      dsimp only [gName, List.set_cons_succ, List.set_cons_zero]
      generalize hmid : (lo + hi) / 2 = mid
      have hm1 : lo < mid ∧ mid < hi := by omega
      refine s_if (decide (capS ws mid ≤ r)) (fun R k => ⟨_, rfl, _, rfl, a, ws, mid, rfl, ew3, h1, fun D H' hD s' eD => ⟨D, _, rfl, SqL.of eD, _, rfl, _, _, rfl, rfl, _, rfl, k _ s'⟩⟩) (fun H4 s4 d => ?_) (fun H4 s4 d => ?_)
      · have d := of_decide_eq_true d
        refine ⟨_, rfl, (hi - mid).toNat, by omega, mid, hi, _, rfl, rfl, s23.trans s4, d, hhi⟩
      · have d := of_decide_eq_false d
        refine ⟨_, rfl, (mid - lo).toNat, by omega, lo, mid, _, rfl, rfl, s23.trans s4, hlo, by omega⟩
    · have c := of_decide_eq_false c
      exact hN _ _ ⟨lo, hi, x4, rfl, s2.trans s3, hlo, by rw [show lo + 1 = hi by omega]; exact hhi⟩
  rintro σ2 H2 ⟨lo, hi, x4, rfl, s2, hlo, hhi⟩
  exact ⟨_, rfl, q _ _ s2 hlo hhi⟩
abbrev sShares : Stmt := top 1
theorem scShares : FnScope ["wants", "room", "level", "over", "told", "want"] ["wants", "room"] (defScope sShares) := ⟨rfl, rfl, rfl, by decide +kernel, rfl, by decide +kernel, by decide +kernel⟩
theorem ok_shares {f : Addr} {fd : FuncData} (F : Fun K "shares" "shares" sShares f fd) (T : Tx9 mg) (D_cut_down : Def P w K mg base 1 "cut_down" ["wants", "level"] spCut) (D_level_within : Def P w K mg base 2 "level_within" ["wants", "room"] spLevel) : FnOk P w K mg base CX0 4 f fd ["wants", "room"] spShares := by
  have sc := scShares
  refine F.ok sc (fun vs H Q E h => ?_) (fun cdv A outer s H vs Q E hr h => ?_)
  · obtain ⟨a, ws, r, rfl, _⟩ := h
    rfl
  obtain ⟨a, ws, r, rfl, ew, hw, hl0, hl9, hr1, hr2, q⟩ := h
  have hu : (A.deeper (PyProof.Rows.envOfC "shares" (defScope sShares) s.heap.objs.size f cdv)).units + 64 < cLine := by
    have := hr.un
    omega
  refine of_XB (xbc (xif (xor (xcmpT (op_eq0 hu) (xv 0) (xlst xa0) (nomark _)) (xor1 (xcmpT op_le (xcB (call_sum rfl) T.n_sum rfl (xac (xv 0) xa0)) (xv 1) (nomark _)))).xt (xb1 (xret (xcTy call_list_of T.n_list rfl (xac (xv 0) xa0)))) xb0)
    (xbc (xset (i := 2) sc.nd rfl (Or.inl rfl) (xcD D_level_within (hr.mono (by decide)) (xac (xv 0) (xac (xv 1) xa0))))
    (xbc (xset (i := 3) sc.nd rfl (Or.inl rfl) (xop op_sub (xcB (call_sum rfl) T.n_sum rfl (xac (xcD D_cut_down (hr.mono (by decide)) (xac (xv 0) (xac (xop op_add (xv 2) xint) xa0))) xa0)) (xv 1)))
    (xbc (xset (i := 4) sc.nd rfl (Or.inl rfl) (xlst xa0))
    (xbc (xfor PassesOwn.never rfl (xil (xv 0)) (xgn (i := 5) sc.nd rfl (Or.inl rfl))
    (xb1 (xif (xand (xcmpT op_gt (xv 5) (xv 2) (nomark _)) (xand1 (xcmpT op_gt (xv 3) xint (nomark _)))).xt (xbc (xexpr (xm PySem.F.plainAttrs_list PySem.F.slot_list_append PySem.F.type_list_append mt_append (xv 4) (xac (xv 2) xa0)))
    (xb1 (xaug (i := 3) sc.nd rfl (Or.inl rfl) xint ip_sub))) (xb1 (xexpr (xm PySem.F.plainAttrs_list PySem.F.slot_list_append PySem.F.type_list_append mt_append (xv 4) (xac (xcB (call_min2 rfl) T.n_min rfl (xac (xv 5) (xac (xop op_add (xv 2) xint) xa0))) xa0)))))))
    (xb1 (xret (xv 4)))))))) ?_
  have hs : sizeLine = 16777216 := sizeLine_eq
  rw [show start ["wants", "room", "level", "over", "told", "want"] [V.ref a, V.int r] = [some (V.ref a), some (V.int r), none, none, none, none] from rfl]
  have hne : (vI ws).isEmpty = false := by
    cases ws with
    | nil => simp at hl0
    | cons _ _ => rfl
  dsimp only [tSeq, tNext]
  refine s_if (false || decide (ws.sum ≤ r)) (t_or _ _ (fun R k => ⟨_, rfl, big (show (0 : Nat) ≤ 1000000 by decide), fun l hl => ⟨a, l, vI ws, rfl, rfl, SqL.of (same_new hl _ _ _ ew), SqL.of upd_same, _, rfl, ?_⟩⟩) (fun _ H1 s1 R k => ⟨_, rfl, a, ws, rfl, SqL.of (s1 _ _ ew), _, rfl, _, _, rfl, rfl, _, rfl, k _ (Same.refl _)⟩)) (fun H1 s1 c => ?_) (fun H1 s1 c => ?_)
  · show R (vI ws).isEmpty _
    rw [hne]
    exact k _ (same_new hl _)
  · rw [Bool.false_or] at c
    have c := of_decide_eq_true c
    have ew1 := s1 _ _ ew
    refine ⟨_, rfl, a, _, rfl, .inl (SqL.of ew1), fun p hp => q p _ (s1.trans (same_new hp _)) (s1.free hp) ?_⟩
    rw [upd_same]
    unfold sharesL
    rw [if_pos c]
  rw [Bool.false_or] at c
  have c := of_decide_eq_false c
  have ew1 := s1 _ _ ew
  dsimp only [tNext]
  refine ⟨_, rfl, _, rfl, a, ws, r, rfl, ew1, hl0, by omega, by omega, fun L H2 s2 hlo hhi => ?_⟩
  dsimp only [gName, List.set_cons_succ, List.set_cons_zero]
  have s12 := s1.trans s2
  have ew2 := s12 _ _ ew
  refine ⟨_, rfl, _, rfl, _, _, rfl, rfl, a, ws, L + 1, rfl, ew2, by omega, fun D H3 hD s3 eD => ⟨D, _, rfl, SqL.of eD, _, rfl, _, _, rfl, rfl, ?_⟩⟩
  have s13 := s12.trans s3
  dsimp only [gName, List.set_cons_succ, List.set_cons_zero]
  rw [show (ws.map fun w => min w (L + 1)).sum = capS ws (L + 1) from rfl]
  refine ⟨big (show (0 : Nat) ≤ 1000000 by decide), fun p hp => ?_⟩
  have s14 := s13.trans (same_new hp (.lst []))
  have hp0 : H p = none := s13.free hp
  have ep4 : upd H3 p (.lst []) p = some (.lst []) := upd_same
  dsimp only [gName, List.set_cons_succ, List.set_cons_zero]
  generalize upd H3 p (.lst []) = H4 at s14 ep4 ⊢
  have ew4 := s14 _ _ ew
  refine ⟨_, rfl, a, rfl, ⟨_, SqL.of ew4⟩, ?_⟩
  refine for_list (xs := vI ws) (fun i σ H' => ∃ o ys x5, σ = [some (.ref a), some (.int r), some (.int L), some (.int o), some (.ref p), x5] ∧ Same H H' ∧ H' p = some (.lst (vI ys)) ∧ ys ++ goS L o (ws.drop i) = goS L (capS ws (L + 1) - r) ws ∧ ys.length = i)
    ⟨_, [], none, rfl, s14, ep4, rfl, rfl⟩ ?_ ?_ ?_
  · rintro i σ H5 _ ⟨o, ys, x5, _, s5, _⟩
    exact SqL.of (s5 _ _ ew)
  · rintro i v σ H5 hv ⟨o, ys, x5, rfl, s5, ep5, hgo, hyl⟩
    obtain ⟨n, rfl, hn⟩ := vI_get hv
    obtain ⟨hi, hgi⟩ := List.getElem?_eq_some_iff.mp hn
    rw [List.drop_eq_getElem_cons hi, hgi, goS] at hgo
    dsimp only [gName, List.set_cons_succ, List.set_cons_zero]
    refine s_if (decide (L < n) && decide (0 < o)) (t_and _ _ (t_rel9 (p := fun i j => decide (j < i)) (ev_v rfl) (ev_v rfl)) fun _ H6 s6 => t_rel9 (p := fun i j => decide (j < i)) (ev_v rfl) ev_c) (fun H6 s6 d => ?_) (fun H6 s6 d => ?_)
    · rw [Bool.and_eq_true] at d
      rw [if_pos ⟨of_decide_eq_true d.1, of_decide_eq_true d.2⟩] at hgo
      have ep6 := s6 _ _ ep5
      refine ⟨_, rfl, .inl ⟨rfl, _, SqL.of ep6⟩, _, rfl, p, _, _, rfl, rfl, ep6, by rw [List.length_map]; omega, ?_⟩
      refine ⟨_, rfl, _, _, rfl, rfl, ?_⟩
      refine ⟨o - 1, ys ++ [L], _, rfl, same_grow hp0 (s5.trans s6), ?_, by rw [← hgo]; simp, by simp [hyl]⟩
      rw [upd_same]
      show _ = some (HO.lst (List.map V.int _))
      rw [List.map_append]
      rfl
    · have d' : ¬ (L < n ∧ 0 < o) := fun z => by
        rw [Bool.and_eq_false_iff] at d
        rcases d with d | d
        · exact of_decide_eq_false d z.1
        · exact of_decide_eq_false d z.2
      rw [if_neg d'] at hgo
      have ep6 := s6 _ _ ep5
      refine ⟨_, rfl, .inl ⟨rfl, _, SqL.of ep6⟩, _, rfl, _, rfl, _, _, rfl, rfl, n, L + 1, rfl, p, _, _, rfl, rfl, ep6, by rw [List.length_map]; omega, ?_⟩
      rw [show (if L + 1 < n then L + 1 else n) = min n (L + 1) by split <;> omega]
      refine ⟨o, ys ++ [min n (L + 1)], _, rfl, same_grow hp0 (s5.trans s6), ?_, by rw [← hgo]; simp, by simp [hyl]⟩
      rw [upd_same]
      show _ = some (HO.lst (List.map V.int _))
      rw [List.map_append]
      rfl
  · rintro σ H5 ⟨o, ys, x5, rfl, s5, ep5, hgo, hyl⟩
    rw [List.length_map, List.drop_length, goS, List.append_nil] at hgo
    refine ⟨_, rfl, q p H5 s5 hp0 ?_⟩
    rw [ep5, hgo, sharesL_some c hlo hhi]
end
end K9

set_option Elab.async false
set_option linter.all false
set_option maxRecDepth 100000
set_option maxHeartbeats 4000000
namespace K9
open PySem L2 Lm Lw
structure FnIn (K : PySem.W.Frag) (x : Str) (st : Stmt) (p : Value → Prop) : Prop where
  ex : ∃ (f : Addr) (oc : Value) (od : Option Addr) (kV dc pm : Value) (an : Option Addr) (cd ct : Value) (sl : Array (Option Value)), PySem.W.nsIn K mainGlobals x = some (some (.ref f)) ∧
    K.lookup f = some ⟨oc, od, .func (PySem.W.fnOf x x (defArgs st) (defBody st) (defScope st) .none kV dc pm an cd ct), sl⟩ ∧ PySem.W.codeIn K cd x = true ∧ PySem.W.keepIn K (.ref f) = true ∧ p cd
theorem fnIn_mk {K : PySem.W.Frag} {x : Str} {st : Stmt} {p : Value → Prop} {f : Addr} {oc : Value} {od : Option Addr} {kV dc pm : Value} {an : Option Addr} {cd ct : Value} {sl : Array (Option Value)} (a : PySem.W.nsIn K mainGlobals x = some (some (.ref f)))
    (l : K.lookup f = some ⟨oc, od, .func (PySem.W.fnOf x x (defArgs st) (defBody st) (defScope st) .none kV dc pm an cd ct), sl⟩) (c : PySem.W.codeIn K cd x = true) (k : PySem.W.keepIn K (.ref f) = true) (q : p cd) : FnIn K x st p :=
  ⟨f, oc, od, kV, dc, pm, an, cd, ct, sl, a, l, c, k, q⟩
theorem FnIn.drop {K : PySem.W.Frag} {Ps : List Addr} {x : Str} {st : Stmt} {p : Value → Prop} (h : Tabs0 K Ps) (F : FnIn K x st p) : FnIn (dropK K Ps) x st p := by
  obtain ⟨f, oc, od, kV, dc, pm, an, cd, ct, sl, a, l, c, kp, q⟩ := F.ex
  have l' : (dropK K Ps).lookup f = some ⟨oc, od, .func (PySem.W.fnOf x x (defArgs st) (defBody st) (defScope st) .none kV dc pm an cd ct), sl⟩ := dropK_other h l (fun z => by injection z with _ _ z _; cases z)
  refine ⟨f, oc, od, kV, dc, pm, an, cd, ct, sl, by rw [nsIn_drop h]; exact a, l', by rw [codeIn_drop h]; exact c, ?_, q⟩
  show (match (dropK K Ps).lookup f with | some ⟨_, _, .func _, _⟩ => true | some ⟨_, _, .cls _, _⟩ => PySem.W.specialIn (dropK K Ps) (.ref f) "__call__" == some (some (.builtin "type.__call__")) | _ => false) = true
  rw [l']
section
variable {P : Program} {w : World} {K : PySem.W.Frag} {h : Heap} {mg : Str → Option Value} {base : Heap} {x : Str} {st : Stmt} {ps : List Str} {k : Nat} {sp : Sp}
theorem def_of {p : Value → Prop} (X : K.In h) (G : h.Ns mainGlobals mg) (F : FnIn K x st p)
    (hb : ∀ (kV doc pm : Value) (an : Option Addr) (cdv ct : Value) (us : List Value), us.length = ps.length → bindArgs (PySem.W.fnOf x x (defArgs st) (defBody st) (defScope st) .none kV doc pm an cdv ct) ⟨us, []⟩ = pure (ps.zip us))
    (ok : ∀ f fd, Fun K x x st f fd → p fd.code → FnOk P w K mg base CX0 k f fd ps sp) : Def P w K mg base k x ps sp := by
  obtain ⟨f, oc, od, kV, dc, pm, an, cd, ct, sl, a, l, c, kp, q⟩ := F.ex
  have F1 := fun_mk (st := st) l c kp
  exact ⟨f, _, ok f _ F1 q, PySem.W.mg_of X G a, F1.kp, F1.binds hb⟩
theorem mg_fn {p : Value → Prop} (X : K.In h) (G : h.Ns mainGlobals mg) (F : FnIn K x st p) : ∃ f, mg x = some (.ref f) ∧ PySem.W.keepIn K (.ref f) = true := by
  obtain ⟨f, oc, od, kV, dc, pm, an, cd, ct, sl, a, l, c, kp, q⟩ := F.ex
  exact ⟨f, PySem.W.mg_of X G a, kp⟩
end

structure Top (K : PySem.W.Frag) : Prop where
  f_cut_down : FnIn K "cut_down" sCut (fun _ => True)
  f_level_within : FnIn K "level_within" sLevel (fun _ => True)
  f_shares : FnIn K "shares" sShares (fun _ => True)
  f__law_draw : FnIn K "_law_draw" sDraw (fun _ => True)
  f__law_whole : FnIn K "_law_whole" sWhole (fun _ => True)
  f__law_right : FnIn K "_law_right" sRight (fun _ => True)
  f_law : FnIn K "law" sLaw (fun _ => True)
  n_len : PySem.W.nsIn K mainGlobals "len" = some none
  n_range : PySem.W.nsIn K mainGlobals "range" = some none
  n_isinstance : PySem.W.nsIn K mainGlobals "isinstance" = some none
  n_all : PySem.W.nsIn K mainGlobals "all" = some none
  n_bool : PySem.W.nsIn K mainGlobals "bool" = some none
  n_int : PySem.W.nsIn K mainGlobals "int" = some none
  n_list : PySem.W.nsIn K mainGlobals "list" = some none
  n_sum : PySem.W.nsIn K mainGlobals "sum" = some none
  n_max : PySem.W.nsIn K mainGlobals "max" = some none
  n_min : PySem.W.nsIn K mainGlobals "min" = some none
  n_zip : PySem.W.nsIn K mainGlobals "zip" = some none
theorem all_law {P : Program} {w : World} {K : PySem.W.Frag} {h : Heap} {mg : Str → Option Value} {fa : Addr} (X : K.In h) (G : h.Ns mainGlobals mg) (hfa : mg "law" = some (.ref fa)) (t : Top K) :
    ∃ fd : FuncData, (∀ (s : Shared) (v : Value), BindsTo s fd ⟨[v], []⟩ [("_law_script", v)]) ∧ ∀ base : Heap, K.In base → base.Ns mainGlobals mg → FnOk P w K mg base CX0 5 fa fd ["_law_script"] (spLaw9 K) := by
  have T : Tx9 mg := {
    n_len := PySem.W.mg_none_of X G t.n_len
    n_range := PySem.W.mg_none_of X G t.n_range
    n_isinstance := PySem.W.mg_none_of X G t.n_isinstance
    n_all := PySem.W.mg_none_of X G t.n_all
    n_bool := PySem.W.mg_none_of X G t.n_bool
    n_int := PySem.W.mg_none_of X G t.n_int
    n_list := PySem.W.mg_none_of X G t.n_list
    n_sum := PySem.W.mg_none_of X G t.n_sum
    n_max := PySem.W.mg_none_of X G t.n_max
    n_min := PySem.W.mg_none_of X G t.n_min
    n_zip := PySem.W.mg_none_of X G t.n_zip
  }
  obtain ⟨f, oc, od, kV, dc, pm, an, cd, ct, sl, a, l, cc, kp, _⟩ := t.f_law.ex
  have e := hfa.symm.trans (PySem.W.mg_of X G a)
  cases e
  refine ⟨PySem.W.fnOf "law" "law" (defArgs sLaw) (defBody sLaw) (defScope sLaw) .none kV dc pm an cd ct, fun s v => .of_eq rfl, fun base _ _ => ?_⟩
  have D_cut_down : Def P w K mg base 1 "cut_down" ["wants", "level"] spCut := def_of X G t.f_cut_down (fun _ _ _ _ _ _ us hl => match us, hl with | [_, _], _ => rfl) fun f fd F _ => ok_cut F T
  have D_level_within : Def P w K mg base 2 "level_within" ["wants", "room"] spLevel := def_of X G t.f_level_within (fun _ _ _ _ _ _ us hl => match us, hl with | [_, _], _ => rfl) fun f fd F _ => ok_level F T D_cut_down
  have D_shares : Def P w K mg base 4 "shares" ["wants", "room"] spShares := def_of X G t.f_shares (fun _ _ _ _ _ _ us hl => match us, hl with | [_, _], _ => rfl) fun f fd F _ => ok_shares F T D_cut_down D_level_within
  have D_l_draw : Def P w K mg base 1 "_law_draw" ["_law_script", "_law_tape", "_law_many"] (spDraw K) := def_of X G t.f__law_draw (fun _ _ _ _ _ _ us hl => match us, hl with | [_, _, _], _ => rfl) fun f fd F _ => ok_draw F T
  have D_l_whole : Def P w K mg base 1 "_law_whole" ["_law_found"] spWhole := def_of X G t.f__law_whole (fun _ _ _ _ _ _ us hl => match us, hl with | [_], _ => rfl) fun f fd F _ => ok_whole F T
  have D_l_right : Def P w K mg base 2 "_law_right" ["_law_wants", "_law_room", "_law_found"] spRight := def_of X G t.f__law_right (fun _ _ _ _ _ _ us hl => match us, hl with | [_, _, _], _ => rfl) fun f fd F _ => ok_right F T D_l_whole
  exact ok_law (fun_mk (st := sLaw) l cc kp) T D_l_draw D_shares D_l_right
end K9

set_option Elab.async false
set_option linter.all false

open PySem PySem.W PySem.W.X PySem.W.ZRun PyProof.Rows
theorem L2.true_law {c : PySem.W.ClaimW} {cl : PySem.Str → Option PySem.Addr} {mean : PySem.ExcName → Option PySem.Value} {args : List PySem.W.WData} {s₁ s' : PySem.Shared} (hr : ∀ cls : PySem.ExcName, c.raises args cls = false) (hp : c.post args (.bool true) args = true)
    (h : OldK s₁.heap s'.heap ∧ s'.os = s₁.os ∧ PyProof.Rows.AllBare s'.gens) : PySem.W.GoodWG c cl mean args s₁ (Except.ok (PySem.Flow.ret (.bool true))) s' :=
  ⟨.inl ⟨_, .bool true, [], rfl, hr, .bool _, hp, fun _ => ⟨.nil, fun _ z => nomatch z⟩⟩, h⟩
set_option maxRecDepth 100000 in
set_option maxHeartbeats 0 in
theorem PySem.Challenge.cw_lightmark_k09_shares_holds : PySem.Challenge.rw_lightmark_k09_shares.Holds := by
  w_on; o_law; z_head; (case hw => w_witness2)
  k_fill
  intro w s₀ s₁ mg mb G y fa o pm cd doc dV kV ho hd hcd hD hmg hg args vals as L hpre hlay hrd hwl hlo
  z_open y L KX ZH ZN ZT
  refine Ground.open G ?_
  intro T B D TE TW
  wrow_args hpre hlay hrd hwl hlo
  rename_i ns _ _ _ _ _ _ _ a vs _ hL _ _ _ hI _ hlen _
  have htk := script_toks L ZT
  have hobj := script_obj L hL

  have t : K9.Top (L2.KOf KX) := by
    dsimp only [L2.KOf]
    constructor
    case f_cut_down => (refine' K9.fnIn_mk ?xa ?xl ?xc ?xk ?xp; (case xa => k_is); (case xl => k_is); (case xc => k_is); (case xk => k_is); (case xp => exact trivial))
    case f_level_within => (refine' K9.fnIn_mk ?xa ?xl ?xc ?xk ?xp; (case xa => k_is); (case xl => k_is); (case xc => k_is); (case xk => k_is); (case xp => exact trivial))
    case f_shares => (refine' K9.fnIn_mk ?xa ?xl ?xc ?xk ?xp; (case xa => k_is); (case xl => k_is); (case xc => k_is); (case xk => k_is); (case xp => exact trivial))
    case f__law_draw => (refine' K9.fnIn_mk ?xa ?xl ?xc ?xk ?xp; (case xa => k_is); (case xl => k_is); (case xc => k_is); (case xk => k_is); (case xp => exact trivial))
    case f__law_whole => (refine' K9.fnIn_mk ?xa ?xl ?xc ?xk ?xp; (case xa => k_is); (case xl => k_is); (case xc => k_is); (case xk => k_is); (case xp => exact trivial))
    case f__law_right => (refine' K9.fnIn_mk ?xa ?xl ?xc ?xk ?xp; (case xa => k_is); (case xl => k_is); (case xc => k_is); (case xk => k_is); (case xp => exact trivial))
    case f_law => (refine' K9.fnIn_mk ?xa ?xl ?xc ?xk ?xp; (case xa => k_is); (case xl => k_is); (case xc => k_is); (case xk => k_is); (case xp => exact trivial))
    case n_len => k_is
    case n_range => k_is
    case n_isinstance => k_is
    case n_all => k_is
    case n_bool => k_is
    case n_int => k_is
    case n_list => k_is
    case n_sum => k_is
    case n_max => k_is
    case n_min => k_is
    case n_zip => k_is
  obtain ⟨fd, hb, hF⟩ := K9.all_law (P := PySem.Challenge.rw_lightmark_k09_shares.row.prog) (w := w) KX T.g hmg t
  refine wpAny_call (codeAny_mono (L2.law_call KX T.g T.b T.builtins T.nolimit hg (Nat.lt_of_lt_of_le (by decide) htk) hobj hI (Lw.big (by omega)) ⟨rfl, by decide, by decide⟩ hF hb (fun H hO hS => ⟨a, ns, rfl, hS, by omega, fun _ => rfl⟩) fun H e s' z => z) fun r s' q => ?_)
  obtain ⟨rfl, q⟩ := q
  exact L2.true_law (fun _ => rfl) (by with_unfolding_all rfl) q
#print axioms PySem.Challenge.cw_lightmark_k09_shares_holds

