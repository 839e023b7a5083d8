import PyProof.Rows.All
import Wide.All
import OpenK.AllK
import Wide.FinOn
import Lean
import PyProof.NeKinds
import PyProof.Rows.SumAny
import PyProof.Rows.EnumRows
import KE.KItemsList
import PyProof.Rows.SetFrom
import PyProof.ListRange
import PyProof.Rows.SeqMore
import PyProof.AttrMissHeap
import KE.KDictOf
import PyProof.ZipIter
import KE.LcSums
import PyProof.EqKinds
import PyProof.FactsAll.dict
import PyProof.Rows.SortShell
import PyProof.Rows.SortWalk
import KE.KDictSum
import KE.KNestM
import KE.KLam
import PyProof.TupleIter
import PySem.Challenge.RW_unlikerow_k27_whole_stretches_by_windows
set_option Elab.async false
set_option linter.all false
set_option maxRecDepth 100000
/-! THE HAND LAYER, for ints, bools, texts, own classes, LISTS and tuples (index, slices, in, append, pop ..), calls, loops. Paste it whole ahead of your own text; what your proof does not reach may be deleted. -/
namespace L2
open PySem PySem.Spec PyProof.Rows

/-- a key: an int or a str -/
abbrev Key := Sum Int Str
def keyIs : Key → Value → Bool
  | .inl k, v => Value.isInt k v
  | .inr x, v => Value.isStrOf x v
def keyH (w : World) : Key → Int
  | .inl k => hashInt k
  | .inr x => hashStr w x
theorem keyIs_shape : ∀ {k : Key} {v : Value}, keyIs k v = true → (∃ i t, k = Sum.inl i ∧ v = Value.int i t) ∨ (∃ x t, k = Sum.inr x ∧ v = Value.str x t)
  | .inl i, v, h => by
    obtain ⟨t, e⟩ := Value.isInt_shape (k := i) (v := v) h
    exact .inl ⟨i, t, rfl, e⟩
  | .inr x, v, h => by
    obtain ⟨t, e⟩ := Value.isStrOf_shape (x := x) (v := v) h
    exact .inr ⟨x, t, rfl, e⟩
theorem keyIs_int (i : Int) (t : Tok) : keyIs (.inl i) (.int i t) = true := by simp [keyIs, Value.isInt]
theorem keyIs_str (x : Str) (t : Tok) : keyIs (.inr x) (.str x t) = true := by simp [keyIs, Value.isStrOf]
theorem key_ll (a b : Int) : decide ((Sum.inl a : Key) = Sum.inl b) = (a == b) := by
  by_cases e : a = b
  · subst e; simp
  · have h : ¬ (Sum.inl a : Key) = Sum.inl b := fun q => e (Sum.inl.inj q)
    rw [decide_eq_false h]
    exact (beq_eq_false_iff_ne.mpr e).symm
theorem key_rr (a b : Str) : decide ((Sum.inr a : Key) = Sum.inr b) = decide (a = b) := by
  by_cases e : a = b
  · subst e; simp
  · have h : ¬ (Sum.inr a : Key) = Sum.inr b := fun q => e (Sum.inr.inj q)
    rw [decide_eq_false h, decide_eq_false e]
theorem key_lr (a : Int) (b : Str) : decide ((Sum.inl a : Key) = Sum.inr b) = false := decide_eq_false (fun q => nomatch q)
theorem key_rl (a : Str) (b : Int) : decide ((Sum.inr a : Key) = Sum.inl b) = false := decide_eq_false (fun q => nomatch q)

def mixKind (prog : Program) (w : World) : PySem.KeyKind prog w Key where
  is := keyIs
  hash := keyH w
  inj := fun v a b ha hb => by
    rcases keyIs_shape ha with ⟨i, t, rfl, rfl⟩ | ⟨x, t, rfl, rfl⟩
    · rcases keyIs_shape hb with ⟨j, u, rfl, e⟩ | ⟨y, u, rfl, e⟩
      · injection e with e1 _; rw [e1]
      · exact nomatch e
    · rcases keyIs_shape hb with ⟨j, u, rfl, e⟩ | ⟨y, u, rfl, e⟩
      · exact nomatch e
      · injection e with e1 _; rw [e1]
  byValue := fun k v h => by
    rcases keyIs_shape h with ⟨i, t, rfl, rfl⟩ | ⟨x, t, rfl, rfl⟩ <;> rfl
  pyHash := fun hv h => by
    rcases keyIs_shape hv with ⟨i, t, rfl, rfl⟩ | ⟨x, t, rfl, rfl⟩
    · exact wpAny_pyHash_int h
    · exact wpAny_pyHash_str h
  eqBool := fun hu hv h => by
    rcases keyIs_shape hu with ⟨i, t, rfl, rfl⟩ | ⟨x, t, rfl, rfl⟩
    · rcases keyIs_shape hv with ⟨j, u, rfl, rfl⟩ | ⟨y, u, rfl, rfl⟩
      · rw [key_ll] at h; exact wpAny_eqBool_int h
      · rw [key_lr] at h; exact SeqAt.EqAt.int_str i t y u _ _ _ _ h
    · rcases keyIs_shape hv with ⟨j, u, rfl, rfl⟩ | ⟨y, u, rfl, rfl⟩
      · rw [key_rl] at h; exact SeqAt.EqAt.str_int x t j u _ _ _ _ h
      · rw [key_rr] at h; exact wpAny_eqBool_str h
  «strs» := fun k x t v h => by
    rcases keyIs_shape h with ⟨i, u, rfl, e⟩ | ⟨y, u, rfl, e⟩
    · exact nomatch e
    · injection e with e1 _
      subst e1
      cases v <;> rfl

theorem mixKind_int (prog : Program) (w : World) (i : Int) (t : Tok) : (mixKind prog w).is (.inl i) (.int i t) = true := keyIs_int i t
theorem mixKind_str (prog : Program) (w : World) (x : Str) (t : Tok) : (mixKind prog w).is (.inr x) (.str x t) = true := keyIs_str x t
end L2

namespace L2
open PySem PySem.Spec PyProof.Rows

/-- a value, without the heap -/
inductive V where
  | non | bl (b : Bool) | int (i : Int) | str (x : Str) | byt (b : Array UInt8) | flt (b : UInt64) | ref (a : Addr) | ty (n : String)
  deriving DecidableEq

def RelV : V → Value → Prop
  | .non, u => u = Value.none
  | .bl b, u => u = Value.bool b
  | .int i, u => ∃ t, u = Value.int i t
  | .str x, u => ∃ t, u = Value.str x t
  | .byt b, u => ∃ t, u = Value.bytes b t
  | .flt b, u => ∃ t, u = Value.float b t
  | .ref a, u => u = Value.ref a
  | .ty n, u => u = Value.type n

abbrev Vals : List V → List Value → Prop := Paired RelV
theorem Vals.length {xs : List V} {us : List Value} (r : Vals xs us) : xs.length = us.length := Paired.length r
theorem Vals.get : ∀ {xs : List V} {us : List Value} {i : Nat} {x : V}, Vals xs us → xs[i]? = some x → ∃ u, us[i]? = some u ∧ RelV x u
  | _, _, _, _, .nil, e => by simp at e
  | _, _, 0, _, .cons r _, e => by simp at e; subst e; exact ⟨_, rfl, r⟩
  | _, _, i + 1, x, .cons _ t, e => by
    obtain ⟨u, h1, h2⟩ := Vals.get (i := i) (x := x) t (by simpa using e)
    exact ⟨u, by simpa using h1, h2⟩
theorem Vals.set {x : V} {u : Value} (r : RelV x u) : ∀ {xs : List V} {us : List Value} (i : Nat), Vals xs us → Vals (xs.set i x) (us.set i u)
  | _, _, _, .nil => .nil
  | _, _, 0, .cons _ t => .cons r t
  | _, _, i + 1, .cons q t => .cons q (Vals.set r i t)
theorem Vals.append : ∀ {xs ys : List V} {us ws : List Value}, Vals xs us → Vals ys ws → Vals (xs ++ ys) (us ++ ws)
  | _, _, _, _, .nil, s => s
  | _, _, _, _, .cons r t, s => .cons r (Vals.append t s)
theorem Vals.take : ∀ {xs : List V} {us : List Value} (n : Nat), Vals xs us → Vals (xs.take n) (us.take n)
  | _, _, 0, _ => .nil
  | _, _, _ + 1, .nil => .nil
  | _, _, n + 1, .cons r t => .cons r (Vals.take n t)
theorem Vals.drop : ∀ {xs : List V} {us : List Value} (n : Nat), Vals xs us → Vals (xs.drop n) (us.drop n)
  | _, _, 0, r => r
  | _, _, _ + 1, .nil => .nil
  | _, _, n + 1, .cons _ t => Vals.drop n t
theorem Vals.none_of : ∀ {xs : List V} {us : List Value} {i : Nat}, Vals xs us → xs[i]? = none → us[i]? = none := fun {xs us i} r e => by
  have h1 := r.length
  have h2 : xs.length ≤ i := List.getElem?_eq_none_iff.mp e
  exact List.getElem?_eq_none_iff.mpr (by omega)

def RelO : Option V → Option Value → Prop
  | some v, some u => RelV v u
  | none, none => True
  | _, _ => False
def KV {κ : Type} : List (κ × V) → List (κ × Value) → Prop := Paired fun (p : κ × V) (q : κ × Value) => p.1 = q.1 ∧ RelV p.2 q.2

/-- a key of a dict (00_mix): an int or a text -/
def kV : Key → V
  | .inl i => .int i
  | .inr x => .str x

/-- what stands at a tracked address -/
inductive HO where
  /-- a list -/
  | lst (xs : List V)
  /-- a tuple (never changes) -/
  | tup (xs : List V)
  /-- a dict whose keys are ints and texts; one whose keys are tuples of ints and texts (the empty one is both) -/
  | dK (kvs : List (Key × V)) | dT (kvs : List (List Key × V))
  /-- a set of ints: its members, its size -/
  | set (S : Int → Bool) (n : Nat)
  /-- an instance of the class at C, its dict at dx, its attributes -/
  | ins (C dx : Addr) (fs : List (Str × V))
  /-- the dict of the instance at x -/
  | own (x : Addr)
  /-- the dict of an exception -/
  | xd (fs : List (Str × V))
  /-- a bound method, f of x -/
  | met (f x : Addr)
  /-- a range object lo, lo + 1, .. below hi -/
  | rng (lo hi : Int)
  /-- a thing that is known to the object (the script; a dict while a loop walks it): read, never written while it is so -/
  | frz (o : Obj) (u : HO)
  /-- a code object's table -/
  | tbl (ps : Array Value)
  /-- any other thing, by what is true of its one object (a def of one's own: SetO a S n := HO.ext fun h => ..) -/
  | ext (φ : Heap → Prop)

abbrev Hp := Addr → Option HO
def upd (H : Hp) (a : Addr) (o : HO) : Hp := fun b => if b = a then some o else H b
theorem upd_same {H : Hp} {a : Addr} {o : HO} : upd H a o a = some o := by unfold upd; rw [if_pos rfl]
theorem upd_ne {H : Hp} {a b : Addr} {o : HO} (h : b ≠ a) : upd H a o b = H b := by unfold upd; rw [if_neg h]
/-- two objects of different content stand apart -/
theorem ne_of {H : Hp} {a b : Addr} {o u : HO} (h : H a = some o) (h' : H b = some u) (d : o ≠ u) : a ≠ b := by
  intro e; subst e; rw [h] at h'; exact d (Option.some.inj h')
theorem ne_of_none {H : Hp} {a b : Addr} {o : HO} (h : H a = some o) (h' : H b = none) : a ≠ b := by
  intro e; subst e; rw [h] at h'; cases h'

section
variable (P : Program) (w : World)
def ObjOk (H : Hp) (h : Heap) (a : Addr) : HO → Prop
  | .lst xs => xs.length ≤ sizeLine ∧ ∃ (its : List Value) (n : Nat), Vals xs its ∧ h.get? a = some { cls := .type "list", data := .seq its.toArray n }
  | .tup xs => xs.length ≤ sizeLine ∧ ∃ its : List Value, Vals xs its ∧ IsTup h a its.toArray
  | .dK kvs => kvs.length ≤ sizeLine ∧ (a == sysModules) = false ∧ ∃ vs, KV kvs vs ∧ h.DictOf (mixKind P w) a vs
  | .dT kvs => kvs.length ≤ sizeLine ∧ (a == sysModules) = false ∧ ∃ xs : List (List Key × Addr × Value),
      Paired (fun (p : List Key × V) (q : List Key × Addr × Value) => p.1 = q.1 ∧ H q.2.1 = some (.tup (p.1.map kV)) ∧ RelV p.2 q.2.2) kvs xs ∧
      ∃ o es ep, h.get? a = some o ∧ o.ExactDict ∧ o.data = .dict es ep ∧ es.toList = xs.map (entryOfKey (tupleKind (mixKind P w))) ∧ (xs.map (·.1)).Nodup
  | .set S n => h.SetOf (intKind P w) a S n
  | .ins C dx fs => H dx = some (.own a) ∧ fs.length ≤ 1000 ∧ dx ≠ a ∧ h.get? a = some (PySem.W.instObj C dx) ∧
      ∃ mA, h.Ns1 dx mA ∧ (∀ f, RelO (fs.lookup f) (mA f)) ∧ PySem.Within mA (fs.map (·.1))
  | .own _ => ∃ o, h.get? a = some o
  | .xd fs => ∃ mA, h.Ns1 a mA ∧ ∀ f, RelO (fs.lookup f) (mA f)
  | .rng lo hi => ∃ t u v, h.get? a = some { cls := .type "range", data := .fields #[.int lo t, .int hi u, .int 1 v] }
  | .frz o u => h.get? a = some o ∧ ObjOk H h a u
  | .tbl ps => h.get? a = some { cls := .none, data := .fields ps }
  | .met f x => h.get? a = some (PySem.W.methodObj (.ref f) (.ref x))
  | .ext φ => φ h ∧ (∃ o, h.get? a = some o) ∧ ∀ h1 h2 : Heap, φ h1 → (∀ o, h1.get? a = some o → h2.get? a = some o) → φ h2
/-- the abstract heap is held -/
def HOk (H : Hp) (h : Heap) : Prop := ∀ a o, H a = some o → ObjOk P w H h a o
end

section
variable {P : Program} {w : World} {H H' : Hp} {h h' : Heap} {a : Addr} {o : HO}
theorem ObjOk.lt (x : ObjOk P w H h a o) : a < h.objs.size := by
  cases o with
  | lst xs => obtain ⟨_, _, _, _, e⟩ := x; exact Heap.lt_size e
  | tup xs => obtain ⟨_, _, _, p⟩ := x; exact p.lt
  | dK kvs => obtain ⟨_, _, _, _, o, _, _, e, _⟩ := x; exact Heap.lt_size e
  | dT kvs => obtain ⟨_, _, _, _, o, _, _, e, _⟩ := x; exact Heap.lt_size e
  | set S n => obtain ⟨o, _, _, _, e, _⟩ := x; exact Heap.lt_size e
  | ins C dx fs => obtain ⟨_, _, _, e, _⟩ := x; exact Heap.lt_size e
  | own y => obtain ⟨_, e⟩ := x; exact Heap.lt_size e
  | xd fs => obtain ⟨_, ⟨_, _, _, e, _⟩, _⟩ := x; exact Heap.lt_size e
  | rng lo hi => obtain ⟨_, _, _, e⟩ := x; exact Heap.lt_size e
  | frz ob u => obtain ⟨e, _⟩ := x; exact Heap.lt_size e
  | tbl ps => exact Heap.lt_size (show h.get? a = some _ from x)
  | met f y => exact Heap.lt_size (show h.get? a = some _ from x)
  | ext φ => obtain ⟨_, ⟨_, e⟩, _⟩ := x; exact Heap.lt_size e
theorem Paired.mapP {α β : Type} {F G : α → β → Prop} : ∀ {l₁ : List α} {l₂ : List β}, Paired F l₁ l₂ → (∀ a b, F a b → G a b) → Paired G l₁ l₂
  | _, _, .nil, _ => .nil
  | _, _, .cons r t, f => .cons (f _ _ r) (Paired.mapP t f)
/-- what an object's description leans on: its own object, its own dict, the tuples -/
theorem ObjOk.stay (x : ObjOk P w H h a o) (k : ∀ b u, (b = a ∨ H b = some (.own a)) → h.get? b = some u → h'.get? b = some u)
    (ho : ∀ b, H b = some (.own a) → H' b = some (.own a)) (ht : ∀ b xs, H b = some (.tup xs) → H' b = some (.tup xs)) : ObjOk P w H' h' a o := by
  induction o with
  | lst xs => obtain ⟨z, its, n, r, e⟩ := x; exact ⟨z, its, n, r, k _ _ (.inl rfl) e⟩
  | tup xs => obtain ⟨z, its, r, ob, e, c⟩ := x; exact ⟨z, its, r, ob, k _ _ (.inl rfl) e, c⟩
  | dK kvs => obtain ⟨z, y, vs, r, ob, es, ep, e, c⟩ := x; exact ⟨z, y, vs, r, ob, es, ep, k _ _ (.inl rfl) e, c⟩
  | dT kvs =>
    obtain ⟨z, y, xs, r, ob, es, ep, e, c⟩ := x
    exact ⟨z, y, xs, Paired.mapP r fun p q z => ⟨z.1, ht _ _ z.2.1, z.2.2⟩, ob, es, ep, k _ _ (.inl rfl) e, c⟩
  | set S n => obtain ⟨ob, es, ep, t, e, c⟩ := x; exact ⟨ob, es, ep, t, k _ _ (.inl rfl) e, c⟩
  | ins C dx fs =>
    obtain ⟨d, z, ne, e, mA, ⟨od, es, ep, e2, c⟩, r⟩ := x
    exact ⟨ho _ d, z, ne, k _ _ (.inl rfl) e, mA, ⟨od, es, ep, k _ _ (.inr d) e2, c⟩, r⟩
  | own y => obtain ⟨ob, e⟩ := x; exact ⟨ob, k _ _ (.inl rfl) e⟩
  | xd fs => obtain ⟨mA, ⟨od, es, ep, e, c⟩, r⟩ := x; exact ⟨mA, ⟨od, es, ep, k _ _ (.inl rfl) e, c⟩, r⟩
  | rng lo hi => obtain ⟨t, u, v, e⟩ := x; exact ⟨t, u, v, k _ _ (.inl rfl) e⟩
  | frz ob u ih => obtain ⟨e, q⟩ := x; exact ⟨k _ _ (.inl rfl) e, ih q⟩
  | tbl ps =>
    have e : h.get? a = some { cls := .none, data := .fields ps } := x
    show h'.get? a = some { cls := .none, data := .fields ps }
    exact k a _ (.inl rfl) e
  | met f y =>
    have e : h.get? a = some (PySem.W.methodObj (.ref f) (.ref y)) := x
    show h'.get? a = some (PySem.W.methodObj (.ref f) (.ref y))
    exact k a _ (.inl rfl) e
  | ext φ => obtain ⟨p, ⟨o, e⟩, st⟩ := x; exact ⟨st _ _ p fun o q => k _ _ (.inl rfl) q, ⟨o, k _ _ (.inl rfl) e⟩, st⟩
theorem HOk.lt (x : HOk P w H h) (e : H a = some o) : a < h.objs.size := (x a o e).lt
theorem HOk.fresh (x : HOk P w H h) (e : h.objs.size ≤ a) : H a = none := by
  cases q : H a with
  | none => rfl
  | some u => exact absurd (Nat.lt_of_lt_of_le (x.lt q) e) (Nat.lt_irrefl _)
/-- every object of the heap is kept -/
theorem HOk.kept (x : HOk P w H h) (k : ∀ b u, h.get? b = some u → h'.get? b = some u) : HOk P w H h' := fun a o e =>
  (x a o e).stay (fun b u _ q => k b u q) (fun _ q => q) fun _ _ q => q
/-- a new object is laid and tracked -/
theorem HOk.laid (x : HOk P w H h) (k : ∀ b u, h.get? b = some u → h'.get? b = some u) (hp : h.objs.size ≤ a) (new : ObjOk P w (upd H a o) h' a o) : HOk P w (upd H a o) h' := fun b u e => by
  have hn := x.fresh hp
  by_cases hb : b = a
  · subst hb; rw [upd_same] at e; cases e; exact new
  · rw [upd_ne hb] at e
    exact (x b u e).stay (fun c v _ q => k c v q) (fun c q => by rw [upd_ne (ne_of_none q hn)]; exact q) fun c xs q => by rw [upd_ne (ne_of_none q hn)]; exact q
end

/-- what may be read as u: it is u, or a known u -/
def Rd (H : Hp) (a : Addr) (u : HO) : Prop := H a = some u ∨ ∃ o, H a = some (.frz o u)
theorem Rd.ok {P : Program} {w : World} {H : Hp} {h : Heap} {a : Addr} {u : HO} (r : Rd H a u) (x : HOk P w H h) : ObjOk P w H h a u := by
  rcases r with r | ⟨o, r⟩
  · exact x a u r
  · obtain ⟨_, q⟩ := x a _ r
    exact q
/-- what may be written -/
def Mut : Option HO → Prop
  | some (.lst _) => True
  | some (.dK _) => True
  | some (.dT _) => True
  | some (.set _ _) => True
  | some (.ins _ _ _) => True
  | some (.ext _) => True
  | _ => False
section
variable {P : Program} {w : World} {H : Hp} {h h' : Heap} {x e : Addr} {o' : HO}
/-- the object at e is changed: x itself, or the dict of the instance x -/
theorem HOk.write (ok : HOk P w H h) (mu : Mut (H x)) (he : e = x ∨ H e = some (.own x)) (k : ∀ b u, b ≠ e → h.get? b = some u → h'.get? b = some u) (heo : ∃ u, h'.get? e = some u)
    (new : ObjOk P w (upd H x o') h' x o') : HOk P w (upd H x o') h' := fun b u q => by
  have nown : ∀ c y, H c = some (.own y) → c ≠ x := fun c y r z => by subst z; rw [r] at mu; exact mu
  have ntup : ∀ c xs, H c = some (.tup xs) → c ≠ x := fun c xs r z => by subst z; rw [r] at mu; exact mu
  by_cases hb : b = x
  · subst hb; rw [upd_same] at q; cases q; exact new
  · rw [upd_ne hb] at q
    by_cases hbe : b = e
    · have q' : H b = some (.own x) := by
        rcases he with z | z
        · exact absurd (hbe.trans z) hb
        · rw [hbe]; exact z
      rw [q] at q'; cases q'
      obtain ⟨v, hv⟩ := heo
      exact ⟨v, by rw [hbe]; exact hv⟩
    · refine (ok b u q).stay (fun c v hc r => k c v ?_ r) (fun c r => by rw [upd_ne (nown c b r)]; exact r) fun c xs r => by rw [upd_ne (ntup c xs r)]; exact r
      rcases hc with rfl | hc
      · exact hbe
      · rintro rfl
        rcases he with z | z
        · exact nown c b hc z
        · rw [hc] at z; cases z; exact hb rfl
end

/-! ### kept unless tracked; of the frames at fs (the callers') the slots may change (an exception that passes writes there); of the records at ex (iterators) nothing is said -/
structure Un (fs ex : List Addr) (H H' : Hp) (h h' : Heap) : Prop where
  keep : ∀ b o, h.get? b = some o → H b = none → b ∉ fs → b ∉ ex → h'.get? b = some o
  slot : ∀ b o, h.get? b = some o → H b = none → b ∈ fs → b ∉ ex → ∃ sl, h'.get? b = some { o with slots := sl }
  free : ∀ b o, h.get? b = some o → H b = none → b ∉ ex → H' b = none
  there : ∀ b o, h.get? b = some o → b ∉ ex → ∃ o', h'.get? b = some o'
  tups : ∀ b xs, H b = some (.tup xs) → H' b = some (.tup xs)
  frzs : ∀ b o u, H b = some (.frz o u) → H' b = some (.frz o u)
  tbls : ∀ b ps, H b = some (.tbl ps) → ∃ more, H' b = some (.tbl (ps ++ more))
section
variable {fs fs' ex ex' : List Addr} {H H1 H2 : Hp} {h h1 h2 h' : Heap} {a x e : Addr} {o : HO}
theorem Un.any (u : Un fs ex H H1 h h1) {b : Addr} {ob : Obj} (q : h.get? b = some ob) (n : H b = none) (hx : b ∉ ex) : ∃ sl, h1.get? b = some { ob with slots := sl } := by
  by_cases hb : b ∈ fs
  · exact u.slot b ob q n hb hx
  · exact ⟨ob.slots, u.keep b ob q n hb hx⟩
theorem Un.kept (k : ∀ b u, h.get? b = some u → h'.get? b = some u) : Un fs ex H H h h' :=
  ⟨fun b ob q _ _ _ => k b ob q, fun b ob q _ _ _ => ⟨ob.slots, k b ob q⟩, fun _ _ _ n _ => n, fun b ob q _ => ⟨ob, k b ob q⟩, fun _ _ q => q, fun _ _ _ q => q, fun _ ps q => ⟨#[], by rw [q]; simp⟩⟩
theorem Un.refl : Un fs ex H H h h := Un.kept fun _ _ q => q
theorem Un.laid (k : ∀ b u, h.get? b = some u → h'.get? b = some u) (hp : h.objs.size ≤ a) (hn : H a = none) : Un fs ex H (upd H a o) h h' where
  keep := fun b u q _ _ _ => k b u q
  slot := fun b u q _ _ _ => ⟨u.slots, k b u q⟩
  free := fun b u q n _ => by rw [upd_ne (Nat.ne_of_lt (Nat.lt_of_lt_of_le (Heap.lt_size q) hp))]; exact n
  there := fun b u q _ => ⟨u, k b u q⟩
  tups := fun b xs q => by rw [upd_ne (ne_of_none q hn)]; exact q
  frzs := fun b u xs q => by rw [upd_ne (ne_of_none q hn)]; exact q
  tbls := fun b ps q => ⟨#[], by rw [upd_ne (ne_of_none q hn), q]; simp⟩
theorem Un.write (mu : Mut (H x)) (he : e = x ∨ H e = some (.own x)) (k : ∀ b u, b ≠ e → h.get? b = some u → h'.get? b = some u) (heo : ∃ u, h'.get? e = some u) : Un fs ex H (upd H x o) h h' := by
  have hx : ∀ b, H b = none → b ≠ x := fun b n z => by subst z; rw [n] at mu; exact mu
  have hb : ∀ b, H b = none → b ≠ e := fun b n z => by
    subst z
    rcases he with r | r
    · exact hx b n r
    · rw [n] at r; cases r
  have hm : ∀ b u, H b = some u → ¬ Mut (some u) → b ≠ x := fun b u q nm z => by subst z; rw [q] at mu; exact nm mu
  refine ⟨fun b u q n _ _ => k b u (hb b n) q, fun b u q n _ _ => ⟨u.slots, k b u (hb b n) q⟩, fun b u q n _ => by rw [upd_ne (hx b n)]; exact n, fun b u q _ => ?_,
    fun b xs q => by rw [upd_ne (hm b _ q fun z => z)]; exact q, fun b u xs q => by rw [upd_ne (hm b _ q fun z => z)]; exact q, fun b ps q => ⟨#[], by rw [upd_ne (hm b _ q fun z => z), q]; simp⟩⟩
  by_cases hbe : b = e
  · subst hbe; exact heo
  · exact ⟨u, k b u hbe q⟩
end

/-! ### the heap without what is tracked -/
def trk (h : Heap) (H : Hp) : List Addr := (List.range h.objs.size).filter fun a => (H a).isSome
def hidT (h : Heap) (H : Hp) : Heap := PySem.W.hideAll h (trk h H)
theorem hidT_size (h : Heap) (H : Hp) : (hidT h H).objs.size = h.objs.size := PySem.W.hideAll_size _ _
theorem hidT_get {h : Heap} {H : Hp} {b : Addr} {o : Obj} (e : h.get? b = some o) (n : H b = none) : (hidT h H).get? b = some o :=
  PySem.W.hideAll_get _ e fun hm => by
    have q : (H b).isSome = true := (List.mem_filter.mp hm).2
    rw [n] at q; simp at q
theorem of_hidT {h : Heap} {H : Hp} {b : Addr} {o : Obj} (e : (hidT h H).get? b = some o) : h.get? b = some o ∧ H b = none := by
  have e' : h.get? b = some o := PySem.W.of_hideAll (trk h H) e
  refine ⟨e', ?_⟩
  cases q : H b with
  | none => rfl
  | some x =>
    have hm : b ∈ trk h H := List.mem_filter.mpr ⟨List.mem_range.mpr (Heap.lt_size e'), by simp [q]⟩
    have z : (hidT h H).get? b = none := PySem.W.hideAll_none (trk h H) hm
    rw [z] at e; cases e

/-! ### OpenK's ledger, filled with every new object but one -/
end L2

namespace L2
open PySem PySem.Spec PyProof.Rows

/-- the module's facts, over the base: the heap at the law's entry without what is tracked there -/
structure Mod (K : PySem.W.Frag) (mg : Str → Option Value) (base : Heap) : Prop where
  kin : K.In base
  glob : base.Ns mainGlobals mg
  blt : ∃ mb, base.Ns builtinsNs mb ∧ ∀ x : Str, x ≠ "__name__" → mb x = bootBuiltins x
  nolimit : base.NoLimit

/-- the context: a def's body (or a comprehension's block) running. base: fixed through the whole law; s₀, H₀: the entry; outer: the frames whose slots others may change (a def's callers); stack: all frames that run;
   ex: iterators that were made ahead of the entry and are walked here (a comprehension's); fn: the names whose cells were made at the entry (a def: all; a comprehension's block: its own); calm: not within an except suite; pn: pins that every state bears; xe: what is wanted of an exception that leaves the code -/
structure Cx where
  prog : Program
  w : World
  K : PySem.W.Frag
  mg : Str → Option Value
  base : Heap
  A : Around
  N : List Str
  s₀ : Shared
  H₀ : Hp
  env : Env
  outer : List Env
  stack : List Env
  ex : List Addr
  fn : Str → Bool
  calm : Bool
  pn : List (Addr × Obj)
  xe : Value → Shared → Prop
/-- the callers' frames -/
def frs (l : List Env) : List Addr := l.filterMap (·.frame)
abbrev Cx.fs (X : Cx) : List Addr := frs X.outer

def Vis (sc : Scope) (x : Str) : Prop := sc.names.lookup x = some .local ∨ sc.names.lookup x = some .cell ∨ sc.names.lookup x = some .free
def Loc (sc : Scope) (x : Str) : Prop := sc.names.lookup x = some .local ∨ sc.names.lookup x = some .cell
def Look (env : Env) (h : Heap) (m : Str → Option Value) (x : Str) (u : Value) : Prop :=
  (env.kindOf x = some .local ∧ m x = some u) ∨ ((env.kindOf x = some .cell ∨ env.kindOf x = some .free) ∧ ∃ c, env.cells.lookup x = some c ∧ h.IsCell c (some u))

structure Cx.Ok (X : Cx) : Prop where
  mod : Mod X.K X.mg X.base
  kind : X.env.scope.kind = .function
  glob : X.env.globals = mainGlobals
  blt : X.env.builtins = builtinsNs
  above : X.s₀.heap.objs.size ≤ X.env.locals
  inj : ∀ x y c, X.env.cells.lookup x = some c → X.env.cells.lookup y = some c → x = y
  has : ∀ x, (X.env.kindOf x = some .cell ∨ X.env.kindOf x = some .free) → ∃ c, X.env.cells.lookup x = some c
  cab : ∀ x c, X.fn x = true → X.env.cells.lookup x = some c → X.s₀.heap.objs.size ≤ c
  hd : X.calm = true → X.A.handled = none
  frames : X.A.frames = some X.stack
  stk : X.stack = X.outer ∨ (X.stack = X.env :: X.outer ∧ X.env.frame = some X.env.locals)
  exf : ∀ b ∈ X.ex, b ≠ X.env.locals ∧ ∀ x c, X.env.cells.lookup x = some c → c ≠ b
  bs : ∀ b o, X.base.get? b = some o → X.s₀.heap.get? b = some o ∧ X.H₀ b = none
  bsz : X.base.objs.size ≤ X.s₀.heap.objs.size
  noex : ∀ b o, X.base.get? b = some o → b ∉ X.ex
  exfs : ∀ b ∈ X.ex, b ∉ X.fs
  funs : X.s₀.heap.FunFrames X.base X.outer
  frf : ∀ b ∈ X.fs, X.H₀ b = none

structure Inv (X : Cx) (pins : List (Addr × Obj)) (σ : List (Option V)) (H : Hp) (s : Shared) : Prop where
  ok : X.Ok
  os : s.os = X.s₀.os
  bare : AllBare s.gens
  base : Un X.fs X.ex X.H₀ H X.s₀.heap s.heap
  loc : ∃ m, s.heap.Ns X.env.locals m ∧ ∀ (i : Nat) (x : Str) (v : V), X.N[i]? = some x → σ[i]? = some (some v) → Vis X.env.scope x → ∃ u, RelV v u ∧ Look X.env s.heap m x u
  cell : ∀ x c, X.env.cells.lookup x = some c → ∃ v, s.heap.IsCell c v
  free : H X.env.locals = none
  freeC : ∀ x c, X.env.cells.lookup x = some c → H c = none
  pin : ∀ p ∈ X.pn ++ pins, s.heap.get? p.1 = some p.2 ∧ H p.1 = none ∧ p.1 ≠ X.env.locals ∧ p.1 ∉ X.fs ∧ ∀ v, p.2.data ≠ .cell v
  hok : HOk X.prog X.w H s.heap
  len : σ.length = X.N.length

section
variable {X : Cx} {pins : List (Addr × Obj)} {σ : List (Option V)} {H H' : Hp} {s : Shared} {h' : Heap}

theorem Cx.Ok.nofr (ok : X.Ok) {b : Addr} {o : Obj} (e : X.base.get? b = some o) : b ∉ X.fs := fun hb => by
  have := (ok.funs.mem hb).1
  rw [e] at this; cases this
theorem Inv.bs (I : Inv X pins σ H s) : ∀ b o, X.base.get? b = some o → s.heap.get? b = some o ∧ H b = none := fun b o e =>
  ⟨I.base.keep b o (I.ok.bs b o e).1 (I.ok.bs b o e).2 (I.ok.nofr e) (I.ok.noex b o e), I.base.free b o (I.ok.bs b o e).1 (I.ok.bs b o e).2 (I.ok.noex b o e)⟩
theorem Inv.bk (I : Inv X pins σ H s) : ∀ b o, X.base.get? b = some o → s.heap.get? b = some o := fun b o e => (I.bs b o e).1
theorem Inv.mod (I : Inv X pins σ H s) : Mod X.K X.mg X.base := I.ok.mod
theorem Inv.kIn (I : Inv X pins σ H s) : X.K.In s.heap := I.ok.mod.kin.keeps I.bk
theorem Inv.lt (I : Inv X pins σ H s) : X.env.locals < s.heap.objs.size := let ⟨_, hn, _⟩ := I.loc; hn.lt
theorem Inv.sz (I : Inv X pins σ H s) : X.s₀.heap.objs.size ≤ s.heap.objs.size := Nat.le_trans I.ok.above (Nat.le_of_lt I.lt)
theorem Inv.nofs (I : Inv X pins σ H s) {a : Addr} (h : s.heap.objs.size ≤ a) : a ∉ X.fs := fun hb => by
  obtain ⟨_, o, ho, _⟩ := I.ok.funs.mem hb
  exact absurd (Nat.lt_of_lt_of_le (Heap.lt_size ho) (Nat.le_trans I.sz h)) (Nat.lt_irrefl _)
theorem Inv.cne (I : Inv X pins σ H s) : ∀ x c, X.env.cells.lookup x = some c → c ≠ X.env.locals := fun x c e z => by
  obtain ⟨v, o, ho, hd⟩ := I.cell x c e
  obtain ⟨m, ⟨o', es, ep, ho', hd', _⟩, _⟩ := I.loc
  rw [z, ho'] at ho; cases ho; rw [hd'] at hd; cases hd
theorem Inv.funs (I : Inv X pins σ H s) : s.heap.FunFrames X.base X.outer := by
  have all : ∀ (l : List Env), (∀ b ∈ frs l, b ∈ X.fs) → X.s₀.heap.FunFrames X.base l → s.heap.FunFrames X.base l := by
    intro l
    induction l with
    | nil => intro _ _; trivial
    | cons env r ih =>
      intro hs hl
      obtain ⟨hk, ⟨L, o, hf, hn, ho, hd⟩, hr⟩ := hl
      have hL : L ∈ X.fs := hs L (by unfold frs; rw [List.filterMap_cons, hf]; exact List.mem_cons_self)
      obtain ⟨sl, e⟩ := I.base.slot L o ho (I.ok.frf L hL) hL fun z => I.ok.exfs L z hL
      exact ⟨hk, ⟨L, _, hf, hn, e, hd⟩, ih (fun b hb => hs b (by unfold frs; rw [List.filterMap_cons, hf]; exact List.mem_cons_of_mem _ hb)) hr⟩
  exact all X.outer (fun _ hb => hb) I.ok.funs

/-- the frames that run, for a call -/
theorem Inv.stack (I : Inv X pins σ H s) : s.heap.FunFrames X.base X.stack := by
  rcases I.ok.stk with e | ⟨e, hf⟩
  · rw [e]; exact I.funs
  · rw [e]
    obtain ⟨m, hn, _⟩ := I.loc
    refine .cons (by rw [I.ok.kind]; decide) hf hn ?_ I.funs
    exact Heap.get?_none_of_le (Nat.le_trans I.ok.bsz I.ok.above)
theorem Inv.stkSub (I : Inv X pins σ H s) : ∀ b ∈ frs X.stack, b ∈ X.env.locals :: X.fs := fun b hb => by
  rcases I.ok.stk with e | ⟨e, hf⟩
  · rw [e] at hb; exact List.mem_cons_of_mem _ hb
  · rw [e] at hb
    unfold frs at hb
    rw [List.filterMap_cons, hf] at hb
    exact hb
theorem Inv.stkFree (I : Inv X pins σ H s) : ∀ b ∈ frs X.stack, H b = none := fun b hb => by
  rcases List.mem_cons.mp (I.stkSub b hb) with e | hb
  · rw [e]; exact I.free
  · obtain ⟨_, o, ho, _⟩ := I.ok.funs.mem hb
    exact I.base.free b o ho (I.ok.frf b hb) fun z => I.ok.exfs b z hb

/-- THE STEP: the untracked objects but the frame and the records at ch are kept (the callers' frames up to slots), the frame's map is kept, the new abstract heap is held -/
theorem Inv.step {g' : Array GenState} {t' : Nat} {d' : Drawn} {ch : List Addr} (I : Inv X pins σ H s)
    (hch : ∀ b ∈ ch, (b ∈ X.ex ∨ X.s₀.heap.objs.size ≤ b) ∧ b ≠ X.env.locals ∧ (∀ x c, X.env.cells.lookup x = some c → c ≠ b) ∧ ∀ p ∈ X.pn ++ pins, p.1 ≠ b)
    (keep : ∀ b o, b ≠ X.env.locals → b ∉ X.fs → b ∉ ch → s.heap.get? b = some o → H b = none → h'.get? b = some o)
    (slot : ∀ b o, b ≠ X.env.locals → b ∈ X.fs → b ∉ ch → s.heap.get? b = some o → H b = none → ∃ sl, h'.get? b = some { o with slots := sl }) (free : ∀ b o, b ∉ ch → s.heap.get? b = some o → H b = none → H' b = none)
    (there : ∀ b o, b ∉ ch → s.heap.get? b = some o → ∃ o', h'.get? b = some o')
    (tups : ∀ b xs, H b = some (.tup xs) → H' b = some (.tup xs)) (frzs : ∀ b o u, H b = some (.frz o u) → H' b = some (.frz o u)) (tbls : ∀ b ps, H b = some (.tbl ps) → ∃ more, H' b = some (.tbl (ps ++ more)))
    (ns : ∀ m, s.heap.Ns X.env.locals m → h'.Ns X.env.locals m) (hok : HOk X.prog X.w H' h') (hg : AllBare g') :
    Inv X pins σ H' { s with heap := h', gens := g', drawn := d', toks := t' } := by
  have neL : ∀ b o, X.s₀.heap.get? b = some o → b ≠ X.env.locals := fun b o e => Nat.ne_of_lt (Nat.lt_of_lt_of_le (Heap.lt_size e) I.ok.above)
  have neC : ∀ b o, X.s₀.heap.get? b = some o → b ∉ X.ex → b ∉ ch := fun b o e hx hb => by
    rcases (hch b hb).1 with z | z
    · exact hx z
    · exact absurd (Nat.lt_of_lt_of_le (Heap.lt_size e) z) (Nat.lt_irrefl _)
  have cellK : ∀ x c, X.env.cells.lookup x = some c → ∀ v, s.heap.IsCell c v → h'.IsCell c v := fun x c e v ⟨o, ho, hd⟩ => by
    have nch : c ∉ ch := fun z => (hch c z).2.2.1 x c e rfl
    by_cases hc : c ∈ X.fs
    · obtain ⟨sl, q⟩ := slot c o (I.cne x c e) hc nch ho (I.freeC x c e)
      exact ⟨_, q, hd⟩
    · exact ⟨o, keep c o (I.cne x c e) hc nch ho (I.freeC x c e), hd⟩
  refine ⟨I.ok, I.os, hg, ⟨fun b o e n hb hx => ?_, fun b o e n hb hx => ?_, fun b o e n hx => ?_, fun b o e hx => ?_, fun b xs e => tups b xs (I.base.tups b xs e), fun b o xs e => frzs b o xs (I.base.frzs b o xs e), fun b ps e => ?_⟩, ?_, fun x c e => ?_, ?_, fun x c e => ?_, fun p hp => ?_, hok, I.len⟩
  · exact keep b o (neL b o e) hb (neC b o e hx) (I.base.keep b o e n hb hx) (I.base.free b o e n hx)
  · obtain ⟨sl, e1⟩ := I.base.slot b o e n hb hx
    obtain ⟨sl', e2⟩ := slot b _ (neL b o e) hb (neC b o e hx) e1 (I.base.free b o e n hx)
    exact ⟨sl', e2⟩
  · obtain ⟨o', e1⟩ := I.base.there b o e hx
    exact free b o' (neC b o e hx) e1 (I.base.free b o e n hx)
  · obtain ⟨o', e1⟩ := I.base.there b o e hx
    exact there b o' (neC b o e hx) e1
  · obtain ⟨m1, e1⟩ := I.base.tbls b ps e
    obtain ⟨m2, e2⟩ := tbls b _ e1
    exact ⟨m1 ++ m2, by rw [e2, Array.append_assoc]⟩
  · obtain ⟨m, hn, hl⟩ := I.loc
    refine ⟨m, ns m hn, fun i x v e1 e2 e3 => ?_⟩
    obtain ⟨u, r, l⟩ := hl i x v e1 e2 e3
    refine ⟨u, r, ?_⟩
    rcases l with l | ⟨k, c, e, z⟩
    · exact .inl l
    · exact .inr ⟨k, c, e, cellK x c e _ z⟩
  · obtain ⟨v, z⟩ := I.cell x c e
    exact ⟨v, cellK x c e v z⟩
  · obtain ⟨m, ⟨o, _, _, ho, _⟩, _⟩ := I.loc
    exact free _ o (fun z => (hch _ z).2.1 rfl) ho I.free
  · obtain ⟨v, o, ho, hd⟩ := I.cell x c e
    exact free c o (fun z => (hch c z).2.2.1 x c e rfl) ho (I.freeC x c e)
  · obtain ⟨e, n, ne, nf, d⟩ := I.pin p hp
    have nch : p.1 ∉ ch := fun z => (hch p.1 z).2.2.2 p hp rfl
    exact ⟨keep p.1 p.2 ne nf nch e n, free p.1 p.2 nch e n, ne, nf, d⟩
/-- .. where the frame's own object is kept too -/
theorem Inv.un {t' : Nat} (I : Inv X pins σ H s) (u : Un X.fs [] H H' s.heap h') (hok : HOk X.prog X.w H' h') : Inv X pins σ H' { s with heap := h', toks := t' } := by
  obtain ⟨m, ⟨o, es, ep, ho, r⟩, _⟩ := id I.loc
  obtain ⟨sl, hL⟩ := u.any ho I.free (by simp)
  exact I.step (g' := s.gens) (d' := s.drawn) (ch := []) (fun _ z => nomatch z) (fun b o _ hb _ e n => u.keep b o e n hb (by simp)) (fun b o _ hb _ e n => u.slot b o e n hb (by simp)) (fun b o _ e n => u.free b o e n (by simp)) (fun b o _ e => u.there b o e (by simp)) u.tups u.frzs u.tbls (fun m' hm => by
    obtain ⟨o', es', ep', ho', r'⟩ := hm
    rw [ho] at ho'; cases ho'
    exact ⟨_, es', ep', hL, r'⟩) hok I.bare
/-- behind a call (or a comprehension's block): the slots of this frame may have changed too, the records at ch may have turned -/
theorem Inv.call {g' : Array GenState} {t' : Nat} {d' : Drawn} {ch : List Addr} (I : Inv X pins σ H s) (u : Un (frs X.stack) ch H H' s.heap h') (hok : HOk X.prog X.w H' h') (hg : AllBare g')
    (hch : ∀ b ∈ ch, (b ∈ X.ex ∨ X.s₀.heap.objs.size ≤ b) ∧ b ≠ X.env.locals ∧ (∀ x c, X.env.cells.lookup x = some c → c ≠ b) ∧ ∀ p ∈ X.pn ++ pins, p.1 ≠ b) :
    Inv X pins σ H' { s with heap := h', gens := g', drawn := d', toks := t' } := by
  obtain ⟨m, ⟨o, es, ep, ho, r⟩, _⟩ := id I.loc
  obtain ⟨sl, hL⟩ := u.any ho I.free fun z => (hch _ z).2.1 rfl
  exact I.step (ch := ch) hch (fun b o hL hb hc e n => u.keep b o e n (fun z => (List.mem_cons.mp (I.stkSub b z)).elim hL hb) hc) (fun b o _ _ hc e n => u.any e n hc) (fun b o hc e n => u.free b o e n hc) (fun b o hc e => u.there b o e hc) u.tups u.frzs u.tbls (fun m' hm => by
    obtain ⟨o', es', ep', ho', r'⟩ := hm
    rw [ho] at ho'; cases ho'
    exact ⟨_, es', ep', hL, r'⟩) hok hg
/-- an untracked record of ours (an iterator) has turned -/
theorem Inv.turned {t' : Nat} {it : Addr} (I : Inv X pins σ H s) (k : ∀ b o, b ≠ it → s.heap.get? b = some o → h'.get? b = some o) (hn : H it = none) (hL : it ≠ X.env.locals)
    (h1 : it ∈ X.ex ∨ X.s₀.heap.objs.size ≤ it) (h2 : ∀ x c, X.env.cells.lookup x = some c → c ≠ it) (h3 : ∀ p ∈ X.pn ++ pins, p.1 ≠ it) : Inv X pins σ H { s with heap := h', toks := t' } := by
  have nit : ∀ b u, H b = some u → b ≠ it := fun b u e z => by rw [z, hn] at e; cases e
  refine I.step (g' := s.gens) (d' := s.drawn) (ch := [it]) (fun b hb => ?_) (fun b o _ _ hc e _ => k b o (fun z => hc (by simp [z])) e) (fun b o _ _ hc e _ => ⟨o.slots, k b o (fun z => hc (by simp [z])) e⟩) (fun _ _ _ _ n => n)
    (fun b o hc e => ⟨o, k b o (fun z => hc (by simp [z])) e⟩) (fun _ _ e => e) (fun _ _ _ e => e) (fun b ps e => ⟨#[], by rw [e]; simp⟩) (fun m hm => ?_) (fun b u e => ?_) I.bare
  · have e : b = it := by simpa using hb
    subst e
    exact ⟨h1, hL, h2, h3⟩
  · obtain ⟨o, es, ep, ho, r⟩ := hm
    exact ⟨o, es, ep, k _ o (Ne.symm hL) ho, r⟩
  · refine (I.hok b u e).stay (fun c v hc q => k c v ?_ q) (fun _ q => q) fun _ _ q => q
    rcases hc with z | z
    · rw [z]; exact nit b u e
    · exact nit c _ z
theorem Inv.tok (I : Inv X pins σ H s) (t : Nat) : Inv X pins σ H { s with toks := t } := I.un (h' := s.heap) (t' := t) Un.refl I.hok
/-- all objects kept -/
theorem Inv.kept {t' : Nat} (I : Inv X pins σ H s) (k : ∀ b u, s.heap.get? b = some u → h'.get? b = some u) : Inv X pins σ H { s with heap := h', toks := t' } := I.un (Un.kept k) (I.hok.kept k)
/-- a new object laid and tracked -/
theorem Inv.laid {a : Addr} {o : HO} {t' : Nat} (I : Inv X pins σ H s) (k : ∀ b u, s.heap.get? b = some u → h'.get? b = some u) (hp : s.heap.objs.size ≤ a) (new : ObjOk X.prog X.w (upd H a o) h' a o) :
    Inv X pins σ (upd H a o) { s with heap := h', toks := t' } := I.un (Un.laid k hp (I.hok.fresh hp)) (I.hok.laid k hp new)
/-- an object written -/
theorem Inv.write {x e : Addr} {o : HO} {t' : Nat} (I : Inv X pins σ H s) (mu : Mut (H x)) (he : e = x ∨ H e = some (.own x)) (k : ∀ b u, b ≠ e → s.heap.get? b = some u → h'.get? b = some u) (heo : ∃ u, h'.get? e = some u)
    (new : ObjOk X.prog X.w (upd H x o) h' x o) : Inv X pins σ (upd H x o) { s with heap := h', toks := t' } := I.un (Un.write mu he k heo) (I.hok.write mu he k heo new)
theorem Inv.pins_of {pins' : List (Addr × Obj)} (I : Inv X pins σ H s) (h : ∀ p ∈ pins', s.heap.get? p.1 = some p.2 ∧ H p.1 = none ∧ p.1 ≠ X.env.locals ∧ p.1 ∉ X.fs ∧ ∀ v, p.2.data ≠ .cell v) : Inv X pins' σ H s :=
  ⟨I.ok, I.os, I.bare, I.base, I.loc, I.cell, I.free, I.freeC, fun p hp => (List.mem_append.mp hp).elim (fun z => I.pin p (List.mem_append_left _ z)) (h p), I.hok, I.len⟩

theorem nodup_ix {N : List Str} (hN : N.Nodup) {i j : Nat} {x : Str} (a : N[i]? = some x) (b : N[j]? = some x) : i = j := by
  obtain ⟨h1, e1⟩ := List.getElem?_eq_some_iff.mp a
  obtain ⟨h2, e2⟩ := List.getElem?_eq_some_iff.mp b
  exact (List.getElem_inj hN).mp (e1.trans e2.symm)

/-- a name is stored; what changed -/
theorem store_ok2 {M : Model} {A : Around} {E : Value → Shared → Prop} {i : Nat} {x : Str} {v : V} {u : Value} {Q : Unit → Shared → Prop} (I : Inv X pins σ H s) (hN : X.N.Nodup) (hi : X.N[i]? = some x) (hx : Loc X.env.scope x) (r : RelV v u)
    (h : ∀ s', Inv X pins (σ.set i (some v)) H s' → (∃ a, Heap.SameBut a s.heap s'.heap ∧ (a = X.env.locals ∨ X.env.cells.lookup x = some a)) → Q () s') (hf : X.fn x = true ∨ X.env.scope.names.lookup x = some .local := by first | exact .inl rfl | exact .inr rfl | assumption) : wpAny M A (storeName X.env x u) Q E s := by
  obtain ⟨m, hn, hl⟩ := id I.loc
  have hcls : (X.env.scope.kind == .class || (X.env.scope.kind == .module && X.env.locals != X.env.globals)) = false := by rw [I.ok.kind]; rfl
  have hiσ : i < σ.length := by rw [I.len]; exact (List.getElem?_eq_some_iff.mp hi).1
  have cne := I.cne
  have tracked : ∀ {a : Addr} {h' : Heap}, (∃ o, s.heap.get? a = some o ∧ H a = none) → Heap.SameBut a s.heap h' → HOk X.prog X.w H h' := fun {a h'} ha hs b ob e => by
    obtain ⟨_, _, hfree⟩ := ha
    refine (I.hok b ob e).stay (fun c w' hc q => (hs.2 c ?_).trans q) (fun _ q => q) fun _ _ q => q
    rintro rfl
    rcases hc with rfl | hc
    · rw [hfree] at e; cases e
    · rw [hfree] at hc; cases hc
  rcases hx with hk | hk
  · refine wpAny_storeName_local hk hn (fun h' hn' hs => ?_) hcls
    obtain ⟨oL, _, _, hoL, _⟩ := id hn
    refine h _ ⟨I.ok, I.os, I.bare, ⟨fun b o e n hb hx => ?_, fun b o e n hb hx => ?_, I.base.free, fun b o e hx => ?_, I.base.tups, I.base.frzs, I.base.tbls⟩, ⟨_, hn', fun j y v' e1 e2 e3 => ?_⟩, fun y c e => ?_, I.free, I.freeC, fun p hp => ?_, tracked ⟨oL, hoL, I.free⟩ hs, by simpa using I.len⟩ ⟨_, hs, .inl rfl⟩
    · exact (hs.2 b (Nat.ne_of_lt (Nat.lt_of_lt_of_le (Heap.lt_size e) I.ok.above))).trans (I.base.keep b o e n hb hx)
    · obtain ⟨sl, e1⟩ := I.base.slot b o e n hb hx
      exact ⟨sl, (hs.2 b (Nat.ne_of_lt (Nat.lt_of_lt_of_le (Heap.lt_size e) I.ok.above))).trans e1⟩
    · obtain ⟨o', e1⟩ := I.base.there b o e hx
      exact ⟨o', (hs.2 b (Nat.ne_of_lt (Nat.lt_of_lt_of_le (Heap.lt_size e) I.ok.above))).trans e1⟩
    · by_cases hj : j = i
      · subst hj
        rw [hi] at e1; cases e1
        rw [List.getElem?_set_self hiσ] at e2
        cases e2
        exact ⟨u, r, .inl ⟨hk, by simp⟩⟩
      · rw [List.getElem?_set_ne (Ne.symm hj)] at e2
        obtain ⟨u', r', q⟩ := hl j y v' e1 e2 e3
        refine ⟨u', r', ?_⟩
        rcases q with ⟨k, e⟩ | ⟨k, c, e, z⟩
        · refine .inl ⟨k, ?_⟩
          have : y ≠ x := fun e => hj (nodup_ix hN e1 (e ▸ hi))
          simp [this, e]
        · exact .inr ⟨k, c, e, z.sameBut hs (cne y c e)⟩
    · obtain ⟨w', z⟩ := I.cell y c e
      exact ⟨w', z.sameBut hs (cne y c e)⟩
    · obtain ⟨e, n, ne, nf, d⟩ := I.pin p hp
      exact ⟨(hs.2 p.1 ne).trans e, n, ne, nf, d⟩
  · have hfn : X.fn x = true := by
      rcases hf with z | z
      · exact z
      · rw [z] at hk; cases hk
    obtain ⟨c, hc⟩ := I.ok.has x (.inl hk)
    obtain ⟨w', z⟩ := I.cell x c hc
    refine wpAny_storeName_cell I.ok.kind hk hc z (fun h' hc' hs => ?_)
    obtain ⟨oc, hoc, hocd⟩ := id z
    refine h { s with heap := h' } ⟨I.ok, I.os, I.bare, ⟨fun b o e n hb hx => ?_, fun b o e n hb hx => ?_, I.base.free, fun b o e hx => ?_, I.base.tups, I.base.frzs, I.base.tbls⟩, ⟨m, hn.sameBut hs (Ne.symm (cne x c hc)), fun j y v' e1 e2 e3 => ?_⟩, fun y c' e => ?_, I.free, I.freeC, fun p hp => ?_, tracked ⟨oc, hoc, I.freeC x c hc⟩ hs, by simpa using I.len⟩ ⟨c, hs, .inr hc⟩
    · exact (hs.2 b (Nat.ne_of_lt (Nat.lt_of_lt_of_le (Heap.lt_size e) (I.ok.cab x c hfn hc)))).trans (I.base.keep b o e n hb hx)
    · obtain ⟨sl, e1⟩ := I.base.slot b o e n hb hx
      exact ⟨sl, (hs.2 b (Nat.ne_of_lt (Nat.lt_of_lt_of_le (Heap.lt_size e) (I.ok.cab x c hfn hc)))).trans e1⟩
    · obtain ⟨o', e1⟩ := I.base.there b o e hx
      exact ⟨o', (hs.2 b (Nat.ne_of_lt (Nat.lt_of_lt_of_le (Heap.lt_size e) (I.ok.cab x c hfn hc)))).trans e1⟩
    · by_cases hj : j = i
      · subst hj
        rw [hi] at e1; cases e1
        rw [List.getElem?_set_self hiσ] at e2
        cases e2
        exact ⟨u, r, .inr ⟨.inl hk, c, hc, hc'⟩⟩
      · rw [List.getElem?_set_ne (Ne.symm hj)] at e2
        obtain ⟨u', r', q⟩ := hl j y v' e1 e2 e3
        refine ⟨u', r', ?_⟩
        rcases q with q | ⟨k, c', e, z'⟩
        · exact .inl q
        · refine .inr ⟨k, c', e, z'.sameBut hs ?_⟩
          rintro rfl
          exact hj (nodup_ix hN e1 (I.ok.inj _ _ _ e hc ▸ hi))
    · by_cases hcc : c' = c
      · subst hcc; exact ⟨_, hc'⟩
      · obtain ⟨w2, z2⟩ := I.cell y c' e
        exact ⟨w2, z2.sameBut hs hcc⟩
    · obtain ⟨e, n, ne, nf, d⟩ := I.pin p hp
      refine ⟨(hs.2 p.1 ?_).trans e, n, ne, nf, d⟩
      intro q
      rw [q, hoc] at e
      have q' : oc = p.2 := Option.some.inj e
      exact d w' (by rw [← q']; exact hocd)
theorem store_ok {M : Model} {A : Around} {E : Value → Shared → Prop} {i : Nat} {x : Str} {v : V} {u : Value} {Q : Unit → Shared → Prop} (I : Inv X pins σ H s) (hN : X.N.Nodup) (hi : X.N[i]? = some x) (hx : Loc X.env.scope x) (r : RelV v u)
    (h : ∀ s', Inv X pins (σ.set i (some v)) H s' → Q () s') (hf : X.fn x = true ∨ X.env.scope.names.lookup x = some .local := by first | exact .inl rfl | exact .inr rfl | assumption) : wpAny M A (storeName X.env x u) Q E s :=
  store_ok2 I hN hi hx r (fun s' I' _ => h s' I') hf
/-- behind a call or a block, the state as it is -/
theorem Inv.call' {s' : Shared} {ch : List Addr} (I : Inv X pins σ H s) (ho : s'.os = s.os) (u : Un (frs X.stack) ch H H' s.heap s'.heap) (hok : HOk X.prog X.w H' s'.heap) (hg : AllBare s'.gens)
    (hch : ∀ b ∈ ch, (b ∈ X.ex ∨ X.s₀.heap.objs.size ≤ b) ∧ b ≠ X.env.locals ∧ (∀ x c, X.env.cells.lookup x = some c → c ≠ b) ∧ ∀ p ∈ X.pn ++ pins, p.1 ≠ b) : Inv X pins σ H' s' := by
  obtain ⟨h', g', d', t', o'⟩ := s'
  have e : o' = s.os := ho
  subst e
  exact I.call (g' := g') (t' := t') (d' := d') u hok hg hch
end

/-! ### the judgements -/
/-- an exception: its class, its own dict's address (where it has one), the abstract heap behind it -/
abbrev XK := Value → Option Addr → Hp → Prop
abbrev St := List (Option V)
abbrev VK := V → Hp → Prop
/-- an expression's reading; a test's; an argument list's -/
abbrev TE := St → Hp → VK → Prop
abbrev TT := St → Hp → (Bool → Hp → Prop) → Prop
abbrev TA := St → Hp → (List V → Hp → Prop) → Prop
/-- what is wanted behind a statement -/
structure Ends where
  nx : St → Hp → Prop
  rt : VK
  bk : St → Hp → Prop := fun _ _ => False
  ct : St → Hp → Prop := fun _ _ => False
abbrev TS := Ends → St → Hp → Prop

def EP (X : Cx) (pins : List (Addr × Obj)) (σ : St) (Q : VK) (u : Value) (s' : Shared) : Prop := ∃ v H', Inv X pins σ H' s' ∧ RelV v u ∧ Q v H'
def TP (X : Cx) (pins : List (Addr × Obj)) (σ : St) (Q : Bool → Hp → Prop) (b : Bool) (s' : Shared) : Prop := ∃ H', Inv X pins σ H' s' ∧ Q b H'
def AP (X : Cx) (pins : List (Addr × Obj)) (σ : St) (Q : List V → Hp → Prop) (us : List Value) (s' : Shared) : Prop := ∃ vs H', Inv X pins σ H' s' ∧ Vals vs us ∧ Q vs H'
def SP (X : Cx) (pins : List (Addr × Obj)) (D : Ends) (f : Flow) (s' : Shared) : Prop :=
  match f with
  | .next => ∃ σ' H', Inv X pins σ' H' s' ∧ D.nx σ' H'
  | .brk => ∃ σ' H', Inv X pins σ' H' s' ∧ D.bk σ' H'
  | .cont => ∃ σ' H', Inv X pins σ' H' s' ∧ D.ct σ' H'
  | .ret u => ∃ v σ' H', Inv X pins σ' H' s' ∧ RelV v u ∧ D.rt v H'

def PE (X : Cx) (e : Expr) (t : TE) : Prop :=
  ∀ (pins : List (Addr × Obj)) (s : Shared) (σ : St) (H : Hp) (Q : VK), Inv X pins σ H s → t σ H Q → wpAny (model X.prog X.w) X.A (eval e X.env) (EP X pins σ Q) X.xe s
def PT (X : Cx) (e : Expr) (t : TT) : Prop :=
  ∀ (pins : List (Addr × Obj)) (s : Shared) (σ : St) (H : Hp) (Q : Bool → Hp → Prop), Inv X pins σ H s → t σ H Q → wpAny (model X.prog X.w) X.A (isTrue e X.env (eval e X.env)) (TP X pins σ Q) X.xe s
/-- a test whatever its 'whole' is (and, or) -/
def PW (X : Cx) (e : Expr) (t : TT) : Prop :=
  ∀ (whole : Sem Value) (pins : List (Addr × Obj)) (s : Shared) (σ : St) (H : Hp) (Q : Bool → Hp → Prop), Inv X pins σ H s → t σ H Q → wpAny (model X.prog X.w) X.A (isTrue e X.env whole) (TP X pins σ Q) X.xe s
theorem PW.pt {X : Cx} {e : Expr} {t : TT} (h : PW X e t) : PT X e t := h _
/-- an argument list (no star), from the left -/
def PA (X : Cx) (es : List Expr) (t : TA) : Prop :=
  ∀ (pos : Pos) (pins : List (Addr × Obj)) (s : Shared) (σ : St) (H : Hp) (Q : List V → Hp → Prop), Inv X pins σ H s → t σ H Q → wpAny (model X.prog X.w) X.A (spliced (backTo pos (starEach es X.env))) (AP X pins σ Q) X.xe s
def PS (X : Cx) (st : Stmt) (t : TS) : Prop :=
  ∀ (pins : List (Addr × Obj)) (s : Shared) (σ : St) (H : Hp) (D : Ends), Inv X pins σ H s → t D σ H → wpAny (model X.prog X.w) X.A (exec st X.env) (SP X pins D) X.xe s
def PSs (X : Cx) (st : List Stmt) (t : TS) : Prop :=
  ∀ (pins : List (Addr × Obj)) (s : Shared) (σ : St) (H : Hp) (D : Ends), Inv X pins σ H s → t D σ H → wpAny (model X.prog X.w) X.A (execs st X.env) (SP X pins D) X.xe s
/-- weaken the end -/
theorem thn {α : Type} {t : Sem α} {Q Q' : α → Shared → Prop} {M : Model} {A : Around} {E : Value → Shared → Prop} {s : Shared} (h : wpAny M A t Q E s) (hQ : ∀ a s, Q a s → Q' a s) : wpAny M A t Q' E s := wpAny_mono h hQ fun _ _ x => x
end L2

namespace L2
open PySem PySem.Spec PyProof.Rows
section
variable {X : Cx}

/-! ### names and constants -/
def tVar (i : Nat) : TE := fun σ H Q => ∃ v, σ[i]? = some (some v) ∧ Q v H
def tC (v : V) : TE := fun _ H Q => Q v H
theorem pe_var {i : Nat} {x : Str} {pos : Pos} (hN : X.N[i]? = some x) (hv : Vis X.env.scope x) (hd : (x == ("__debug__" : Str)) = false := by decide) (hcd : (x == ("__classdict__" : Str)) = false := by decide) : PE X (.Name x pos) (tVar i) := by
  intro pins s σ H Q I h
  obtain ⟨v, e, h⟩ := h
  obtain ⟨m, hn, hl⟩ := I.loc
  obtain ⟨u, r, l⟩ := hl i x v hN e hv
  have fin : EP X pins σ Q u s := ⟨v, H, I, r, h⟩
  rcases l with ⟨hk, hm⟩ | ⟨hk, c, hc, hcell⟩
  · exact wpAny_Name (wpAny_loadName_local I.ok.kind hk hn hm fin) hd
  · rcases hk with hk | hk
    · exact wpAny_Name (wpAny_loadName_cell I.ok.kind hk hc hcell fin) hd
    · exact wpAny_Name (wpAny_loadName_free I.ok.kind hk hc hcell fin hcd) hd
theorem pe_int {i j pos} : PE X (.Constant (.int i) j pos) (tC (.int i)) := fun _ _ _ H _ I h => wpAny_Constant_int ⟨.int i, H, I.tok _, ⟨_, rfl⟩, h⟩
theorem pe_bl {b j pos} : PE X (.Constant (.bool b) j pos) (tC (.bl b)) := fun _ _ _ H _ I h => Constant_bool ⟨.bl b, H, I, rfl, h⟩
theorem pe_non {j pos} : PE X (.Constant .none j pos) (tC .non) := fun _ _ _ H _ I h => Constant_none ⟨.non, H, I, rfl, h⟩
/-- a global name of the def -/
def Gl (X : Cx) (x : Str) : Prop := X.env.kindOf x = some .globalImplicit
theorem ld_glob {E : Value → Shared → Prop} {pins : List (Addr × Obj)} {s : Shared} {σ : St} {H : Hp} {x : Str} {u : Value} {pos : Pos} {Q : Value → Shared → Prop} (I : Inv X pins σ H s) (hg : Gl X x) (hm : X.mg x = some u) (h : Q u s)
    (hd : (x == ("__debug__" : Str)) = false := by decide) : wpAny (model X.prog X.w) X.A (eval (.Name x pos) X.env) Q E s :=
  Calls.Name_function_global I.ok.kind hg (Calls.loadGlobal_global (by rw [I.ok.glob]; exact I.mod.glob.keeps I.bk) hm h) hd
theorem ld_blt {E : Value → Shared → Prop} {pins : List (Addr × Obj)} {s : Shared} {σ : St} {H : Hp} {x : Str} {u : Value} {pos : Pos} {Q : Value → Shared → Prop} (I : Inv X pins σ H s) (hg : Gl X x) (hm : X.mg x = none) (hv : bootBuiltins x = some u) (h : Q u s)
    (hn : x ≠ "__name__" := by decide) (hd : (x == ("__debug__" : Str)) = false := by decide) : wpAny (model X.prog X.w) X.A (eval (.Name x pos) X.env) Q E s := by
  obtain ⟨mb, h1, h2⟩ := I.mod.blt
  exact Calls.Name_function_global I.ok.kind hg (Calls.loadGlobal_builtin (by rw [I.ok.glob]; exact I.mod.glob.keeps I.bk) hm (by rw [I.ok.blt]; exact h1.keeps I.bk) ((h2 x hn).trans hv) h) hd
theorem pe_bltn {x : Str} {v : V} {u : Value} {pos : Pos} (hg : Gl X x) (hm : X.mg x = none) (hv : bootBuiltins x = some u) (r : RelV v u) (hn : x ≠ "__name__" := by decide) (hd : (x == ("__debug__" : Str)) = false := by decide) : PE X (.Name x pos) (tC v) :=
  fun _ _ _ H _ I h => ld_blt I hg hm hv ⟨v, H, I, r, h⟩ hn hd

/-! ### arithmetic -/
variable {a b : Expr} {ta tb : TE} {pos : Pos}
/-! ### comparisons -/
/-- a comparison as a value, as a test -/
def tB (t : TE) : TT := fun σ H Q => t σ H fun x H1 => ∃ c, x = .bl c ∧ Q c H1
/-- an expression whose value is a bool, as a test -/
theorem pt_val {e : Expr} {t : TE} (h : PE X e t) (he : ∀ whole, isTrue e X.env whole = (do let v ← whole; standAt e.pos; holding [v] (truthy v)) := by intro _; rfl) : PT X e (tB t) := by
  intro pins s σ H Q I hw
  refine isTrue_plain (thn (h pins s σ H _ I hw) fun v s1 ⟨x, H1, I1, r1, q1⟩ => ?_) (he _)
  obtain ⟨d, rfl, q⟩ := q1
  cases r1
  exact wpAny_truthy_bool ⟨H1, I1, q⟩

/-! ### and, or, not -/
variable {tA tB' : TT} {rest : List Expr}
def tAnd (t u : TT) : TT := fun σ H Q => t σ H fun c H1 => if c = true then u σ H1 Q else Q false H1
def tOr (t u : TT) : TT := fun σ H Q => t σ H fun c H1 => if c = true then Q true H1 else u σ H1 Q
def tNot (t : TT) : TT := fun σ H Q => t σ H fun c H1 => Q (!c) H1
theorem pw_and1 (ha : PT X a tA) : PW X (.BoolOp .And [a] pos) tA := by
  intro wh pins s σ H Q I h
  refine isTrue_and (thn (ha pins s σ H Q I h) fun c s1 e => ?_)
  cases c with
  | true => exact isTrue_and_nil e
  | false => exact e
theorem pw_or1 (ha : PT X a tA) : PW X (.BoolOp .Or [a] pos) tA := by
  intro wh pins s σ H Q I h
  refine isTrue_or (thn (ha pins s σ H Q I h) fun c s1 e => ?_)
  cases c with
  | false => exact isTrue_or_nil e
  | true => exact e
theorem pw_and (ha : PT X a tA) (hb : PW X (.BoolOp .And (b :: rest) pos) tB') : PW X (.BoolOp .And (a :: b :: rest) pos) (tAnd tA tB') := by
  intro wh pins s σ H Q I h
  refine isTrue_and (thn (ha pins s σ H _ I h) fun c s1 ⟨H1, I1, q1⟩ => ?_)
  cases c with
  | true => exact hb wh pins s1 σ H1 Q I1 q1
  | false => exact ⟨H1, I1, q1⟩
theorem pw_or (ha : PT X a tA) (hb : PW X (.BoolOp .Or (b :: rest) pos) tB') : PW X (.BoolOp .Or (a :: b :: rest) pos) (tOr tA tB') := by
  intro wh pins s σ H Q I h
  refine isTrue_or (thn (ha pins s σ H _ I h) fun c s1 ⟨H1, I1, q1⟩ => ?_)
  cases c with
  | true => exact ⟨H1, I1, q1⟩
  | false => exact hb wh pins s1 σ H1 Q I1 q1
theorem pt_not (ha : PT X a tA) : PT X (.UnaryOp .Not a pos) (tNot tA) := by
  intro pins s σ H Q I h
  exact isTrue_not (ha pins s σ H (fun c H1 => Q (!c) H1) I h)
/-- .. as values (bools) -/
def tAndV (ta tb : TE) : TE := fun σ H Q => ta σ H fun x H1 => ∃ c, x = .bl c ∧ if c = true then tb σ H1 Q else Q (.bl false) H1
def tOrV (ta tb : TE) : TE := fun σ H Q => ta σ H fun x H1 => ∃ c, x = .bl c ∧ if c = true then Q (.bl true) H1 else tb σ H1 Q
def tNotV (ta : TE) : TE := fun σ H Q => ta σ H fun x H1 => ∃ c, x = .bl c ∧ Q (.bl (!c)) H1
theorem pe_one {op} {t : TE} (h : PE X a t) : PE X (.BoolOp op [a] pos) t := fun pins s σ H Q I hw => BoolOp_one (h pins s σ H Q I hw)
theorem pe_and (ha : PE X a ta) (hb : PE X (.BoolOp .And (b :: rest) pos) tb) : PE X (.BoolOp .And (a :: b :: rest) pos) (tAndV ta tb) := by
  intro pins s σ H Q I h
  refine BoolOp_and (thn (ha pins s σ H _ I h) fun v s1 ⟨x, H1, I1, r1, q1⟩ => ?_)
  obtain ⟨c, rfl, q1⟩ := q1
  cases r1
  refine wpAny_truthy_bool ?_
  cases c with
  | true => exact hb pins s1 σ H1 Q I1 q1
  | false => exact ⟨.bl false, H1, I1, rfl, q1⟩
theorem pe_or (ha : PE X a ta) (hb : PE X (.BoolOp .Or (b :: rest) pos) tb) : PE X (.BoolOp .Or (a :: b :: rest) pos) (tOrV ta tb) := by
  intro pins s σ H Q I h
  refine BoolOp_or (thn (ha pins s σ H _ I h) fun v s1 ⟨x, H1, I1, r1, q1⟩ => ?_)
  obtain ⟨c, rfl, q1⟩ := q1
  cases r1
  refine wpAny_truthy_bool ?_
  cases c with
  | false => exact hb pins s1 σ H1 Q I1 q1
  | true => exact ⟨.bl true, H1, I1, rfl, q1⟩
theorem pe_not (ha : PE X a ta) : PE X (.UnaryOp .Not a pos) (tNotV ta) := by
  intro pins s σ H Q I h
  refine UnaryOp_ (thn (ha pins s σ H _ I h) fun v s1 ⟨x, H1, I1, r1, q1⟩ => ?_)
  obtain ⟨c, rfl, q1⟩ := q1
  cases r1
  exact not_of (wpAny_truthy_bool ⟨.bl (!c), H1, I1, rfl, q1⟩)
/-- a if t else b -/
def tIf (t : TT) (ta tb : TE) : TE := fun σ H Q => t σ H fun c H1 => if c = true then ta σ H1 Q else tb σ H1 Q
theorem pe_ifExp {c : Expr} (hc : PT X c tA) (ha : PE X a ta) (hb : PE X b tb) : PE X (.IfExp c a b pos) (tIf tA ta tb) := by
  intro pins s σ H Q I h
  refine wpAny_IfExp (thn (hc pins s σ H _ I h) fun d s1 ⟨H1, I1, q1⟩ => ?_)
  cases d with
  | true => exact ha pins s1 σ H1 Q I1 q1
  | false => exact hb pins s1 σ H1 Q I1 q1
end
end L2

namespace L2
open PySem PySem.Spec PyProof.Rows

/-! ### a list, a tuple that is read: tracked, frozen, or an object of the module -/
def SqL (K : PySem.W.Frag) (H : Hp) (a : Addr) (xs : List V) : Prop :=
  Rd H a (.lst xs) ∨
    ∃ (o : Obj) (its : Array Value) (n : Nat), K.lookup a = some o ∧ o.cls = .type "list" ∧ o.dict = none ∧ o.data = .seq its n ∧ its.size ≤ sizeLine ∧ Vals xs its.toList
def SqT (K : PySem.W.Frag) (H : Hp) (a : Addr) (xs : List V) : Prop :=
  Rd H a (.tup xs) ∨
    ∃ (o : Obj) (its : Array Value) (n : Nat), K.lookup a = some o ∧ o.cls = .type "tuple" ∧ o.data = .seq its n ∧ its.size ≤ sizeLine ∧ Vals xs its.toList
def absV : Value → Option V
  | .none => some .non
  | .bool b => some (.bl b)
  | .int i _ => some (.int i)
  | .str x _ => some (.str x)
  | .bytes b _ => some (.byt b)
  | .float b _ => some (.flt b)
  | .ref a => some (.ref a)
  | .type n => some (.ty n)
  | _ => none
theorem RelV.abs {x : V} {u : Value} (r : RelV x u) : absV u = some x := by
  cases x with
  | non => cases r; rfl
  | bl _ => cases r; rfl
  | int _ => obtain ⟨t, rfl⟩ := r; rfl
  | str _ => obtain ⟨t, rfl⟩ := r; rfl
  | byt _ => obtain ⟨t, rfl⟩ := r; rfl
  | flt _ => obtain ⟨t, rfl⟩ := r; rfl
  | ref _ => cases r; rfl
  | ty _ => cases r; rfl
theorem RelV.inj {x y : V} {u : Value} (r : RelV x u) (q : RelV y u) : x = y := Option.some.inj (r.abs.symm.trans q.abs)
theorem Vals.inj : ∀ {xs ys : List V} {us : List Value}, Vals xs us → Vals ys us → xs = ys
  | _, _, _, .nil, .nil => rfl
  | _, _, _, .cons r t, .cons r' t' => by rw [r.inj r', Vals.inj t t']
section
variable {X : Cx} {pins : List (Addr × Obj)} {σ : St} {H : Hp} {s : Shared} {a : Addr} {xs ys : List V}
theorem SqL.of {K : PySem.W.Frag} (h : H a = some (.lst xs)) : SqL K H a xs := .inl (.inl h)
theorem SqT.of {K : PySem.W.Frag} (h : H a = some (.tup xs)) : SqT K H a xs := .inl (.inl h)
theorem Inv.list (I : Inv X pins σ H s) (h : SqL X.K H a xs) : ∃ its : List Value, Vals xs its ∧ PlainL s.heap a its.toArray ∧ xs.length ≤ sizeLine := by
  rcases h with h | ⟨o, its, n, hk, hc, hd, hs, hz, r⟩
  · obtain ⟨z, its, n, r, e⟩ := h.ok I.hok
    exact ⟨its, r, ⟨_, n, e, rfl, rfl, rfl⟩, z⟩
  · refine ⟨its.toList, r, ⟨o, n, I.kIn a o hk, hc, hd, by simpa using hs⟩, ?_⟩
    have e := r.length
    simp only [Array.length_toList] at e
    omega
theorem Inv.tuple (I : Inv X pins σ H s) (h : SqT X.K H a xs) : ∃ its : List Value, Vals xs its ∧ IsTup s.heap a its.toArray ∧ xs.length ≤ sizeLine := by
  rcases h with h | ⟨o, its, n, hk, hc, hs, hz, r⟩
  · obtain ⟨z, its, r, p⟩ := h.ok I.hok
    exact ⟨its, r, p, z⟩
  · refine ⟨its.toList, r, ⟨o, I.kIn a o hk, hc, n, by simpa using hs⟩, ?_⟩
    have e := r.length
    simp only [Array.length_toList] at e
    omega
theorem Inv.list_inj (I : Inv X pins σ H s) (h : SqL X.K H a xs) (h' : SqL X.K H a ys) : xs = ys := by
  obtain ⟨its, r, ⟨o, n, e, _, _, d⟩, _⟩ := I.list h
  obtain ⟨its', r', ⟨o', n', e', _, _, d'⟩, _⟩ := I.list h'
  rw [e] at e'; cases e'
  rw [d] at d'
  injection d' with d1 _
  have : its = its' := by simpa using congrArg Array.toList d1
  subst this
  exact r.inj r'
end

/-! ### another wish about exceptions -/
abbrev Cx.wish (X : Cx) (E : Value → Shared → Prop) : Cx := { X with xe := E }
/-- no exception leaves -/
abbrev Cx.nox (X : Cx) : Cx := X.wish fun _ _ => False
theorem Cx.Ok.wish {X : Cx} (ok : X.Ok) (E : Value → Shared → Prop) : (X.wish E).Ok :=
  ⟨ok.mod, ok.kind, ok.glob, ok.blt, ok.above, ok.inj, ok.has, ok.cab, ok.hd, ok.frames, ok.stk, ok.exf, ok.bs, ok.bsz, ok.noex, ok.exfs, ok.funs, ok.frf⟩
theorem Cx.Ok.unwish {X : Cx} {E : Value → Shared → Prop} (ok : (X.wish E).Ok) : X.Ok :=
  ⟨ok.mod, ok.kind, ok.glob, ok.blt, ok.above, ok.inj, ok.has, ok.cab, ok.hd, ok.frames, ok.stk, ok.exf, ok.bs, ok.bsz, ok.noex, ok.exfs, ok.funs, ok.frf⟩
section
variable {X : Cx} {pins : List (Addr × Obj)} {σ : St} {H : Hp} {s : Shared} {E : Value → Shared → Prop}
theorem Inv.wish (I : Inv X pins σ H s) (E : Value → Shared → Prop) : Inv (X.wish E) pins σ H s := ⟨I.ok.wish E, I.os, I.bare, I.base, I.loc, I.cell, I.free, I.freeC, I.pin, I.hok, I.len⟩
theorem Inv.unwish (I : Inv (X.wish E) pins σ H s) : Inv X pins σ H s := ⟨I.ok.unwish, I.os, I.bare, I.base, I.loc, I.cell, I.free, I.freeC, I.pin, I.hok, I.len⟩
theorem SP.unwish {D : Ends} {f : Flow} {s' : Shared} (h : SP (X.wish E) pins D f s') : SP X pins D f s' := by
  cases f with
  | next => obtain ⟨σ', H', I, q⟩ := h; exact ⟨σ', H', I.unwish, q⟩
  | brk => obtain ⟨σ', H', I, q⟩ := h; exact ⟨σ', H', I.unwish, q⟩
  | cont => obtain ⟨σ', H', I, q⟩ := h; exact ⟨σ', H', I.unwish, q⟩
  | ret u => obtain ⟨v, σ', H', I, r, q⟩ := h; exact ⟨v, σ', H', I.unwish, r, q⟩
theorem PSs.nox {st : List Stmt} {t : TS} (h : PSs X.nox st t) : PSs X st t := fun pins s σ H D I hw =>
  wpAny_mono (h pins s σ H D (I.wish _) hw) (fun _ _ q => q.unwish) fun _ _ z => False.elim z
end

/-! ### blocks and small statements -/
section
variable {X : Cx} {st : Stmt} {rest : List Stmt} {t u : TS} {e : Expr} {te : TE} {pos : Pos}
def tNext : TS := fun D σ H => D.nx σ H
def tSeq (t u : TS) : TS := fun D σ H => t { D with nx := u D } σ H
theorem pss_nil : PSs X [] tNext := fun _ _ σ H _ I h => wpAny_execs_nil ⟨σ, H, I, h⟩
theorem pss_cons (h1 : PS X st t) (h2 : PSs X rest u) : PSs X (st :: rest) (tSeq t u) := by
  intro pins s σ H D I h
  refine wpAny_execs_cons (thn (h1 pins s σ H { D with nx := u D } I h) fun f s1 q => ?_)
  cases f with
  | next =>
    obtain ⟨σ', H', I', q⟩ := q
    exact h2 pins s1 σ' H' D I' q
  | ret v => exact q
  | brk => exact q
  | cont => exact q
theorem pss_one (h1 : PS X st t) : PSs X [st] t := by
  intro pins s σ H D I h
  refine wpAny_execs_cons (thn (h1 pins s σ H D I h) fun f s1 q => ?_)
  cases f with
  | next => exact wpAny_execs_nil q
  | ret v => exact q
  | brk => exact q
  | cont => exact q
/-- in a def's body nothing is shown -/
theorem Inv.quiet {pins : List (Addr × Obj)} {σ : St} {H : Hp} {s : Shared} (I : Inv X pins σ H s) : interactive X.env = false := by simp [interactive, I.ok.kind]
/-- an expression whose value is dropped -/
def tDrop (te : TE) : TS := fun D σ H => te σ H fun _ H1 => D.nx σ H1
theorem ps_expr (he : PE X e te) (hs : swapsWith e none pos.line X.env = pure false := by rfl) : PS X (.Expr e pos) (tDrop te) := by
  intro pins s σ H D I h
  exact wpAny_Expr_any (thn (he pins s σ H _ I h) fun v s1 ⟨x, H1, I1, r1, q1⟩ => ⟨σ, H1, I1, q1⟩) I.quiet hs
def tRet (te : TE) : TS := fun D σ H => te σ H D.rt
theorem ps_ret (he : PE X e te) : PS X (.Return (some e) pos) (tRet te) := by
  intro pins s σ H D I h
  exact wpAny_Return_some (thn (he pins s σ H _ I h) fun v s1 ⟨x, H1, I1, r1, q1⟩ => ⟨x, σ, H1, I1, r1, q1⟩)
def tIfS (c : TT) (t u : TS) : TS := fun D σ H => c σ H fun b H1 => if b = true then t D σ H1 else u D σ H1
theorem ps_if {c : Expr} {a b : List Stmt} {tc : TT} (hc : PT X c tc) (ha : PSs X a t) (hb : PSs X b u) : PS X (.If c a b pos) (tIfS tc t u) := by
  intro pins s σ H D I h
  refine wpAny_If (thn (hc pins s σ H _ I h) fun d s1 ⟨H1, I1, q1⟩ => ?_)
  cases d with
  | true => exact ha pins s1 σ H1 D I1 q1
  | false => exact hb pins s1 σ H1 D I1 q1
/-- code that the proof never comes to -/
def tNever : TS := fun _ _ _ => False
theorem ps_never : PS X st tNever := fun _ _ _ _ _ _ h => h.elim
end

/-! ### targets -/
abbrev TG := V → St → Hp → (St → Hp → Prop) → Prop
abbrev TGs := List V → St → Hp → (St → Hp → Prop) → Prop
def PG (X : Cx) (target : Expr) (t : TG) : Prop :=
  ∀ (pins : List (Addr × Obj)) (s : Shared) (σ : St) (H : Hp) (v : V) (u : Value) (Q : St → Hp → Prop), Inv X pins σ H s → RelV v u → t v σ H Q →
    wpAny (model X.prog X.w) X.A (assign target X.env u) (fun _ s' => ∃ σ' H', Inv X pins σ' H' s' ∧ Q σ' H') X.xe s
/-- several targets, one after another -/
def PGs (X : Cx) (ts : List Expr) (t : TGs) : Prop :=
  ∀ (pins : List (Addr × Obj)) (s : Shared) (σ : St) (H : Hp) (vs : List V) (us : List Value) (Q : St → Hp → Prop), Inv X pins σ H s → Vals vs us → t vs σ H Q →
    wpAny (model X.prog X.w) X.A (assignInOrder ((assignEach ts X.env).map (·.2)) us) (fun _ s' => ∃ σ' H', Inv X pins σ' H' s' ∧ Q σ' H') X.xe s
/-- o[i] = v, by values -/
abbrev TSet := V → V → V → Hp → (Hp → Prop) → Prop
def PSet (X : Cx) (t : TSet) : Prop :=
  ∀ (pins : List (Addr × Obj)) (s : Shared) (σ : St) (H : Hp) (o i v : V) (ov iv u : Value) (Q : Hp → Prop), Inv X pins σ H s → RelV o ov → RelV i iv → RelV v u → t o i v H Q →
    wpAny (model X.prog X.w) X.A (setItem ov iv u) (fun _ s' => ∃ H', Inv X pins σ H' s' ∧ Q H') X.xe s
/-- a op= b, by values -/
abbrev TIp := V → V → Hp → VK → Prop
def PIp (X : Cx) (op : Operator) (t : TIp) : Prop :=
  ∀ (pins : List (Addr × Obj)) (s : Shared) (σ : St) (H : Hp) (x y : V) (v u : Value) (Q : VK), Inv X pins σ H s → RelV x v → RelV y u → t x y H Q →
    wpAny (model X.prog X.w) X.A (inplaceOp op v u) (EP X pins σ Q) X.xe s
section
variable {X : Cx} {pos : Pos}
def gName (i : Nat) : TG := fun v σ H Q => Q (σ.set i (some v)) H
theorem pg_name {i : Nat} {x : Str} (hN : X.N.Nodup) (hi : X.N[i]? = some x) (hx : Loc X.env.scope x) (hf : X.fn x = true ∨ X.env.scope.names.lookup x = some .local := by first | exact .inl rfl | exact .inr rfl | assumption) : PG X (.Name x pos) (gName i) := by
  intro pins s σ H v u Q I r h
  exact wpAny_assign_Name (store_ok I hN hi hx r (fun s' I' => ⟨_, H, I', h⟩) hf)
def gNil : TGs := fun vs σ H Q => vs = [] ∧ Q σ H
def gCons (t : TG) (u : TGs) : TGs := fun vs σ H Q => ∃ v r, vs = v :: r ∧ t v σ H fun σ' H' => u r σ' H' Q
theorem pgs_nil : PGs X [] gNil := by
  intro pins s σ H vs us Q I r h
  obtain ⟨e, h⟩ := h
  subst e
  cases r
  exact assignInOrder_nil ⟨σ, H, I, h⟩
theorem pgs_cons {e : Expr} {es : List Expr} {t : TG} {u : TGs} (h1 : PG X e t) (h2 : PGs X es u)
    (hs : (assignEach (e :: es) X.env).map (·.2) = assign e X.env :: (assignEach es X.env).map (·.2) := by rfl) : PGs X (e :: es) (gCons t u) := by
  intro pins s σ H vs us Q I r h
  obtain ⟨v, vr, e1, h⟩ := h
  subst e1
  cases r with
  | cons r rr =>
    rw [hs]
    refine assignInOrder_cons (thn (h1 pins s σ H _ _ _ I r h) fun _ s1 ⟨σ1, H1, I1, q1⟩ => ?_)
    exact h2 pins s1 σ1 H1 _ _ Q I1 rr q1
/-- (a, b, ..) = a tuple of that length -/
def gTup (K : PySem.W.Frag) (n : Nat) (t : TGs) : TG := fun v σ H Q => ∃ a xs, v = .ref a ∧ SqT K H a xs ∧ xs.length = n ∧ t xs σ H Q
theorem pg_tup {es : List Expr} {k : Nat} {t : TGs} {n : Nat} (hc : X.calm = true) (h : PGs X es t)
    (hn : (assignEach es X.env).length = n := by rfl) (hst : (assignEach es X.env).findIdx? (·.1) = none := by rfl) : PG X (.Tuple es k pos) (gTup X.K n t) := by
  intro pins s σ H v u Q I r hw
  obtain ⟨a, xs, e1, hq, hl, hw⟩ := hw
  subst e1
  cases r
  obtain ⟨its, rv, ht, hz⟩ := I.tuple hq
  refine assign_Tuple_tuple (I.ok.hd hc) ht (by simp [hn, ← hl, rv.length]) hst fun h' hx => ?_
  have I1 : Inv X pins σ H { s with heap := h' } := I.kept (t' := s.toks) fun b o e => hx b o (Nat.ne_of_lt (Heap.lt_size e)) e
  exact h pins _ σ H xs _ Q I1 (by simpa using rv) hw
/-- o[i] = .. -/
def gSub (to ti : TE) (t : TSet) : TG := fun v σ H Q => to σ H fun o H1 => ti σ H1 fun i H2 => t o i v H2 fun H3 => Q σ H3
theorem pg_sub {o i : Expr} {to ti : TE} {t : TSet} (ho : PE X o to) (hi : PE X i ti) (hs : PSet X t)
    (ha : ∀ v, assign (.Subscript o i pos) X.env v = (do
      let ov ← holding [v] (eval o X.env)
      let iv ← holding [v, ov] (eval i X.env)
      standAt pos
      holding [v, ov, iv] (setItem ov iv v)
      release [v, ov, iv] []) := by intro _; rfl) : PG X (.Subscript o i pos) (gSub to ti t) := by
  intro pins s σ H v u Q I r h
  rw [ha]
  refine wpAny_bind (wpAny_holding (thn (ho pins s σ H _ I h) fun ov s1 ⟨x, H1, I1, r1, q1⟩ => ?_))
  refine wpAny_bind (wpAny_holding (thn (hi pins s1 σ H1 _ I1 q1) fun iv s2 ⟨y, H2, I2, r2, q2⟩ => ?_))
  refine wpAny_bind (wpAny_standAt (wpAny_bind (wpAny_holding (thn (hs pins s2 σ H2 x y v ov iv u _ I2 r1 r2 r q2) fun _ s3 ⟨H3, I3, q3⟩ => ?_))))
  exact wpAny_release ⟨σ, H3, I3, q3⟩
/-- target = value -/
def tAsg (te : TE) (g : TG) : TS := fun D σ H => te σ H fun x H1 => g x σ H1 D.nx
theorem ps_asg {tg e : Expr} {te : TE} {g : TG} (he : PE X e te) (hg : PG X tg g) (hs : swapsWithSole [tg] e pos.line X.env = pure false := by rfl) (hw : swappedStores [tg] e X.env = pure none := by rfl)
    (h1 : (assignEach [tg] X.env).map (·.2) = [assign tg X.env] := by rfl) : PS X (.Assign [tg] e pos) (tAsg te g) := by
  intro pins s σ H D I h
  refine wpAny_Assign_stores (thn (he pins s σ H _ I h) fun v s1 ⟨x, H1, I1, r1, q1⟩ => ?_) hs hw
  rw [h1]
  exact thn (hg pins s1 σ H1 x v _ I1 r1 q1) fun _ s2 q => q
/-- name = value -/
theorem ps_set {i : Nat} {x : Str} {e : Expr} {te : TE} {pos' : Pos} (hN : X.N.Nodup) (hi : X.N[i]? = some x) (hx : Loc X.env.scope x) (he : PE X e te) (hs : swapsWith e (some (.Name x pos')) pos.line X.env = pure false := by rfl) (hf : X.fn x = true ∨ X.env.scope.names.lookup x = some .local := by first | exact .inl rfl | exact .inr rfl | assumption) :
    PS X (.Assign [.Name x pos'] e pos) (tAsg te (gName i)) := by
  intro pins s σ H D I h
  refine wpAny_Assign_Name (thn (he pins s σ H _ I h) fun v s1 ⟨y, H1, I1, r1, q1⟩ => ?_) hs
  exact store_ok I1 hN hi hx r1 (fun s2 I2 => ⟨_, H1, I2, q1⟩) hf
/-- o[i] op= e -/
def tAugS (to ti te : TE) (tget : V → V → Hp → VK → Prop) (tip : TIp) (tset : TSet) : TS := fun D σ H => to σ H fun o H1 => ti σ H1 fun i H2 => tget o i H2 fun x H3 => te σ H3 fun y H4 => tip x y H4 fun z H5 => tset o i z H5 fun H6 => D.nx σ H6
/-- o[i], by values -/
def PGet (X : Cx) (t : V → V → Hp → VK → Prop) : Prop :=
  ∀ (pins : List (Addr × Obj)) (s : Shared) (σ : St) (H : Hp) (o i : V) (ov iv : Value) (Q : VK), Inv X pins σ H s → RelV o ov → RelV i iv → t o i H Q →
    wpAny (model X.prog X.w) X.A (getItem ov iv) (EP X pins σ Q) X.xe s
theorem ps_augS {o i e : Expr} {to ti te : TE} {tget : V → V → Hp → VK → Prop} {tip : TIp} {tset : TSet} {op : Operator} {tpos : Pos} (ho : PE X o to) (hi : PE X i ti) (hg : PGet X tget) (he : PE X e te) (hp : PIp X op tip) (hs : PSet X tset)
    (ha : ∀ ov iv new, augStore i ov iv new = (do holding [new, ov, iv] (setItem ov iv new); release [new, ov, iv] []; pure .next) := by intros; rfl) : PS X (.AugAssign (.Subscript o i tpos) op e pos) (tAugS to ti te tget tip tset) := by
  intro pins s σ H D I h
  refine wpAny_AugAssign_SubscriptAny (thn (ho pins s σ H _ I h) fun ov s1 ⟨x1, H1, I1, r1, q1⟩ => ?_) ha
  refine thn (hi pins s1 σ H1 _ I1 q1) fun iv s2 ⟨x2, H2, I2, r2, q2⟩ => ?_
  refine thn (hg pins s2 σ H2 x1 x2 ov iv _ I2 r1 r2 q2) fun old s3 ⟨x3, H3, I3, r3, q3⟩ => ?_
  refine thn (he pins s3 σ H3 _ I3 q3) fun v s4 ⟨x4, H4, I4, r4, q4⟩ => ?_
  refine thn (hp pins s4 σ H4 x3 x4 old v _ I4 r3 r4 q4) fun new s5 ⟨x5, H5, I5, r5, q5⟩ => ?_
  exact thn (hs pins s5 σ H5 x1 x2 x5 ov iv new _ I5 r1 r2 r5 q5) fun _ s6 ⟨H6, I6, q6⟩ => ⟨σ, H6, I6, q6⟩
/-- ints -/
def ipI (f : Int → Int → Int) : TIp := fun x y H Q => ∃ i j, x = .int i ∧ y = .int j ∧ Q (.int (f i j)) H
theorem ip_add : PIp X .Add (ipI fun i j => i + j) := by
  intro pins s σ H x y v u Q I r1 r2 h
  obtain ⟨i, j, e1, e2, q⟩ := h
  subst e1; subst e2
  obtain ⟨t, rfl⟩ := r1
  obtain ⟨t', rfl⟩ := r2
  exact iadd_int ⟨.int _, H, I.tok _, ⟨_, rfl⟩, q⟩
end

/-! ### while -/
section
variable {X : Cx} {pos : Pos}
end

/-! ### what a loop or a comprehension walks -/
/-- at turn i: it yields x (the heap may grow), or it stops -/
structure It where
  go : Nat → Hp → Prop
  yld : Nat → Hp → V → Hp → Prop
  stop : Nat → Hp → Prop
/-- the iterator's own objects may turn: they are not the frame's, not pinned, younger than the entry (or a comprehension's own) -/
def FpOk (X : Cx) (pins : List (Addr × Obj)) (H : Hp) (b : Addr) : Prop :=
  H b = none ∧ b ≠ X.env.locals ∧ b ∉ X.fs ∧ (b ∈ X.ex ∨ X.s₀.heap.objs.size ≤ b) ∧ (∀ x c, X.env.cells.lookup x = some c → c ≠ b) ∧ ∀ p ∈ X.pn ++ pins, p.1 ≠ b
theorem Inv.fpOk {X : Cx} {pins : List (Addr × Obj)} {σ : St} {H H' : Hp} {s : Shared} {b : Addr} (I : Inv X pins σ H s) (hb : s.heap.objs.size ≤ b) (hn : H' b = none) : FpOk X pins H' b := by
  refine ⟨hn, Nat.ne_of_gt (Nat.lt_of_lt_of_le I.lt hb), I.nofs hb, .inr (Nat.le_trans I.sz hb), fun x c e z => ?_, fun p hp z => ?_⟩
  · obtain ⟨v, q⟩ := I.cell x c e
    exact absurd (Nat.lt_of_lt_of_le q.lt (by rw [z]; exact hb)) (Nat.lt_irrefl _)
  · exact absurd (Nat.lt_of_lt_of_le (Heap.lt_size (I.pin p hp).1) (by rw [z]; exact hb)) (Nat.lt_irrefl _)
structure Turn (P : Program) (w : World) (K : PySem.W.Frag) (tg : Expr) (J : It) (fp : List Addr) (it : Addr) (tn : Nat → Heap → Prop) : Prop where
  mem : it ∈ fp
  obj : ∀ i h, tn i h → ∀ b ∈ fp, ∃ o, h.get? b = some o ∧ ∀ v, o.data ≠ .cell v
  keep : ∀ i h h', tn i h → (∀ b ∈ fp, ∀ o, h.get? b = some o → h'.get? b = some o) → tn i h'
  item : ∀ (X : Cx), X.prog = P → X.w = w → X.K = K → X.calm = true → ∀ (i : Nat) (pins : List (Addr × Obj)) (s : Shared) (σ : St) (H : Hp) (E : Value → Shared → Prop), Inv X pins σ H s → (∀ b ∈ fp, FpOk X pins H b) → tn i s.heap → J.go i H →
    wpAny (model P w) X.A (pyNext (.ref it)) (fun r s1 => ∃ u, r = some u ∧
      wpAny (model P w) X.A (letOwnedTupleGo tg (.ref it) u) (fun _ s2 => ∃ x H', Inv X pins σ H' s2 ∧ RelV x u ∧ J.yld i H x H' ∧ tn (i + 1) s2.heap ∧ ∀ b ∈ fp, H' b = none) E s1) E s
  done : ∀ (X : Cx), X.prog = P → X.w = w → X.K = K → X.calm = true → ∀ (i : Nat) (pins : List (Addr × Obj)) (s : Shared) (σ : St) (H : Hp) (E : Value → Shared → Prop), Inv X pins σ H s → (∀ b ∈ fp, FpOk X pins H b) → tn i s.heap → J.stop i H →
    wpAny (model P w) X.A (pyNext (.ref it)) (fun r s1 => r = none ∧ Inv X pins σ H s1) E s
  self : ∀ (A : Around) (i : Nat) (s : Shared) (Q : Value → Shared → Prop) (E : Value → Shared → Prop), tn i s.heap → Q (.ref it) s → wpAny (model P w) A (pyIter (.ref it)) Q E s
abbrev TI := St → Hp → (It → Hp → Prop) → Prop
/-- an iterator has come -/
def PIE (X : Cx) (pins : List (Addr × Obj)) (σ : St) (tg : Expr) (R : It → Hp → Prop) (itv : Value) (s2 : Shared) : Prop :=
  ∃ (it : Addr) (fp : List Addr) (tn : Nat → Heap → Prop) (J : It) (H' : Hp), itv = .ref it ∧ Inv X pins σ H' s2 ∧ Turn X.prog X.w X.K tg J fp it tn ∧ tn 0 s2.heap ∧ (∀ b ∈ fp, FpOk X pins H' b) ∧ R J H'
def PI (X : Cx) (tg iter : Expr) (wi : TI) : Prop :=
  ∀ (pins : List (Addr × Obj)) (s : Shared) (σ : St) (H : Hp) (R : It → Hp → Prop), Inv X pins σ H s → wi σ H R →
    wpAny (model X.prog X.w) X.A (eval iter X.env) (fun v s1 => wpAny (model X.prog X.w) X.A (pyIter v) (PIE X pins σ tg R) X.xe s1) X.xe s

/-- the step ahead of the store is nothing for an iterator that keeps no tuple -/
theorem go_of {M : Model} {A : Around} {E : Value → Shared → Prop} {s : Shared} {tg : Expr} {it : Addr} {u : Value} {o : Obj} {n : String} {vs : Array Value} {Q : Unit → Shared → Prop} (ho : s.heap.get? it = some o) (hc : o.cls = .type n) (hd : o.data = .fields vs)
    (hn : ["enumerate", "zip", "dict_itemiterator", "dict_reverseitemiterator", "odict_iterator", "itertools.zip_longest", "itertools.pairwise"].contains n = false) (hQ : Q () s) : wpAny M A (letOwnedTupleGo tg (.ref it) u) Q E s := by
  unfold letOwnedTupleGo
  cases tg <;> first
    | exact wpAny_pure hQ
    | (cases u <;> first
        | exact wpAny_pure hQ
        | (refine wpAny_bind (wpAny_load ho ?_)
           rw [hc, hd]
           show wpAny M A (if (["enumerate", "zip", "dict_itemiterator", "dict_reverseitemiterator", "odict_iterator", "itertools.zip_longest", "itertools.pairwise"].contains n && vs[0]? == some (rawInt _)) = true then _ else _) Q E s
           rw [if_neg (by intro h; rw [hn, Bool.false_and] at h; cases h)]
           exact wpAny_pure hQ))

/-- the list at a, as it stands at each turn (a loop may append to it) -/
def Itl (K : PySem.W.Frag) (a : Addr) : It :=
  ⟨fun i H => ∃ xs x, SqL K H a xs ∧ xs[i]? = some x, fun i H x H' => H' = H ∧ ∀ xs, SqL K H a xs → xs[i]? = some x, fun i H => ∃ xs, SqL K H a xs ∧ xs.length ≤ i⟩
/-- lo, lo + 1, .. (n of them) -/
def Itr (lo : Int) (n : Nat) : It := ⟨fun i _ => i < n, fun i H x H' => H' = H ∧ x = .int (lo + i), fun i _ => n ≤ i⟩
theorem turn_list {P : Program} {w : World} {K : PySem.W.Frag} {tg : Expr} (a it : Addr) : Turn P w K tg (Itl K a) [it] it (fun i h => h.IsListIter it a i) where
  mem := by simp
  obj := fun i h st b hb => by
    have e : b = it := by simpa using hb
    subst e
    obtain ⟨o, e, c, d⟩ := st
    exact ⟨o, e, fun v z => by rw [d] at z; cases z⟩
  keep := fun i h h' st k => st.at fun o e => k it (by simp) o e
  item := by
    intro X hP hw hK hc i pins s σ H E I hf st hg
    subst hP hw hK
    obtain ⟨xs, x, hq, hx⟩ := hg
    obtain ⟨its, rv, p, hz⟩ := I.list hq
    obtain ⟨u, hu, ru⟩ := rv.get hx
    obtain ⟨f0, f1, f2, f3, f4, f5⟩ := hf it (by simp)
    refine wpAny_pyNext_list_item st p.isList (x := u) (by simpa using hu) fun h' st' sb => ?_
    have I1 : Inv X pins σ H { s with heap := h' } := I.turned (t' := s.toks) (fun b o hb e => (sb.2 b hb).trans e) f0 f1 f3 f4 f5
    obtain ⟨o, e, c, d⟩ := id st'
    exact ⟨u, rfl, go_of (s := { s with heap := h' }) e c d (by decide) ⟨x, H, I1, ru, ⟨rfl, fun ys hy => by rw [I.list_inj hy hq]; exact hx⟩, st', fun b hb => (hf b hb).1⟩⟩
  done := by
    intro X hP hw hK hc i pins s σ H E I hf st hg
    subst hP hw hK
    obtain ⟨xs, hq, hx⟩ := hg
    obtain ⟨its, rv, p, hz⟩ := I.list hq
    obtain ⟨f0, f1, f2, f3, f4, f5⟩ := hf it (by simp)
    have hl := rv.length
    exact wpAny_pyNext_list_end (I.ok.hd hc) st p.isList (by simp; omega) fun h' eb => ⟨rfl, I.turned (t' := s.toks) (fun b o hb e => eb b o hb e) f0 f1 f3 f4 f5⟩
  self := fun _ _ _ _ _ st h => wpAny_pyIter_listiter st h
theorem turn_range {P : Program} {w : World} {K : PySem.W.Frag} {tg : Expr} (it : Addr) (lo : Int) (n : Nat) : Turn P w K tg (Itr lo n) [it] it (fun i h => IsRangeIter h it (lo + (i : Nat) * 1) ((n : Int) - (i : Nat)) 1) where
  mem := by simp
  obj := fun i h st b hb => by
    have e : b = it := by simpa using hb
    subst e
    exact ⟨_, st, fun v z => by
      have z' : Data.fields _ = Data.cell v := z
      cases z'⟩
  keep := fun i h h' st k => k it (by simp) _ st
  item := by
    intro X hP hw hK hc i pins s σ H E I hf st hg
    subst hP hw hK
    obtain ⟨f0, f1, f2, f3, f4, f5⟩ := hf it (by simp)
    have W := Walks.range (prog := X.prog) (w := X.w) (I.ok.hd hc) it lo 1 n
    refine W.item i s _ _ hg st fun v h' tk hv st' kk => ?_
    obtain ⟨t, rfl⟩ := hv
    have I1 : Inv X pins σ H { s with heap := h', toks := tk } := I.turned (fun b o hb e => kk b o (by simpa using hb) e) f0 f1 f3 f4 f5
    refine ⟨_, rfl, go_of (s := { s with heap := h', toks := tk }) (n := "range_iterator") st' rfl rfl (by decide) ⟨.int (lo + i), H, I1, ⟨t, ?_⟩, ⟨rfl, rfl⟩, st', fun b hb => (hf b hb).1⟩⟩
    rw [Int.mul_one]
  done := by
    intro X hP hw hK hc i pins s σ H E I hf st hg
    subst hP hw hK
    obtain ⟨f0, f1, f2, f3, f4, f5⟩ := hf it (by simp)
    exact wpAny_pyNext_range_end (I.ok.hd hc) st (by have : n ≤ i := hg; omega) fun h' eb => ⟨rfl, I.turned (t' := s.toks) (fun b o hb e => eb b o hb e) f0 f1 f3 f4 f5⟩
  self := fun _ _ _ _ _ st h => wpAny_pyIter_rangeiter st h
end L2

namespace L2
open PySem PySem.Spec PyProof.Rows
section
variable {X : Cx} {tg : Expr}
def iList (K : PySem.W.Frag) (tl : TE) : TI := fun σ H R => tl σ H fun x H1 => ∃ a, x = .ref a ∧ (∃ xs, SqL K H1 a xs) ∧ R (Itl K a) H1
theorem pi_list {l : Expr} {tl : TE} (hl : PE X l tl) : PI X tg l (iList X.K tl) := by
  intro pins s σ H R I h
  refine thn (hl pins s σ H _ I h) fun v s1 ⟨x, H1, I1, r1, q1⟩ => ?_
  obtain ⟨a, e, ⟨xs, hq⟩, q⟩ := q1
  subst e
  cases r1
  obtain ⟨its, rv, p, hz⟩ := I1.list hq
  refine wpAny_pyIter_list p.isList ?_
  refine ⟨s1.heap.objs.size, [s1.heap.objs.size], _, _, H1, rfl, I1.kept (t' := s1.toks) fun b o e => Heap.get?_push_of_some _ e, turn_list a _, ⟨_, Heap.get?_push_size _ rfl, rfl, rfl⟩, fun b hb => ?_, q⟩
  have e : b = s1.heap.objs.size := by simpa using hb
  subst e
  exact I1.fpOk (Nat.le_refl _) (I1.hok.fresh (Nat.le_refl _))
/-- a range object just made, walked -/
theorem range_it {pins : List (Addr × Obj)} {σ : St} {H : Hp} {s : Shared} {R : It → Hp → Prop} {E : Value → Shared → Prop} {lo hi : Int} {t u v : Tok} {tk : Nat} (I : Inv X pins σ H s) (h1 : -(2 ^ 62) ≤ lo) (h2 : lo < 2 ^ 62) (h3 : -(2 ^ 62) ≤ hi) (h4 : hi < 2 ^ 62)
    (q : R (Itr lo (hi - lo).toNat) H) : wpAny (model X.prog X.w) X.A (pyIter (.ref s.heap.objs.size)) (PIE X pins σ tg R) E { s with heap := s.heap.push { cls := .type "range", data := .fields #[.int lo t, .int hi u, .int 1 v] }, toks := tk } := by
  refine wpAny_pyIter_range (IsRange.new ..) (small_one h1 h2 h3 h4) ?_
  have I1 : Inv X pins σ H { s with heap := s.heap.push { cls := .type "range", data := .fields #[.int lo t, .int hi u, .int 1 v] }, toks := tk } := I.kept fun b o e => Heap.get?_push_of_some _ e
  refine ⟨(s.heap.push { cls := .type "range", data := .fields #[.int lo t, .int hi u, .int 1 v] }).objs.size, [(s.heap.push { cls := .type "range", data := .fields #[.int lo t, .int hi u, .int 1 v] }).objs.size], _, _, H, rfl,
    I1.kept (t' := tk) fun b o e => Heap.get?_push_of_some _ e, turn_range _ lo (hi - lo).toNat, ?_, fun b hb => ?_, q⟩
  · have e1 : lo + ((0 : Nat) : Int) * 1 = lo := by simp
    have e2 : (((hi - lo).toNat : Nat) : Int) - ((0 : Nat) : Int) = Builtin.Range.rangeSize lo hi 1 := by rw [rangeSize_one]; split <;> omega
    show IsRangeIter _ _ (lo + ((0 : Nat) : Int) * 1) ((((hi - lo).toNat : Nat) : Int) - ((0 : Nat) : Int)) 1
    rw [e1, e2]
    exact Heap.get?_push_size _ rfl
  · have e : b = (s.heap.push { cls := .type "range", data := .fields #[.int lo t, .int hi u, .int 1 v] }).objs.size := by simpa using hb
    subst e
    exact I1.fpOk (Nat.le_refl _) (I1.hok.fresh (Nat.le_refl _))
def iRng1 (ta : TA) : TI := fun σ H R => ta σ H fun vs H1 => ∃ j : Int, vs = [.int j] ∧ -(2 ^ 62) ≤ j ∧ j < 2 ^ 62 ∧ R (Itr 0 j.toNat) H1
def iRng2 (ta : TA) : TI := fun σ H R => ta σ H fun vs H1 => ∃ i j : Int, vs = [.int i, .int j] ∧ (-(2 ^ 62) ≤ i ∧ i < 2 ^ 62 ∧ -(2 ^ 62) ≤ j ∧ j < 2 ^ 62) ∧ R (Itr i (j - i).toNat) H1
theorem pi_range1 {a : Expr} {ta : TA} {p pos : Pos} (hg : Gl X "range") (hm : X.mg "range" = none) (ha : PA X [a] ta) (hs : starEach [a] X.env = [(false, eval a X.env)] := by rfl) : PI X tg (.Call (.Name "range" p) [a] [] pos) (iRng1 ta) := by
  intro pins s σ H R I h
  refine Call_ (ld_blt I hg hm boot_range (PyProof.Rows.callWith_type1 (thn (ha pos pins s σ H _ I h) fun us s1 ⟨vs, H1, I1, r1, q1⟩ => ?_) hs rfl))
  obtain ⟨j, e, q1, q2, q⟩ := q1
  subst e
  cases r1 with
  | cons r rr =>
    cases rr
    obtain ⟨t, rfl⟩ := r
    exact call_range_1 (range_it I1 (by omega) (by omega) q1 q2 (by simpa using q))
theorem pi_range2 {a b : Expr} {ta : TA} {p pos : Pos} (hg : Gl X "range") (hm : X.mg "range" = none) (ha : PA X [a, b] ta) (hs : starEach [a, b] X.env = [(false, eval a X.env), (false, eval b X.env)] := by rfl) (hs2 : starEach [b] X.env = [(false, eval b X.env)] := by rfl) :
    PI X tg (.Call (.Name "range" p) [a, b] [] pos) (iRng2 ta) := by
  intro pins s σ H R I h
  refine Call_ (ld_blt I hg hm boot_range (PyProof.Rows.callWith_type1 (thn (ha pos pins s σ H _ I h) fun us s1 ⟨vs, H1, I1, r1, q1⟩ => ?_) (by rw [hs, hs2]) (by rw [hs2]; rfl)))
  obtain ⟨i, j, e, ⟨q1, q2, q3, q4⟩, q⟩ := q1
  subst e
  cases r1 with
  | cons r rr =>
    cases rr with
    | cons r' rr =>
      cases rr
      obtain ⟨t, rfl⟩ := r
      obtain ⟨t', rfl⟩ := r'
      exact call_range_2 (range_it I1 q1 q2 q3 q4 q)

/-! ### for -/
/-- W: the invariant by the turn and a measure; N: what the body is to reach -/
def tFor (wi : TI) (g : TG) (tb : TS) : TS := fun D σ H => wi σ H fun J H1 => ∃ W : Nat → Nat → St → Hp → Prop, (∃ m, W 0 m σ H1) ∧ ∀ i m σ H, W i m σ H →
  (J.stop i H ∧ D.nx σ H) ∨ (J.go i H ∧ ∃ N : St → Hp → Prop, (∀ σ' H', N σ' H' → ∃ m', m' < m ∧ W (i + 1) m' σ' H') ∧ ∀ x H', J.yld i H x H' → g x σ H' fun σ2 H2 => tb { D with nx := N, ct := N, bk := D.nx } σ2 H2)
/-- the records at fp as they stand -/
def pinsAt (fp : List Addr) (h : Heap) : List (Addr × Obj) := fp.filterMap fun b => (h.get? b).map fun o => (b, o)
theorem mem_pinsAt {fp : List Addr} {h : Heap} {b : Addr} {o : Obj} (hb : b ∈ fp) (e : h.get? b = some o) : (b, o) ∈ pinsAt fp h := List.mem_filterMap.mpr ⟨b, hb, by rw [e]; rfl⟩
theorem of_pinsAt {fp : List Addr} {h : Heap} {p : Addr × Obj} (hp : p ∈ pinsAt fp h) : p.1 ∈ fp ∧ h.get? p.1 = some p.2 := by
  obtain ⟨b, hb, e⟩ := List.mem_filterMap.mp hp
  cases q : h.get? b with
  | none => rw [q] at e; cases e
  | some o =>
    rw [q] at e
    have e' : (b, o) = p := Option.some.inj e
    subst e'
    exact ⟨hb, q⟩
theorem Inv.pinned {pins : List (Addr × Obj)} {σ : St} {H : Hp} {s : Shared} {fp : List Addr} (I : Inv X pins σ H s) (hf : ∀ b ∈ fp, FpOk X pins H b) (ho : ∀ b ∈ fp, ∃ o, s.heap.get? b = some o ∧ ∀ v, o.data ≠ .cell v) : Inv X (pins ++ pinsAt fp s.heap) σ H s :=
  I.pins_of fun p hp => (List.mem_append.mp hp).elim (fun z => I.pin p (List.mem_append_right _ z)) fun z => by
    obtain ⟨hb, e⟩ := of_pinsAt z
    obtain ⟨f0, f1, f2, _⟩ := hf p.1 hb
    obtain ⟨o, e', d⟩ := ho p.1 hb
    rw [e] at e'; cases e'
    exact ⟨e, f0, f1, f2, d⟩
theorem Inv.unpinned {pins pl : List (Addr × Obj)} {σ : St} {H : Hp} {s : Shared} (I : Inv X (pins ++ pl) σ H s) : Inv X pins σ H s := I.pins_of fun p hp => I.pin p (List.mem_append_right _ (List.mem_append_left _ hp))
theorem ps_for {iter : Expr} {body : List Stmt} {wi : TI} {g : TG} {tb : TS} {pos : Pos} (hp : PassesOwn (model X.prog X.w) X.A X.env X.xe) (hc : X.calm = true) (hi : PI X tg iter wi) (hg : PG X tg g) (hb : PSs X body tb)
    (hs : ∀ x, foldedSetIterable iter X.env x = pure x := by intro _; rfl) : PS X (.For tg iter body [] pos) (tFor wi g tb) := by
  intro pins s σ H D I h
  refine wpAny_For (thn (hi pins s σ H _ I h) fun v s1 h1 => thn h1 fun itv s2 h2 => ?_) hs
  obtain ⟨it, fp, tn, J, H2, e, I2, T, st2, f2, W, ⟨m0, w0⟩, turn⟩ := h2
  subst e
  -- what stays true of the iterator's objects through the loop
  have stat : ∀ {H' : Hp}, (∀ b ∈ fp, H' b = none) → ∀ b ∈ fp, FpOk X pins H' b := fun hn b hb => ⟨hn b hb, (f2 b hb).2⟩
  refine codeAny_forLoop_any (fun n s' => ∃ i σ' H', Inv X pins σ' H' s' ∧ tn i s'.heap ∧ (∀ b ∈ fp, H' b = none) ∧ W i n σ' H') ?_ m0 ⟨0, σ, H2, I2, st2, fun b hb => (f2 b hb).1, w0⟩
  rintro n s3 ⟨i, σ3, H3, I3, st3, fr3, w3⟩
  rcases turn i n σ3 H3 w3 with ⟨stop, qn⟩ | ⟨go, N, hN, step⟩
  · refine wpAny_passesOwn hp (thn (T.done X rfl rfl rfl hc i pins s3 σ3 H3 X.xe I3 (stat fr3) st3 stop) fun r s4 ⟨hr, I4⟩ => ?_)
    subst hr
    exact wpAny_execs_nil ⟨σ3, H3, I4, qn⟩
  · refine wpAny_passesOwn hp (thn (T.item X rfl rfl rfl hc i pins s3 σ3 H3 X.xe I3 (stat fr3) st3 go) fun r s4 ⟨u, hr, h4⟩ => ?_)
    subst hr
    refine wpAny_passesOwn hp (thn h4 fun _ s5 ⟨x, H5, I5, r5, y5, st5, fr5⟩ => ?_)
    have I5' := I5.pinned (stat fr5) (T.obj _ _ st5)
    refine wpAny_passesOwn hp (thn (hg _ s5 σ3 H5 x u _ I5' r5 (step x H5 y5)) fun _ s6 ⟨σ6, H6, I6, q6⟩ => ?_)
    refine wpAny_passesOwn hp (thn (hb _ s6 σ6 H6 _ I6 q6) fun f s7 q7 => ?_)
    have again : ∀ {σ7 : St} {H7 : Hp}, Inv X (pins ++ pinsAt fp s5.heap) σ7 H7 s7 → N σ7 H7 → ∃ m, m < n ∧ ∃ i σ' H', Inv X pins σ' H' s7 ∧ tn i s7.heap ∧ (∀ b ∈ fp, H' b = none) ∧ W i m σ' H' := fun {σ7 H7} I7 n7 => by
      obtain ⟨m', hm, w7⟩ := hN σ7 H7 n7
      refine ⟨m', hm, i + 1, σ7, H7, I7.unpinned, T.keep _ _ _ st5 fun b hb o e => (I7.pin (b, o) (List.mem_append_right _ (List.mem_append_right _ (mem_pinsAt hb e)))).1, fun b hb => ?_, w7⟩
      obtain ⟨o, e, d⟩ := T.obj _ _ st5 b hb
      exact (I7.pin (b, o) (List.mem_append_right _ (List.mem_append_right _ (mem_pinsAt hb e)))).2.1
    cases f with
    | next => obtain ⟨σ7, H7, I7, n7⟩ := q7; exact again I7 n7
    | cont => obtain ⟨σ7, H7, I7, n7⟩ := q7; exact again I7 n7
    | brk => obtain ⟨σ7, H7, I7, q7⟩ := q7; exact ⟨σ7, H7, I7.unpinned, q7⟩
    | ret v => obtain ⟨x7, σ7, H7, I7, r7, q7⟩ := q7; exact ⟨x7, σ7, H7, I7.unpinned, r7, q7⟩
end

/-! ### the forms one uses -/
theorem for_range {lo : Int} {n : Nat} {g : TG} {tb : TS} {D : Ends} {σ : St} {H : Hp} (Pv : Nat → St → Hp → Prop) (h0 : Pv 0 σ H)
    (hs : ∀ i σ H, i < n → Pv i σ H → g (.int (lo + i)) σ H fun σ2 H2 => tb { D with nx := Pv (i + 1), ct := Pv (i + 1), bk := D.nx } σ2 H2) (hd : ∀ σ H, Pv n σ H → D.nx σ H) :
    ∃ W : Nat → Nat → St → Hp → Prop, (∃ m, W 0 m σ H) ∧ ∀ i m σ H, W i m σ H →
      ((Itr lo n).stop i H ∧ D.nx σ H) ∨ ((Itr lo n).go i H ∧ ∃ N : St → Hp → Prop, (∀ σ' H', N σ' H' → ∃ m', m' < m ∧ W (i + 1) m' σ' H') ∧ ∀ x H', (Itr lo n).yld i H x H' → g x σ H' fun σ2 H2 => tb { D with nx := N, ct := N, bk := D.nx } σ2 H2) := by
  refine ⟨fun i m σ H => m = n - i ∧ i ≤ n ∧ Pv i σ H, ⟨n, by simp, Nat.zero_le _, h0⟩, ?_⟩
  rintro i m σ H ⟨rfl, hi, p⟩
  by_cases hlt : i < n
  · refine .inr ⟨hlt, Pv (i + 1), fun σ' H' p' => ⟨n - (i + 1), by omega, rfl, hlt, p'⟩, fun x H' y => ?_⟩
    obtain ⟨e, y⟩ := y
    subst e y
    exact hs i σ _ hlt p
  · have e : i = n := by omega
    subst e
    exact .inl ⟨Nat.le_refl _, hd σ H p⟩
end L2

namespace L2
open PySem PySem.Spec PyProof.Rows

abbrev R2 := V → V → Hp → VK → Prop
/-- a two-place operation on values: f is binaryOp op, inplaceOp op or compareOp op -/
def OpR (X : Cx) (f : Value → Value → Sem Value) (r : R2) : Prop :=
  ∀ (pins : List (Addr × Obj)) (s : Shared) (σ : St) (H : Hp) (x y : V) (v u : Value) (Q : VK), Inv X pins σ H s → RelV x v → RelV y u → r x y H Q →
    wpAny (model X.prog X.w) X.A (f v u) (EP X pins σ Q) X.xe s
/-- a one-place operation -/
def UnR (X : Cx) (f : Value → Sem Value) (r : V → Hp → VK → Prop) : Prop :=
  ∀ (pins : List (Addr × Obj)) (s : Shared) (σ : St) (H : Hp) (x : V) (v : Value) (Q : VK), Inv X pins σ H s → RelV x v → r x H Q →
    wpAny (model X.prog X.w) X.A (f v) (EP X pins σ Q) X.xe s
/-- a call of a value that is known (a builtin, a type) with values -/
def CallR (X : Cx) (f : Value) (r : List V → Hp → VK → Prop) : Prop :=
  ∀ (pins : List (Addr × Obj)) (s : Shared) (σ : St) (H : Hp) (xs : List V) (us : List Value) (Q : VK), Inv X pins σ H s → Vals xs us → r xs H Q →
    wpAny (model X.prog X.w) X.A (call f us) (EP X pins σ Q) X.xe s
def tOp (r : R2) (ta tb : TE) : TE := fun σ H Q => ta σ H fun x H1 => tb σ H1 fun y H2 => r x y H2 Q
def tUn (r : V → Hp → VK → Prop) (ta : TE) : TE := fun σ H Q => ta σ H fun x H1 => r x H1 Q
/-- ints in, under C, and a value out -/
def rI (C : Int → Int → Prop) (g : Int → Int → V) : R2 := fun x y H Q => ∃ i j, x = .int i ∧ y = .int j ∧ C i j ∧ Q (g i j) H
def rI0 (g : Int → Int → V) : R2 := fun x y H Q => ∃ i j, x = .int i ∧ y = .int j ∧ Q (g i j) H
def rU (g : Int → V) : V → Hp → VK → Prop := fun x H Q => ∃ i, x = .int i ∧ Q (g i) H

section
variable {X : Cx} {a b c : Expr} {ta tb tc : TE} {pos : Pos}

theorem binT (ha : PE X a ta) (hb : PE X b tb) {pins : List (Addr × Obj)} {s : Shared} {σ : St} {H : Hp} {R : V → V → Hp → Prop} (I : Inv X pins σ H s)
    (h : ta σ H fun x H1 => tb σ H1 fun y H2 => R x y H2) {Q : Value → Shared → Prop} {f : Value → Value → Sem Value}
    (hf : ∀ v u s2 x y H2, Inv X pins σ H2 s2 → RelV x v → RelV y u → R x y H2 → wpAny (model X.prog X.w) X.A (f v u) Q X.xe s2) :
    wpAny (model X.prog X.w) X.A (eval a X.env) (fun v s₁ => wpAny (model X.prog X.w) X.A (eval b X.env) (fun u s₂ => wpAny (model X.prog X.w) X.A (f v u) Q X.xe s₂) X.xe s₁) X.xe s := by
  refine thn (ha pins s σ H _ I h) fun v s1 ⟨x, H1, I1, r1, q1⟩ => ?_
  refine thn (hb pins s1 σ H1 _ I1 q1) fun u s2 ⟨y, H2, I2, r2, q2⟩ => ?_
  exact hf v u s2 x y H2 I2 r1 r2 q2

theorem pe_op {op : Operator} {r : R2} (ho : OpR X (binaryOp op) r) (ha : PE X a ta) (hb : PE X b tb) : PE X (.BinOp a op b pos) (tOp r ta tb) := by
  intro pins s σ H Q I h
  exact wpAny_BinOp (binT ha hb I h fun v u s2 x y H2 I2 rx ry q => ho pins s2 σ H2 x y v u Q I2 rx ry q)
theorem pe_un {op : UnaryOp} {r : V → Hp → VK → Prop} (ho : UnR X (unaryOp op) r) (ha : PE X a ta) : PE X (.UnaryOp op a pos) (tUn r ta) := by
  intro pins s σ H Q I h
  exact UnaryOp_ (thn (ha pins s σ H _ I h) fun v s1 ⟨x, H1, I1, r1, q1⟩ => ho pins s1 σ H1 x v Q I1 r1 q1)
/-! ### ints -/
theorem opI {f : Value → Value → Sem Value} {C : Int → Int → Prop} {g : Int → Int → Int}
    (rule : ∀ (i j : Int) (t u : Tok) (s : Shared) (Q : Value → Shared → Prop) (E : Value → Shared → Prop), C i j → Q (.int (g i j) s.toks) { s with toks := s.toks + 1 } → wpAny (model X.prog X.w) X.A (f (.int i t) (.int j u)) Q E s) :
    OpR X f (rI C fun i j => .int (g i j)) := by
  intro pins s σ H x y v u Q I rx ry h
  obtain ⟨i, j, rfl, rfl, hc, q⟩ := h
  obtain ⟨t, rfl⟩ := rx
  obtain ⟨t', rfl⟩ := ry
  exact rule i j t t' s _ _ hc ⟨.int (g i j), H, I.tok _, ⟨_, rfl⟩, q⟩
theorem opI0 {f : Value → Value → Sem Value} {g : Int → Int → Int}
    (rule : ∀ (i j : Int) (t u : Tok) (s : Shared) (Q : Value → Shared → Prop) (E : Value → Shared → Prop), Q (.int (g i j) s.toks) { s with toks := s.toks + 1 } → wpAny (model X.prog X.w) X.A (f (.int i t) (.int j u)) Q E s) :
    OpR X f (rI0 fun i j => .int (g i j)) := by
  intro pins s σ H x y v u Q I rx ry h
  obtain ⟨i, j, rfl, rfl, q⟩ := h
  obtain ⟨t, rfl⟩ := rx
  obtain ⟨t', rfl⟩ := ry
  exact rule i j t t' s _ _ ⟨.int (g i j), H, I.tok _, ⟨_, rfl⟩, q⟩
theorem opB0 {f : Value → Value → Sem Value} {g : Int → Int → Bool}
    (rule : ∀ (i j : Int) (t u : Tok) (s : Shared) (Q : Value → Shared → Prop) (E : Value → Shared → Prop), Q (.bool (g i j)) s → wpAny (model X.prog X.w) X.A (f (.int i t) (.int j u)) Q E s) :
    OpR X f (rI0 fun i j => .bl (g i j)) := by
  intro pins s σ H x y v u Q I rx ry h
  obtain ⟨i, j, rfl, rfl, q⟩ := h
  obtain ⟨t, rfl⟩ := rx
  obtain ⟨t', rfl⟩ := ry
  exact rule i j t t' s _ _ ⟨.bl (g i j), H, I, rfl, q⟩

def CDiv (i j : Int) : Prop := 0 < j ∧ j < 1073741824
def CPow (i j : Int) : Prop := 0 ≤ j ∧ j ≤ 1000000 ∧ i.natAbs < 2 ^ 64
def CMul (i j : Int) : Prop := (-(2 ^ 64) < i ∧ i < 2 ^ 64) ∨ (-(2 ^ 64) < j ∧ j < 2 ^ 64)
theorem CMul.ok {i j : Int} (h : CMul i j) : IntMulOk i j := by
  rcases h with ⟨h1, h2⟩ | ⟨h1, h2⟩
  · exact .of_left (intBits_le_64 h1 h2)
  · exact .of_right (intBits_le_64 h1 h2)
theorem op_add : OpR X (binaryOp .Add) (rI0 fun i j => .int (i + j)) := opI0 fun _ _ _ _ _ _ _ q => add_int q
theorem op_sub : OpR X (binaryOp .Sub) (rI0 fun i j => .int (i - j)) := opI0 fun _ _ _ _ _ _ _ q => sub_int q
theorem op_mul : OpR X (binaryOp .Mult) (rI CMul fun i j => .int (i * j)) := opI fun _ _ _ _ _ _ _ hc q => mul_int q hc.ok
/-- // by a positive divisor -/
theorem op_fdiv : OpR X (binaryOp .FloorDiv) (rI CDiv fun i j => .int (i / j)) := opI fun i j _ _ _ _ _ hc q => by
  have h1 : (0 : Int) < j := hc.1
  have h2 : j < 1073741824 := hc.2
  exact floordiv_int (by omega) (by rw [Int.fdiv_eq_ediv_of_nonneg i (by omega)]; exact q) (.inl (PyProof.noPylong_small (by omega)))
/-- % by a positive divisor of any size -/
theorem op_mod : OpR X (binaryOp .Mod) (rI (fun _ j => 0 < j) fun i j => .int (i % j)) := opI fun i j _ _ _ _ _ hc q => by
  have h1 : (0 : Int) < j := hc
  exact mod_int' (by omega) (by rw [Int.fmod_eq_emod_of_nonneg i (by omega)]; exact q)
theorem op_pow : OpR X (binaryOp .Pow) (rI CPow fun i j => .int (i ^ j.toNat)) := opI fun _ _ _ _ _ _ _ hc q => pow_int_small hc.1 hc.2.1 hc.2.2 q
theorem unI {f : Value → Sem Value} {g : Int → Int}
    (rule : ∀ (i : Int) (t : Tok) (s : Shared) (Q : Value → Shared → Prop) (E : Value → Shared → Prop), Q (.int (g i) s.toks) { s with toks := s.toks + 1 } → wpAny (model X.prog X.w) X.A (f (.int i t)) Q E s) :
    UnR X f (rU fun i => .int (g i)) := by
  intro pins s σ H x v Q I rx h
  obtain ⟨i, rfl, q⟩ := h
  obtain ⟨t, rfl⟩ := rx
  exact rule i t s _ _ ⟨.int (g i), H, I.tok _, ⟨_, rfl⟩, q⟩
theorem un_neg : UnR X (unaryOp .USub) (rU fun i => .int (-i)) := unI fun _ _ _ _ _ q => neg_int q
/-! ### bools among ints: n += (a < b) -/
end

/-! ### comparisons -/
/-- the scalars that == tells apart as data does -/
def scal : V → V → Bool
  | .non, .non => true | .non, .int _ => true | .int _, .non => true | .non, .bl _ => true | .bl _, .non => true | .non, .str _ => true | .str _, .non => true
  | .int _, .int _ => true | .bl _, .bl _ => true | .str _, .str _ => true | .byt _, .byt _ => true
  | .int _, .str _ => true | .str _, .int _ => true | .bl _, .str _ => true | .str _, .bl _ => true
  | _, _ => false
def rEq : R2 := fun x y H Q => scal x y = true ∧ Q (.bl (decide (x = y))) H
def rNe : R2 := fun x y H Q => scal x y = true ∧ Q (.bl (!decide (x = y))) H

theorem dec_int {i j : Int} : decide (V.int i = V.int j) = (i == j) := by
  rw [Bool.eq_iff_iff]
  simp
theorem dec_bl {i j : Bool} : decide (V.bl i = V.bl j) = (i == j) := by
  rw [Bool.eq_iff_iff]
  simp
theorem dec_str {i j : Str} : decide (V.str i = V.str j) = (i == j) := by
  rw [Bool.eq_iff_iff]
  simp
theorem dec_byt {i j : Array UInt8} : decide (V.byt i = V.byt j) = (i.toList == j.toList) := by
  rw [Bool.eq_iff_iff]
  cases i
  cases j
  simp

section
variable {X : Cx} {a b c : Expr} {ta tb tc : TE} {pos : Pos}
theorem fin_bl {pins : List (Addr × Obj)} {σ : St} {H : Hp} {s : Shared} {Q : VK} {k k' : Bool} (I : Inv X pins σ H s) (q : Q (.bl k) H) (e : k = k') : EP X pins σ Q (.bool k') s := by
  subst e
  exact ⟨.bl k, H, I, rfl, q⟩
theorem op_eq : OpR X (compareOp .Eq) rEq := by
  intro pins s σ H x y v u Q I rx ry h
  obtain ⟨hs, q⟩ := h
  cases x with
  | non =>
    cases rx
    cases y with
    | non => cases ry; exact PySem.EqNone.eq_none_none (fin_bl I q (by simp))
    | bl j => cases ry; exact PySem.EqNone.eq_none_bool (fin_bl I q (by simp))
    | int j => obtain ⟨t', rfl⟩ := ry; exact PySem.EqNone.eq_none_int (fin_bl I q (by simp))
    | str j => obtain ⟨t', rfl⟩ := ry; exact PySem.EqNone.eq_none_str (fin_bl I q (by simp))
    | _ => exact absurd (show false = true from hs) Bool.false_ne_true
  | bl i =>
    cases rx
    cases y with
    | non => cases ry; exact PySem.EqNone.eq_bool_none (fin_bl I q (by simp))
    | bl j => cases ry; exact eq_bool (fin_bl I q dec_bl)
    | str j => obtain ⟨t', rfl⟩ := ry; exact PySem.EqMixed.eq_bool_str (fin_bl I q (by simp))
    | _ => exact absurd (show false = true from hs) Bool.false_ne_true
  | int i =>
    obtain ⟨t, rfl⟩ := rx
    cases y with
    | non => cases ry; exact PySem.EqNone.eq_int_none (fin_bl I q (by simp))
    | int j => obtain ⟨t', rfl⟩ := ry; exact eq_int (fin_bl I q dec_int)
    | str j => obtain ⟨t', rfl⟩ := ry; exact PySem.EqMixed.eq_int_str (fin_bl I q (by simp))
    | _ => exact absurd (show false = true from hs) Bool.false_ne_true
  | str i =>
    obtain ⟨t, rfl⟩ := rx
    cases y with
    | non => cases ry; exact PySem.EqNone.eq_str_none (fin_bl I q (by simp))
    | bl j => cases ry; exact PySem.EqMixed.eq_str_bool (fin_bl I q (by simp))
    | int j => obtain ⟨t', rfl⟩ := ry; exact PySem.EqMixed.eq_str_int (fin_bl I q (by simp))
    | str j => obtain ⟨t', rfl⟩ := ry; exact eq_str (fin_bl I q dec_str)
    | _ => exact absurd (show false = true from hs) Bool.false_ne_true
  | byt i =>
    obtain ⟨t, rfl⟩ := rx
    cases y with
    | byt j => obtain ⟨t', rfl⟩ := ry; exact PySem.W.eq_bytes (fin_bl I q dec_byt)
    | _ => exact absurd (show false = true from hs) Bool.false_ne_true
  | _ => cases y <;> exact absurd (show false = true from hs) Bool.false_ne_true
theorem op_ne : OpR X (compareOp .NotEq) rNe := by
  intro pins s σ H x y v u Q I rx ry h
  obtain ⟨hs, q⟩ := h
  cases x with
  | non =>
    cases rx
    cases y with
    | non => cases ry; exact PySem.EqNone.ne_none_none (fin_bl I q (by simp))
    | bl j => cases ry; exact PySem.EqNone.ne_none_bool (fin_bl I q (by simp))
    | int j => obtain ⟨t', rfl⟩ := ry; exact PySem.EqNone.ne_none_int (fin_bl I q (by simp))
    | str j => obtain ⟨t', rfl⟩ := ry; exact PySem.EqNone.ne_none_str (fin_bl I q (by simp))
    | _ => exact absurd (show false = true from hs) Bool.false_ne_true
  | bl i =>
    cases rx
    cases y with
    | non => cases ry; exact PySem.EqNone.ne_bool_none (fin_bl I q (by simp))
    | bl j => cases ry; exact ne_bool (fin_bl I q (congrArg not dec_bl))
    | str j => obtain ⟨t', rfl⟩ := ry; exact PySem.EqMixed.ne_bool_str (fin_bl I q (by simp))
    | _ => exact absurd (show false = true from hs) Bool.false_ne_true
  | int i =>
    obtain ⟨t, rfl⟩ := rx
    cases y with
    | non => cases ry; exact PySem.EqNone.ne_int_none (fin_bl I q (by simp))
    | int j => obtain ⟨t', rfl⟩ := ry; exact ne_int (fin_bl I q (congrArg not dec_int))
    | str j => obtain ⟨t', rfl⟩ := ry; exact PySem.EqMixed.ne_int_str (fin_bl I q (by simp))
    | _ => exact absurd (show false = true from hs) Bool.false_ne_true
  | str i =>
    obtain ⟨t, rfl⟩ := rx
    cases y with
    | non => cases ry; exact PySem.EqNone.ne_str_none (fin_bl I q (by simp))
    | bl j => cases ry; exact PySem.EqMixed.ne_str_bool (fin_bl I q (by simp))
    | int j => obtain ⟨t', rfl⟩ := ry; exact PySem.EqMixed.ne_str_int (fin_bl I q (by simp))
    | str j => obtain ⟨t', rfl⟩ := ry; exact ne_str (fin_bl I q (congrArg not dec_str))
    | _ => exact absurd (show false = true from hs) Bool.false_ne_true
  | byt i =>
    obtain ⟨t, rfl⟩ := rx
    cases y with
    | byt j => obtain ⟨t', rfl⟩ := ry; exact PySem.W.ne_bytes (fin_bl I q (congrArg not dec_byt))
    | _ => exact absurd (show false = true from hs) Bool.false_ne_true
  | _ => cases y <;> exact absurd (show false = true from hs) Bool.false_ne_true

theorem op_lt : OpR X (compareOp .Lt) (rI0 fun i j => .bl (decide (i < j))) := opB0 fun _ _ _ _ _ _ _ q => lt_int q
theorem op_le : OpR X (compareOp .LtE) (rI0 fun i j => .bl (decide (i ≤ j))) := opB0 fun _ _ _ _ _ _ _ q => le_int q
theorem op_gt : OpR X (compareOp .Gt) (rI0 fun i j => .bl (decide (j < i))) := opB0 fun _ _ _ _ _ _ _ q => gt_int q
theorem op_ge : OpR X (compareOp .GtE) (rI0 fun i j => .bl (decide (j ≤ i))) := opB0 fun _ _ _ _ _ _ _ q => ge_int q
/-- is None, is not None: the right side a value none -/
theorem op_isN : OpR X (compareOp .Is) (fun x y H Q => y = .non ∧ Q (.bl (decide (x = .non))) H) := by
  intro pins s σ H x y v u Q I rx ry h
  obtain ⟨rfl, q⟩ := h
  cases ry
  refine is_none_gen (fin_bl I q ?_)
  cases x <;> first
    | (cases rx; rfl)
    | (obtain ⟨t, rfl⟩ := rx; rfl)
theorem op_notN : OpR X (compareOp .IsNot) (fun x y H Q => y = .non ∧ Q (.bl (!decide (x = .non))) H) := by
  intro pins s σ H x y v u Q I rx ry h
  obtain ⟨rfl, q⟩ := h
  cases ry
  refine isnot_none_gen (fin_bl I q ?_)
  cases x <;> first
    | (cases rx; rfl)
    | (obtain ⟨t, rfl⟩ := rx; rfl)

theorem nomark (b : Expr) {op : CmpOp} (h : op ≠ .In := by decide) (h2 : op ≠ .NotIn := by decide) : behindInMarks op b = false := by
  have e1 : (op == CmpOp.In) = false := by cases op <;> first | rfl | exact absurd rfl h
  have e2 : (op == CmpOp.NotIn) = false := by cases op <;> first | rfl | exact absurd rfl h2
  cases b <;> simp [behindInMarks, e1, e2]
/-- a comparison as a value; hm: nomark b, or (for in, not in) by with_unfolding_all rfl -/
theorem pe_cmpR {op : CmpOp} {r : R2} (ho : OpR X (compareOp op) r) (ha : PE X a ta) (hb : PE X b tb) (hm : behindInMarks op b = false) : PE X (.Compare a [op] [b] pos) (tOp r ta tb) := by
  intro pins s σ H Q I h
  exact wpAny_Compare1 (binT ha hb I h fun v u s2 x y H2 I2 rx ry q => ho pins s2 σ H2 x y v u Q I2 rx ry q) hm
/-- a reading of a value as a test -/
def tTest (t : TE) : TT := fun σ H Q => t σ H fun x H' => ∃ k, x = .bl k ∧ Q k H'
theorem pt_cmpR {op : CmpOp} {r : R2} (ho : OpR X (compareOp op) r) (ha : PE X a ta) (hb : PE X b tb) (hm : behindInMarks op b = false) : PT X (.Compare a [op] [b] pos) (tTest (tOp r ta tb)) := by
  intro pins s σ H Q I h
  refine wpAny_isTrue_Compare1 (thn (ha pins s σ H _ I h) fun v s1 ⟨x, H1, I1, r1, q1⟩ => thn (hb pins s1 σ H1 _ I1 q1) fun u s2 ⟨y, H2, I2, r2, q2⟩ =>
    thn (ho pins s2 σ H2 x y v u _ I2 r1 r2 q2) fun c s3 ⟨z, H3, I3, r3, k, e, q3⟩ => ?_) hm
  subst e
  cases r3
  exact wpAny_truthy_bool ⟨H3, I3, q3⟩
/-- a op1 b op2 c -/
def tChain (r r' : R2) (ta tb tc : TE) : TE := fun σ H Q => ta σ H fun x H1 => tb σ H1 fun y H2 => r x y H2 fun z H3 => ∃ k, z = .bl k ∧
  (if k = true then tc σ H3 fun w' H4 => r' y w' H4 Q else Q (.bl false) H3)
theorem pe_chain {op op' : CmpOp} {r r' : R2} (ho : OpR X (compareOp op) r) (ho' : OpR X (compareOp op') r') (ha : PE X a ta) (hb : PE X b tb) (hc : PE X c tc)
    (hm : lastMarks [op, op'] [b, c] = false := by with_unfolding_all rfl) : PE X (.Compare a [op, op'] [b, c] pos) (tChain r r' ta tb tc) := by
  intro pins s σ H Q I h
  refine Compare_chain (thn (ha pins s σ H _ I h) fun v s1 ⟨x, H1, I1, r1, q1⟩ => chain_link (thn (hb pins s1 σ H1 _ I1 q1) fun u s2 ⟨y, H2, I2, r2, q2⟩ =>
    thn (ho pins s2 σ H2 x y v u _ I2 r1 r2 q2) fun d s3 ⟨z, H3, I3, r3, k, e, q3⟩ => ?_)) hm
  subst e
  cases r3
  refine wpAny_truthy_bool ?_
  cases k with
  | false => exact ite_ff ⟨.bl false, H3, I3, rfl, q3⟩
  | true => exact ite_tt (chain_last (thn (hc pins s3 σ H3 _ I3 q3) fun w' s4 ⟨z', H4, I4, r4, q4⟩ => ho' pins s4 σ H4 y z' u w' Q I4 r2 r4 q4))
/-! ### truth -/
theorem line63 : (sizeLine : Nat) < 2 ^ 63 := by rw [sizeLine_eq]; decide
/-! ### strs and bytes -/
/-! ### scalar builtins, by CallR -/
theorem vals1 {x : V} {us : List Value} (r : Vals [x] us) : ∃ u, us = [u] ∧ RelV x u := by
  cases r with
  | cons r1 r2 => cases r2; exact ⟨_, rfl, r1⟩
theorem vals2 {x y : V} {us : List Value} (r : Vals [x, y] us) : ∃ u w', us = [u, w'] ∧ RelV x u ∧ RelV y w' := by
  cases r with
  | cons r1 r2 =>
    cases r2 with
    | cons r3 r4 => cases r4; exact ⟨_, _, rfl, r1, r3⟩
theorem call_abs : CallR X (.builtin "abs") (fun xs H Q => ∃ i, xs = [.int i] ∧ Q (.int (if i < 0 then -i else i)) H) := by
  intro pins s σ H xs us Q I r h
  obtain ⟨i, rfl, q⟩ := h
  obtain ⟨u, rfl, t, rfl⟩ := vals1 r
  exact call_abs_int fun u tk => ⟨.int (if i < 0 then -i else i), H, I.tok _, ⟨_, rfl⟩, q⟩
theorem call_min2 (hc : X.calm = true) : CallR X (.builtin "min") (fun xs H Q => ∃ i j, xs = [.int i, .int j] ∧ Q (.int (if j < i then j else i)) H) := by
  intro pins s σ H xs us Q I r h
  obtain ⟨i, j, rfl, q⟩ := h
  obtain ⟨u, w', rfl, ⟨t, rfl⟩, ⟨t', rfl⟩⟩ := vals2 r
  refine min_two_ints (I.ok.hd hc) fun h' tk k => ⟨_, H, I.kept k, ?_, q⟩
  by_cases hj : j < i
  · rw [if_pos hj, if_pos hj]; exact ⟨_, rfl⟩
  · rw [if_neg hj, if_neg hj]; exact ⟨_, rfl⟩
theorem call_int1 : CallR X (.type "int") (fun xs H Q => (∃ i, xs = [.int i] ∧ Q (.int i) H) ∨ ∃ k, xs = [.bl k] ∧ Q (.int (if k then 1 else 0)) H) := by
  intro pins s σ H xs us Q I r h
  rcases h with ⟨i, rfl, q⟩ | ⟨k, rfl, q⟩
  · obtain ⟨u, rfl, t, rfl⟩ := vals1 r
    exact call_int_int ⟨.int i, H, I, ⟨_, rfl⟩, q⟩
  · obtain ⟨u, rfl, r1⟩ := vals1 r
    cases r1
    exact call_int_bool ⟨.int (if k then 1 else 0), H, I.tok _, ⟨_, rfl⟩, q⟩
end
end L2

namespace L2
open PySem PySem.Spec PyProof.Rows

/-! ### an instance, its attributes a map -/
structure ObjM (h : Heap) (x dx C : Addr) (mA : Str → Option Value) : Prop where
  obj : h.get? x = some (PySem.W.instObj C dx)
  ns : h.Ns1 dx mA
  ne : dx ≠ x

theorem lookIn_ns {h : Heap} {dx : Addr} {mA : Str → Option Value} (n : h.Ns1 dx mA) : ∃ od, h.get? dx = some od ∧ ∀ name, PySem.W.lookIn name od = some (mA name) := by
  obtain ⟨o, es, ep, ho, hd, hk, _, hm⟩ := n
  refine ⟨o, ho, fun name => ?_⟩
  have e := hm name
  unfold nsFind findBy at e
  rw [← Array.find?_toList] at e
  unfold PySem.W.lookIn
  rw [hd]
  dsimp only
  split
  · rename_i y q
    rw [q] at e
    exact congrArg some e
  · rename_i q
    rw [q] at e
    have a : es.toList.any (·.refKey) = false := by
      rw [List.any_eq_false]
      intro y hy
      obtain ⟨z, t, hkey⟩ := hk y (Array.mem_toList_iff.mp hy)
      simp [DictEntry.refKey, hkey]
    have a' : ¬ es.toList.any (·.refKey) = true := by rw [a]; exact Bool.false_ne_true
    rw [if_neg a']
    exact congrArg some e

theorem ObjM.look {h : Heap} {x dx C : Addr} {mA : Str → Option Value} (I : ObjM h x dx C mA) : ∃ od, PySem.W.InstAt h x (PySem.W.instObj C dx) C (some od) ∧ ∀ name, PySem.W.lookIn name od = some (mA name) :=
  let ⟨od, ho, hl⟩ := lookIn_ns I.ns
  ⟨od, ⟨I.obj, rfl, rfl, ho⟩, hl⟩

section
variable {prog : Program} {w : World} {A : Around} {E : Value → Shared → Prop} {s : Shared} {K : PySem.W.Frag} {x dx C f : Addr} {mA : Str → Option Value} {name : Str} {v : Value}

theorem get_map {expr : Bool} {Q : Value → Shared → Prop} (X : K.In s.heap) (I : ObjM s.heap x dx C mA) (hg : PySem.W.plainGet K C name = true) (hh : PySem.W.hasDictIn K C = true)
    (ha : PySem.W.findIn K (.ref C) name = some none) (hv : mA name = some v) (hv' : PySem.W.handedIn v = true) (h : Q v { s with toks := s.toks + 1 }) :
    wpAny (model prog w) A (getAttr (.ref x) name expr) Q E s := by
  obtain ⟨od, J, hl⟩ := I.look
  exact PySem.W.get_value X J (PySem.W.plainGet_of hg).1 (PySem.W.findObj_own hh ha rfl (by rw [hl, hv])) hv' h

theorem get_meth {pl : Sem Bool} {Q : Value × List Value → Shared → Prop} (X : K.In s.heap) (I : ObjM s.heap x dx C mA) (hg : PySem.W.plainGet K C name = true)
    (hf : PySem.W.findIn K (.ref C) name = some (some (.ref f))) (ht : PySem.W.isFn K (.ref f) = true) (hv : mA name = none) (h : Q (.ref f, [.ref x]) s) :
    wpAny (model prog w) A (getMethod (.ref x) name pl) Q E s := by
  obtain ⟨od, J, hl⟩ := I.look
  exact PySem.W.method_fn X J (PySem.W.plainGet_of hg).1 (PySem.W.plainGet_of hg).2 hf (beq_iff_eq.mp ht) (by show (PySem.W.lookIn name od).map (·.isSome) = some false; rw [hl, hv]; rfl) h

theorem set_map {ns : List Str} {Q : Unit → Shared → Prop} (X : K.In s.heap) (I : ObjM s.heap x dx C mA)
    (hs : PySem.W.findIn K (.ref C) "__setattr__" = some (some (.builtin "object.__setattr__"))) (hp : PySem.W.plainOver K C = true) (ht : PySem.W.takerIn K C name = some none) (hh : PySem.W.hasDictIn K C = true)
    (hw : PySem.Within mA ns) (hsz : ns.length ≤ sizeLine)
    (h : ∀ h', ObjM h' x dx C (fun y => if y = name then some v else mA y) → Heap.SameBut dx s.heap h' → Q () { s with heap := h', toks := s.toks + 2 }) :
    wpAny (model prog w) A (setAttr (.ref x) name v) Q E s := by
  obtain ⟨od, J, hl⟩ := I.look
  refine PySem.W.set_plain X J hs (PySem.W.osa_open (s := { s with toks := s.toks + 1 }) (r := none) X J hp ht fun b => ?_)
  obtain ⟨cd, hc, hd'⟩ := PySem.W.any_some hh
  have hx : s.heap.get? x = some ⟨.ref C, some dx, .plain, #[]⟩ := I.obj
  refine wpAny_bind (wpAny_pure (wpAny_bind (wpAny_bind (wpAny_loadPart hx (wpAny_bind (PySem.W.Looks.here (s := { s with toks := s.toks + 1 }) (PySem.W.looks_clsIn X hc) ?_))))))
  rw [hd']
  refine wpAny_pure (a := some dx) (wpAny_bind (wpAny_pure (wpAny_bind ?_)))
  refine wpAny_nsSet1 (s := { s with toks := s.toks + 1 }) I.ns fun h' hn2 hs2 => ?_
  obtain ⟨oD, esD, epD, hoD, hdD, hcD⟩ := hn2.count (PySem.Within.cons name v hw)
  refine wpAny_bind (wpAny_lookBehind hoD (by rw [hdD]; exact pastItsLine_dict (Nat.le_trans hcD (by rw [List.length_cons]; omega))) ?_)
  exact wpAny_pure (h _ ⟨(hs2.2 _ (Ne.symm I.ne)).trans I.obj, hn2, I.ne⟩ hs2)

/-- C(..): the dict at the heap's end, the instance behind it; then its __init__ -/
theorem make_map {R : Result → Shared → Prop} {vs : List Value} {kw : List (Str × Value)} (X : K.In s.heap) (hm : PySem.W.makesIn K C = true)
    (hi : PySem.W.findIn K (.ref C) "__init__" = some (some (.ref f))) (hf : PySem.W.typeIn K (.ref f) = some (.type "function"))
    (h : codeAny (model prog w) (A.under (.builtin "type.__call__" ⟨.ref C :: vs, kw⟩)) (.call (.ref f) ⟨.ref (s.heap.objs.size + 1) :: vs, kw⟩) (PySem.W.InitBack (s.heap.objs.size + 1) R)
      { s with heap := (s.heap.push PySem.W.emptyDict).push (PySem.W.instObj C s.heap.objs.size) }) :
    codeAny (model prog w) A (.call (.ref C) ⟨vs, kw⟩) R s := by
  obtain ⟨hh, g, d, t, os⟩ := s
  exact PySem.W.make_core (PySem.W.makes_of X hm) (PySem.W.looks_findIn X hi) (fun self => PySem.W.bind_fn X self hf) (.inl rfl) h
end

/-! ### the attributes as a list of pairs -/
def putF (f : Str) (v : V) : List (Str × V) → List (Str × V)
  | [] => [(f, v)]
  | (g, x) :: r => if g = f then (g, v) :: r else (g, x) :: putF f v r
theorem lookup_putF (f g : Str) (v : V) : ∀ fs : List (Str × V), (putF f v fs).lookup g = if g = f then some v else fs.lookup g
  | [] => by
    show List.lookup g [(f, v)] = _
    by_cases h : g = f
    · have hb : (g == f) = true := beq_iff_eq.mpr h
      simp only [List.lookup, hb, if_pos h]
    · have hb : (g == f) = false := beq_eq_false_iff_ne.mpr h
      simp only [List.lookup, hb, if_neg h]
  | (k, x) :: r => by
    have ih := lookup_putF f g v r
    rw [show putF f v ((k, x) :: r) = (if k = f then (k, v) :: r else (k, x) :: putF f v r) from rfl]
    by_cases hk : k = f
    · rw [if_pos hk]
      by_cases h : g = k
      · have hb : (g == k) = true := beq_iff_eq.mpr h
        simp only [List.lookup, hb, if_pos (h.trans hk)]
      · have hb : (g == k) = false := beq_eq_false_iff_ne.mpr h
        simp only [List.lookup, hb, if_neg (fun e : g = f => h (e.trans hk.symm))]
    · rw [if_neg hk]
      by_cases h : g = k
      · have hb : (g == k) = true := beq_iff_eq.mpr h
        simp only [List.lookup, hb, if_neg (fun e : g = f => hk (h.symm.trans e))]
      · have hb : (g == k) = false := beq_eq_false_iff_ne.mpr h
        simp only [List.lookup, hb]
        exact ih
theorem keys_putF (f : Str) (v : V) : ∀ fs : List (Str × V), f ∈ (putF f v fs).map (·.1) ∧ ∀ g, g ∈ fs.map (·.1) → g ∈ (putF f v fs).map (·.1)
  | [] => ⟨by simp [putF], fun g h => by simp at h⟩
  | (k, x) :: r => by
    obtain ⟨i1, i2⟩ := keys_putF f v r
    rw [show putF f v ((k, x) :: r) = (if k = f then (k, v) :: r else (k, x) :: putF f v r) from rfl]
    by_cases hk : k = f
    · rw [if_pos hk]
      subst hk
      exact ⟨by simp, fun g h => by simpa using h⟩
    · rw [if_neg hk]
      refine ⟨?_, fun g h => ?_⟩
      · rw [List.map_cons]
        exact List.mem_cons_of_mem _ i1
      · rw [List.map_cons] at h ⊢
        rcases List.mem_cons.mp h with e | e
        · exact List.mem_cons.mpr (.inl e)
        · exact List.mem_cons_of_mem _ (i2 g e)
theorem length_putF (f : Str) (v : V) : ∀ fs : List (Str × V), (putF f v fs).length ≤ fs.length + 1
  | [] => by simp [putF]
  | (k, x) :: r => by
    have ih := length_putF f v r
    rw [show putF f v ((k, x) :: r) = (if k = f then (k, v) :: r else (k, x) :: putF f v r) from rfl]
    by_cases hk : k = f
    · rw [if_pos hk, List.length_cons, List.length_cons]; omega
    · rw [if_neg hk, List.length_cons, List.length_cons]; omega

theorem RelO.some_of {v : V} {o : Option Value} (r : RelO (some v) o) : ∃ u, o = some u ∧ RelV v u := by
  cases o with
  | none => exact (show False from r).elim
  | some u => exact ⟨u, rfl, r⟩
theorem RelO.none_of {o : Option Value} (r : RelO none o) : o = none := by
  cases o with
  | none => rfl
  | some u => exact (show False from r).elim
theorem handed_of {v : V} {u : Value} (r : RelV v u) : PySem.W.handedIn u = true := by
  cases v with
  | non => cases (show u = Value.none from r); rfl
  | bl b => cases (show u = Value.bool b from r); rfl
  | int i => obtain ⟨t, e⟩ := (show ∃ t, u = Value.int i t from r); cases e; rfl
  | str x => obtain ⟨t, e⟩ := (show ∃ t, u = Value.str x t from r); cases e; rfl
  | byt b => obtain ⟨t, e⟩ := (show ∃ t, u = Value.bytes b t from r); cases e; rfl
  | flt b => obtain ⟨t, e⟩ := (show ∃ t, u = Value.float b t from r); cases e; rfl
  | ref a => cases (show u = Value.ref a from r); rfl
  | ty n => cases (show u = Value.type n from r); rfl

section
variable {P : Program} {w : World} {H H' : Hp} {h h' : Heap} {a C dx : Addr} {fs fs' : List (Str × V)}
theorem ins_get (hok : HOk P w H h) (e : H a = some (.ins C dx fs)) : ∃ mA, ObjM h a dx C mA ∧ (∀ f, RelO (fs.lookup f) (mA f)) ∧ PySem.Within mA (fs.map (·.1)) ∧ fs.length ≤ 1000 ∧ H dx = some (.own a) := by
  obtain ⟨d, z, ne, ob, mA, n, r, q⟩ := (show ObjOk P w H h a (.ins C dx fs) from hok a _ e)
  exact ⟨mA, ⟨ob, n, ne⟩, r, q, z, d⟩
end

/-! ### what of the text a class must have -/
structure Cls (K : PySem.W.Frag) (C : Addr) : Prop where
  pg : PySem.W.plainGet K C Str.empty = true
  hd : PySem.W.hasDictIn K C = true
  po : PySem.W.plainOver K C = true
  sa : PySem.W.findIn K (.ref C) "__setattr__" = some (some (.builtin "object.__setattr__"))
theorem Cls.get {K : PySem.W.Frag} {C : Addr} (c : Cls K C) (f : Str) : PySem.W.plainGet K C f = true := c.pg
/-- no class of it has the name -/
def NoAttr (K : PySem.W.Frag) (C : Addr) (f : Str) : Prop := PySem.W.findIn K (.ref C) f = some none
theorem NoAttr.taker {K : PySem.W.Frag} {C : Addr} {f : Str} (n : NoAttr K C f) : PySem.W.takerIn K C f = some none := by
  unfold PySem.W.takerIn
  rw [show PySem.W.findIn K (.ref C) f = some none from n]
  rfl
/-- a method: a plain def of the class or of one above it -/
structure Meth (K : PySem.W.Frag) (C : Addr) (m : Str) (f : Addr) : Prop where
  at_ : PySem.W.findIn K (.ref C) m = some (some (.ref f))
  fn : PySem.W.isFn K (.ref f) = true
  kp : PySem.W.keepIn K (.ref f) = true

section
variable {X : Cx} {pins : List (Addr × Obj)} {σ : St} {H : Hp} {s : Shared} {a C dx : Addr} {fs : List (Str × V)} {f : Str} {v : V} {A : Around} {E : Value → Shared → Prop}

theorem getattr_ok {b : Bool} {Q : Value → Shared → Prop} (I : Inv X pins σ H s) (e : H a = some (.ins C dx fs)) (c : Cls X.K C) (n : NoAttr X.K C f) (l : fs.lookup f = some v)
    (h : ∀ u s', Inv X pins σ H s' → RelV v u → Q u s') : wpAny (model X.prog X.w) A (getAttr (.ref a) f b) Q E s := by
  obtain ⟨mA, O, r, _, _, _⟩ := ins_get I.hok e
  obtain ⟨u, hu, ru⟩ := RelO.some_of (v := v) (o := mA f) (by rw [← l]; exact r f)
  exact get_map I.kIn O (c.get f) c.hd n hu (handed_of ru) (h u _ (I.tok _) ru)

theorem getmeth_ok {m : Str} {g : Addr} {pl : Sem Bool} {Q : Value × List Value → Shared → Prop} (I : Inv X pins σ H s) (e : H a = some (.ins C dx fs)) (c : Cls X.K C) (k : Meth X.K C m g) (l : fs.lookup m = none)
    (h : Q (.ref g, [.ref a]) s) : wpAny (model X.prog X.w) A (getMethod (.ref a) m pl) Q E s := by
  obtain ⟨mA, O, r, _, _, _⟩ := ins_get I.hok e
  have hn : mA m = none := RelO.none_of (by rw [← l]; exact r m)
  exact get_meth I.kIn O (c.get m) k.at_ k.fn hn h

theorem setattr_ok {y : V} {u : Value} {Q : Unit → Shared → Prop} (I : Inv X pins σ H s) (e : H a = some (.ins C dx fs)) (c : Cls X.K C) (n : NoAttr X.K C f) (hl : fs.length < 1000) (ry : RelV y u)
    (h : ∀ s', Inv X pins σ (upd H a (.ins C dx (putF f y fs))) s' → Q () s') : wpAny (model X.prog X.w) A (setAttr (.ref a) f u) Q E s := by
  obtain ⟨mA, O, r, wi, _, ho⟩ := ins_get I.hok e
  have hz : (fs.map (·.1)).length ≤ sizeLine := by rw [List.length_map, sizeLine_eq]; omega
  refine set_map I.kIn O c.sa c.po n.taker c.hd wi hz fun h' O' sb => h _ ?_
  have hd : ∃ o, h'.get? dx = some o := let ⟨o, _, _, e', _⟩ := O'.ns; ⟨o, e'⟩
  refine I.write (x := a) (e := dx) (by rw [e]; exact True.intro) (.inr ho) (fun b q hb z => (sb.2 b hb).trans z) hd ?_
  refine ⟨by rw [upd_ne O.ne]; exact ho, ?_, O.ne, O'.obj, _, O'.ns, fun g => ?_, fun g hg => ?_⟩
  · have := length_putF f y fs; omega
  · show RelO ((putF f y fs).lookup g) (if g = f then some u else mA g)
    rw [lookup_putF]
    by_cases q : g = f
    · rw [if_pos q, if_pos q]; exact ry
    · rw [if_neg q, if_neg q]; exact r g
  · by_cases q : g = f
    · rw [q]; exact (keys_putF f y fs).1
    · refine (keys_putF f y fs).2 g (wi g fun z => hg ?_)
      show (if g = f then some u else mA g) = none
      rw [if_neg q]; exact z

/-- a new instance, tracked, without attributes -/
theorem Inv.made (I : Inv X pins σ H s) : Inv X pins σ (upd (upd H s.heap.objs.size (.own (s.heap.objs.size + 1))) (s.heap.objs.size + 1) (.ins C s.heap.objs.size []))
    { s with heap := (s.heap.push PySem.W.emptyDict).push (PySem.W.instObj C s.heap.objs.size) } := by
  have e1 : (s.heap.push PySem.W.emptyDict).get? s.heap.objs.size = some PySem.W.emptyDict := Heap.get?_push_size s.heap rfl
  have e2 : ((s.heap.push PySem.W.emptyDict).push (PySem.W.instObj C s.heap.objs.size)).get? (s.heap.objs.size + 1) = some (PySem.W.instObj C s.heap.objs.size) := by
    have := Heap.get?_push_size (s.heap.push PySem.W.emptyDict) (o := PySem.W.instObj C s.heap.objs.size) rfl
    rwa [Heap.size_push] at this
  have e3 : (s.heap.push PySem.W.emptyDict).Ns s.heap.objs.size (fun _ => none) := ⟨PySem.W.emptyDict, #[], _, e1, rfl, (fun e he => absurd he (by simp)), fun _ => rfl⟩
  have I1 := I.laid (a := s.heap.objs.size) (o := .own (s.heap.objs.size + 1)) (h' := s.heap.push PySem.W.emptyDict) (t' := s.toks) (fun b u q => Heap.get?_push_of_some _ q) (Nat.le_refl _) ⟨_, e1⟩
  refine I1.laid (a := s.heap.objs.size + 1) (o := .ins C s.heap.objs.size []) (t' := s.toks) (fun b u q => Heap.get?_push_of_some _ q) (Nat.le_of_eq (Heap.size_push _ _)) ?_
  have ne : s.heap.objs.size ≠ s.heap.objs.size + 1 := Nat.ne_of_lt (Nat.lt_succ_self _)
  refine ⟨by rw [upd_ne ne, upd_same], Nat.zero_le _, ne, e2, fun _ => none, (Heap.Ns1.of_empty e3).at fun o q => Heap.get?_push_of_some _ q, fun _ => True.intro, fun y hy => absurd rfl hy⟩

/-- e.f where nothing but the object is asked: through attributeBase (super) and the last hold -/
theorem attr_of {prog : Program} {w : World} {env : Env} {e : Expr} {f : Str} {pos : Pos} {s : Shared} {Q : Value → Shared → Prop} (hb : attributeBase e f env (eval e env) = eval e env)
    (h : wpAny (model prog w) A (eval e env) (fun o s₁ => wpAny (model prog w) A (getAttr o f true) Q E s₁) E s) : wpAny (model prog w) A (eval (.Attribute e f pos) env) Q E s :=
  Attribute_any_ h (by rw [arm_eval_Attribute, hb])
end

/-! ### readings and rules -/
/-- e.f, an attribute of the instance -/
def tFld (K : PySem.W.Frag) (ta : TE) (f : Str) : TE := fun σ H Q => ta σ H fun x H1 => ∃ a C dx fs v, x = .ref a ∧ H1 a = some (.ins C dx fs) ∧ Cls K C ∧ NoAttr K C f ∧ fs.lookup f = some v ∧ Q v H1
/-- e.f = value -/
def sFld (K : PySem.W.Frag) (ta tv : TE) (f : Str) : TS := fun D σ H => tv σ H fun y H1 => ta σ H1 fun x H2 => ∃ a C dx fs, x = .ref a ∧ H2 a = some (.ins C dx fs) ∧ Cls K C ∧ NoAttr K C f ∧ fs.length < 1000 ∧
  D.nx σ (upd H2 a (.ins C dx (putF f y fs)))
section
variable {X : Cx} {o e value : Expr} {f : Str} {pos pos' tpos : Pos} {ta tv : TE}
theorem pe_fld (he : PE X e ta) (hb : attributeBase e f X.env (eval e X.env) = eval e X.env) : PE X (.Attribute e f pos) (tFld X.K ta f) := by
  intro pins s σ H Q I h
  refine attr_of hb (thn (he pins s σ H _ I h) fun u s1 ⟨x, H1, I1, rx, a, C, dx, fs, v, ex, ea, c, n, l, q⟩ => ?_)
  subst ex
  obtain rfl : u = Value.ref a := rx
  exact getattr_ok I1 ea c n l fun u' s2 I2 ru => ⟨v, H1, I2, ru, q⟩
theorem ps_fld (ha : PE X o ta) (hv : PE X value tv) (hs : swapsWith value (some (.Attribute o f pos')) pos.line X.env = pure false) : PS X (.Assign [.Attribute o f pos'] value pos) (sFld X.K ta tv f) := by
  intro pins s σ H D I h
  refine plainObj_wpAny_Assign_Attribute (thn (hv pins s σ H _ I h) fun u s1 ⟨y, H1, I1, ry, q⟩ => thn (ha pins s1 σ H1 _ I1 q) fun ov s2 ⟨x, H2, I2, rx, a, C, dx, fs, ex, ea, c, n, l, q2⟩ => ?_) hs
  subst ex
  obtain rfl : ov = Value.ref a := rx
  exact setattr_ok I2 ea c n l ry fun s3 I3 => ⟨σ, _, I3, q2⟩
end

/-! ### isinstance -/
section
variable {X : Cx} {pins : List (Addr × Obj)} {σ : St} {H : Hp} {s : Shared} {A : Around} {E : Value → Shared → Prop} {Q : Value → Shared → Prop} {c : Value} {b : Bool}
/-- the type of a value, as the fragment's deciders take it; for an instance its class -/
inductive TyOf (K : PySem.W.Frag) (H : Hp) : V → Value → Prop where
  | non : TyOf K H .non (.type "NoneType")
  | bl (x : Bool) : TyOf K H (.bl x) (.type "bool")
  | int (i : Int) : TyOf K H (.int i) (.type "int")
  | str (x : Str) : TyOf K H (.str x) (.type "str")
  | flt (x : UInt64) : TyOf K H (.flt x) (.type "float")
  | lst {a : Addr} {xs : List V} (e : H a = some (.lst xs)) : TyOf K H (.ref a) (.type "list")
  | frz {a : Addr} {o : Obj} {xs : List V} (e : H a = some (.frz o (.lst xs))) : TyOf K H (.ref a) (.type "list")
  | tup {a : Addr} {xs : List V} (e : H a = some (.tup xs)) : TyOf K H (.ref a) (.type "tuple")
  | dK {a : Addr} {kvs : List (Key × V)} (e : H a = some (.dK kvs)) : TyOf K H (.ref a) (.type "dict")
  | dT {a : Addr} {kvs : List (List Key × V)} (e : H a = some (.dT kvs)) : TyOf K H (.ref a) (.type "dict")
  | ins {a C dx : Addr} {fs : List (Str × V)} (e : H a = some (.ins C dx fs)) (cl : Cls K C) (ha : PySem.W.findIn K (.ref C) "__class__" = some (some (.builtin "object.__class__")))
      (hn : PySem.W.specialIn K (.builtin "object.__class__") "__get__" = some (some (.builtin "getset_descriptor.__get__"))) (htk : PySem.W.takesIn K (.builtin "object.__class__") = some true)
      (hm : PySem.W.mroIn K C (.type "object") = some true) : TyOf K H (.ref a) (.ref C)
/-- isinstance(x, c) for one class c, a built-in or an own one: kitOne's answer -/
theorem isinst_ok {x : V} {u t : Value} (I : Inv X pins σ H s) (rx : RelV x u) (ty : TyOf X.K H x t) (e : PySem.W.kitOne X.K t c = some b) (h : ∀ tk, Q (.bool b) { s with toks := tk }) :
    wpAny (model X.prog X.w) A (call (.builtin "isinstance") [u, c]) Q E s := by
  cases ty with
  | non => cases (show u = Value.none from rx); exact PySem.W.kia_one PySem.W.kitx_none I.kIn True.intro e (fun z => nomatch z) h
  | bl y => cases (show u = Value.bool y from rx); exact PySem.W.kia_one PySem.W.kitx_bool I.kIn True.intro e (fun z => nomatch z) h
  | int i => obtain ⟨t, q⟩ := (show ∃ t, u = Value.int i t from rx); cases q; exact PySem.W.kia_one PySem.W.kitx_int I.kIn True.intro e (fun z => nomatch z) h
  | str y => obtain ⟨t, q⟩ := (show ∃ t, u = Value.str y t from rx); cases q; exact PySem.W.kia_one PySem.W.kitx_str I.kIn True.intro e (fun z => nomatch z) h
  | flt y => obtain ⟨t, q⟩ := (show ∃ t, u = Value.float y t from rx); cases q; exact PySem.W.kia_one PySem.W.kitx_float I.kIn True.intro e (fun z => nomatch z) h
  | @lst a xs ea =>
    cases (show u = Value.ref a from rx)
    obtain ⟨_, _, n, _, h1⟩ := (show ObjOk X.prog X.w H s.heap a (.lst xs) from I.hok a _ ea)
    exact PySem.W.kia_one PySem.W.kitx_list I.kIn ⟨_, h1, rfl⟩ e (fun z => nomatch z) h
  | @frz a ob xs ea =>
    cases (show u = Value.ref a from rx)
    obtain ⟨_, _, _, n, _, h1⟩ := (show ObjOk X.prog X.w H s.heap a (.frz ob (.lst xs)) from I.hok a _ ea)
    exact PySem.W.kia_one PySem.W.kitx_list I.kIn ⟨_, h1, rfl⟩ e (fun z => nomatch z) h
  | @tup a xs ea =>
    cases (show u = Value.ref a from rx)
    obtain ⟨_, _, _, p⟩ := (show ObjOk X.prog X.w H s.heap a (.tup xs) from I.hok a _ ea)
    obtain ⟨o, h1, h2, _⟩ := p
    exact PySem.W.kia_one PySem.W.kitx_tuple I.kIn ⟨o, h1, h2⟩ e (fun z => nomatch z) h
  | @dK a kvs ea =>
    cases (show u = Value.ref a from rx)
    obtain ⟨_, _, vs, _, p⟩ := (show ObjOk X.prog X.w H s.heap a (.dK kvs) from I.hok a _ ea)
    obtain ⟨o, es, ep, h1, h2, _⟩ := p
    exact PySem.W.kia_one PySem.W.kitx_dict I.kIn ⟨o, h1, h2.1⟩ e (fun z => nomatch z) h
  | @dT a kvs ea =>
    cases (show u = Value.ref a from rx)
    obtain ⟨_, _, xs, _, o, es, ep, h1, h2, _⟩ := (show ObjOk X.prog X.w H s.heap a (.dT kvs) from I.hok a _ ea)
    exact PySem.W.kia_one PySem.W.kitx_dict I.kIn ⟨o, h1, h2.1⟩ e (fun z => nomatch z) h
  | @ins a C dx fs ea cl ha hn htk hm =>
    cases (show u = Value.ref a from rx)
    obtain ⟨mA, O, _⟩ := ins_get I.hok ea
    obtain ⟨od, J, _⟩ := O.look
    exact PySem.W.kia_one (PySem.W.kitx_own (cl.get _) cl.hd ha hn htk hm) I.kIn J e (fun z => nomatch z) h
end
end L2

namespace L2
open PySem PySem.Spec PyProof.Rows

/-! ### room -/
structure Room (k : Nat) (A : Around) : Prop where
  hd : A.handled = none
  dp : A.depth + 3 * k + 5 < recursionLimit
  un : A.units + 16 * k + 200 < cLine
  gd : A.guards = some []
theorem Room.mono {j k : Nat} {A : Around} (r : Room k A) (h : j ≤ k) : Room j A := ⟨r.hd, by have := r.dp; omega, by have := r.un; omega, r.gd⟩
theorem Room.deeper {k : Nat} {A : Around} (r : Room (k + 1) A) (env : Env) : Room k (A.deeper env) :=
  ⟨r.hd, by have := r.dp; show A.depth + 1 + 3 * k + 5 < _; omega, by have := r.un; show A.units + 3 + 16 * k + 200 < _; omega, r.gd⟩
theorem Room.in1 {k : Nat} {A : Around} (r : Room (k + 1) A) : Room k A.in1 :=
  ⟨r.hd, by have := r.dp; show A.depth + 3 * k + 5 < _; omega, by have := r.un; show A.units + 1 + 16 * k + 200 < _; omega, r.gd⟩
theorem make_depth {A : Around} {C : Addr} {us : List Value} {kw : List (Str × Value)} : (A.under (.builtin "type.__call__" ⟨.ref C :: us, kw⟩)).depth = A.depth + 1 := by
  first | rfl | simp [Around.under, Code.weight, Code.isCreation, Code.isGuard, Code.isCaller, Code.frames, Code.isFrame, guardIds]
theorem make_units {A : Around} {C : Addr} {us : List Value} {kw : List (Str × Value)} : (A.under (.builtin "type.__call__" ⟨.ref C :: us, kw⟩)).units = A.units + 1 := by
  first | rfl | simp [Around.under, Code.cUnits, Code.frames, Code.isFrame]
theorem Room.make {k : Nat} {A : Around} (r : Room (k + 1) A) (C : Addr) (us : List Value) (kw : List (Str × Value)) : Room k (A.under (.builtin "type.__call__" ⟨.ref C :: us, kw⟩)) :=
  ⟨r.hd, by have := r.dp; rw [make_depth]; omega, by have := r.un; rw [make_units]; omega, by first | exact r.gd | (have := r.gd; simp [Around.under, Code.isGuard, guardIds, this])⟩
theorem Room.depth {k : Nat} {A : Around} (r : Room k A) : A.depth < recursionLimit := by have := r.dp; omega
theorem Room.units {k : Nat} {A : Around} (r : Room k A) : A.units + 64 < cLine := by have := r.un; omega
theorem Room.units0 {k : Nat} {A : Around} (r : Room k A) : A.units < cLine := by have := r.un; omega

/-! ### argument lists and displays -/
def tNil : TA := fun _ H Q => Q [] H
def tCons (ta : TE) (tr : TA) : TA := fun σ H Q => ta σ H fun x H1 => tr σ H1 fun xs H2 => Q (x :: xs) H2
section
variable {X : Cx} {e : Expr} {es : List Expr} {te : TE} {t : TA} {pos : Pos}
theorem pa_nil : PA X [] tNil := fun _ _ _ _ H Q I h => Calls.spliced_nil ⟨[], H, I, .nil, h⟩
theorem pa_cons (ha : PE X e te) (hr : PA X es t) (hs : starEach (e :: es) X.env = (false, eval e X.env) :: starEach es X.env := by rfl) : PA X (e :: es) (tCons te t) := by
  intro pos pins s σ H Q I h
  rw [hs]
  show wpAny _ _ (spliced ((false, eval e X.env) :: backTo pos (starEach es X.env))) _ _ s
  refine Calls.spliced_cons (thn (ha pins s σ H _ I h) fun u s1 ⟨x, H1, I1, r1, q1⟩ => ?_)
  exact thn (hr pos pins s1 σ H1 _ I1 q1) fun us s2 ⟨xs, H2, I2, r2, q2⟩ => ⟨x :: xs, H2, I2, .cons r1 r2, q2⟩

/-- a tuple, a list of written items -/
def tTup (t : TA) : TE := fun σ H Q => t σ H fun xs H1 => xs.length ≤ sizeLine ∧ ∀ p, H1 p = none → Q (.ref p) (upd H1 p (.tup xs))
def tLst (t : TA) : TE := fun σ H Q => t σ H fun xs H1 => xs.length ≤ sizeLine ∧ ∀ p, H1 p = none → Q (.ref p) (upd H1 p (.lst xs))
theorem pe_tup {x1} (h : PA X es t) : PE X (.Tuple es x1 pos) (tTup t) := by
  intro pins s σ H Q I hq
  refine wpAny_Tuple_spliced (thn (h pos pins s σ H _ I hq) fun us s1 ⟨xs, H1, I1, r, z, q⟩ => ⟨by rw [← r.length]; exact z, ?_⟩)
  have hf : H1 s1.heap.objs.size = none := I1.hok.fresh (Nat.le_refl _)
  refine ⟨.ref s1.heap.objs.size, upd H1 s1.heap.objs.size (.tup xs), I1.laid (t' := s1.toks) (fun b u e => Heap.get?_push_of_some _ e) (Nat.le_refl _) ?_, rfl, q _ hf⟩
  exact ⟨z, us, r, ⟨_, Heap.get?_push_size _ rfl, rfl, _, rfl⟩⟩
theorem pe_lst (h : PA X es t) : PE X (.List es pos) (tLst t) := by
  intro pins s σ H Q I hq
  refine wpAny_List_spliced (thn (h pos pins s σ H _ I hq) fun us s1 ⟨xs, H1, I1, r, z, q⟩ => ⟨by rw [← r.length]; exact z, ?_⟩)
  have hf : H1 s1.heap.objs.size = none := I1.hok.fresh (Nat.le_refl _)
  refine ⟨.ref s1.heap.objs.size, upd H1 s1.heap.objs.size (.lst xs), I1.laid (t' := s1.toks) (fun b u e => Heap.get?_push_of_some _ e) (Nat.le_refl _) ?_, rfl, q _ hf⟩
  exact ⟨z, us, 0, r, Heap.get?_push_size _ rfl⟩
end

/-! ### what a def promises -/
/-- a def's promise: the bound arguments in the parameters' order, the heap, the wanted end, the wanted exception -/
abbrev Sp := List V → Hp → VK → XK → Prop
/-- how an exception lies behind a call (file 08 gives it): the callers' frames, abstract heap and state ahead of the call, the wish, the exception, the state -/
abbrev CXT := List Env → Hp → Shared → XK → Value → Shared → Prop

/-- the state at a call -/
structure Env0 (P : Program) (w : World) (K : PySem.W.Frag) (mg : Str → Option Value) (base : Heap) (A : Around) (outer : List Env) (s : Shared) (H : Hp) : Prop where
  frames : A.frames = some outer
  mod : Mod K mg base
  bs : ∀ b o, base.get? b = some o → s.heap.get? b = some o ∧ H b = none
  bsz : base.objs.size ≤ s.heap.objs.size
  funs : s.heap.FunFrames base outer
  frf : ∀ b ∈ frs outer, H b = none
  hok : HOk P w H s.heap
  bare : AllBare s.gens
/-- a call's end -/
def CE (outer : List Env) (P : Program) (w : World) (H : Hp) (s : Shared) (Q : VK) (u : Value) (s' : Shared) : Prop :=
  ∃ v H', s'.os = s.os ∧ AllBare s'.gens ∧ Un (frs outer) [] H H' s.heap s'.heap ∧ HOk P w H' s'.heap ∧ RelV v u ∧ Q v H'
def CR (CX : CXT) (outer : List Env) (P : Program) (w : World) (H : Hp) (s : Shared) (Q : VK) (E : XK) (r : Result) (s' : Shared) : Prop :=
  match r with
  | .ok (.ret u) => CE outer P w H s Q u s'
  | .ok _ => False
  | .error e => CX outer H s E e s'
structure FnOk (P : Program) (w : World) (K : PySem.W.Frag) (mg : Str → Option Value) (base : Heap) (CX : CXT) (k : Nat) (f : Addr) (fd : FuncData) (ps : List Str) (sp : Sp) : Prop where
  len : ∀ vs H Q E, sp vs H Q E → vs.length = ps.length
  run : ∀ (A : Around) (outer : List Env) (s : Shared) (H : Hp) (args : Args) (us : List Value) (vs : List V) (Q : VK) (E : XK), Room k A → Env0 P w K mg base A outer s H → BindsTo s fd args (ps.zip us) → Vals vs us → sp vs H Q E →
    codeAny (model P w) A (.call (.ref f) args) (CR CX outer P w H s Q E) s
/-- a weaker promise -/
theorem FnOk.imp {P : Program} {w : World} {K : PySem.W.Frag} {mg : Str → Option Value} {base : Heap} {CX : CXT} {k : Nat} {f : Addr} {fd : FuncData} {ps : List Str} {sp sp' : Sp} (F : FnOk P w K mg base CX k f fd ps sp)
    (h : ∀ vs H Q E, sp' vs H Q E → sp vs H Q E) : FnOk P w K mg base CX k f fd ps sp' :=
  ⟨fun vs H Q E q => F.len vs H Q E (h _ _ _ _ q), fun A outer s H args us vs Q E hr he hb hv hs => F.run A outer s H args us vs Q E hr he hb hv (h _ _ _ _ hs)⟩

theorem Env0.make {P : Program} {w : World} {K : PySem.W.Frag} {mg : Str → Option Value} {base : Heap} {A : Around} {outer : List Env} {s : Shared} {H : Hp} (e : Env0 P w K mg base A outer s H) (C : Addr) (us : List Value) (kw : List (Str × Value)) :
    Env0 P w K mg base (A.under (.builtin "type.__call__" ⟨.ref C :: us, kw⟩)) outer s H := ⟨by first | exact e.frames | (simpa [Around.under, Code.envs, Code.isFrame, pushEnvs] using e.frames), e.mod, e.bs, e.bsz, e.funs, e.frf, e.hok, e.bare⟩
section
variable {X : Cx} {pins : List (Addr × Obj)} {σ : St} {H : Hp} {s s' : Shared}
/-- from a body: what a callee wants -/
theorem Inv.env0 (I : Inv X pins σ H s) : Env0 X.prog X.w X.K X.mg X.base X.A X.stack s H :=
  ⟨I.ok.frames, I.ok.mod, I.bs, Nat.le_trans I.ok.bsz I.sz, I.stack, I.stkFree, I.hok, I.bare⟩
/-- behind a call -/
theorem Inv.after {Q : VK} {u : Value} (I : Inv X pins σ H s) (h : CE X.stack X.prog X.w H s Q u s') : EP X pins σ Q u s' := by
  obtain ⟨v, H', os, bare, un, hok, r, q⟩ := h
  obtain ⟨hh, g, d, t, os'⟩ := s'
  obtain rfl : os' = s.os := os
  exact ⟨v, H', I.call (h' := hh) (g' := g) (d' := d) (t' := t) (ch := []) un hok bare (fun b z => absurd z (by simp)), r, q⟩
end

/-! ### calls -/
/-- f(..): the written arguments, then the defaults dvs; E: what is wanted of an exception -/
def tCall (sp : Sp) (dvs : List V) (E : XK) (t : TA) : TE := fun σ H Q => t σ H fun vs H1 => sp (vs ++ dvs) H1 Q E
/-- o.m(..) of an instance of the class at C -/
def tMeth (C : Addr) (m : Str) (sp : Sp) (dvs : List V) (E : XK) (ta : TE) (t : TA) : TE := fun σ H Q => ta σ H fun x H1 => ∃ a dx fs, x = .ref a ∧ H1 a = some (.ins C dx fs) ∧ fs.lookup m = none ∧
  t σ H1 fun vs H2 => sp (x :: (vs ++ dvs)) H2 Q E
/-- C(..): a new instance and its dict, then __init__ -/
def tMake (C : Addr) (sp : Sp) (dvs : List V) (E : XK) (t : TA) : TE := fun σ H Q => t σ H fun vs H1 => ∀ x dx, H1 x = none → H1 dx = none → dx ≠ x →
  sp (.ref x :: (vs ++ dvs)) (upd (upd H1 dx (.own x)) x (.ins C dx [])) (fun v H2 => v = .non ∧ Q (.ref x) H2) E

/-- how the parameters are bound: us the positional arguments, kw the keywords' values by name, ds the defaults that fill up -/
def Binds (K : PySem.W.Frag) (fd : FuncData) (ps : List Str) (ds : List Value) : Prop :=
  ∀ (s : Shared) (us : List Value), K.In s.heap → (us ++ ds).length = ps.length → BindsTo s fd ⟨us, []⟩ (ps.zip (us ++ ds))
/-- every parameter is given -/
theorem Binds.all {K : PySem.W.Frag} {fd : FuncData} {ps : List Str} (h : ∀ us : List Value, us.length = ps.length → bindArgs fd ⟨us, []⟩ = pure (ps.zip us)) : Binds K fd ps [] := fun s us _ hl => by
  rw [List.append_nil] at hl ⊢
  exact .of_eq (h us hl)

/-- an exception of a callee reaches what this body wants of exceptions -/
def Passes (CX : CXT) (X : Cx) (E : XK) : Prop := ∀ (pins : List (Addr × Obj)) (σ : St) (H : Hp) (s : Shared) (e : Value) (s' : Shared), Inv X pins σ H s → CX X.stack H s E e s' → X.xe e s'

section
variable {X : Cx} {CX : CXT} {k : Nat} {f C : Addr} {fd : FuncData} {ps : List Str} {sp : Sp} {dvs : List V} {ds : List Value} {E : XK} {x m : Str} {p pos apos : Pos} {e o : Expr} {es : List Expr} {ta : TE} {t : TA}

/-- the callee runs -/
theorem run_fn {pins : List (Addr × Obj)} {σ : St} {H : Hp} {s : Shared} {Q : VK} {us : List Value} {vs : List V} (F : FnOk X.prog X.w X.K X.mg X.base CX k f fd ps sp) (hr : Room k X.A) (hb : Binds X.K fd ps ds) (hd : Vals dvs ds) (hx : Passes CX X E)
    (I : Inv X pins σ H s) (r : Vals vs us) (h : sp (vs ++ dvs) H Q E) : wpAny (model X.prog X.w) X.A (call (.ref f) us) (EP X pins σ Q) X.xe s := by
  have r2 : Vals (vs ++ dvs) (us ++ ds) := r.append hd
  have hl : (us ++ ds).length = ps.length := by rw [← r2.length]; exact F.len _ _ _ _ h
  refine wpAny_call (codeAny_mono (F.run X.A X.stack s H ⟨us, []⟩ (us ++ ds) (vs ++ dvs) Q E hr I.env0 (hb s us I.kIn hl) r2 h) fun r s' hq => ?_)
  cases r with
  | error e => exact hx pins σ H s e s' I hq
  | ok fl =>
    cases fl with
    | ret u => exact I.after hq
    | next => exact False.elim hq
    | brk => exact False.elim hq
    | cont => exact False.elim hq

theorem pe_call (F : FnOk X.prog X.w X.K X.mg X.base CX k f fd ps sp) (hr : Room k X.A) (hg : Gl X x) (hm : X.mg x = some (.ref f)) (hk : PySem.W.keepIn X.K (.ref f) = true) (hb : Binds X.K fd ps ds) (hd : Vals dvs ds) (hx : Passes CX X E)
    (ha : PA X (e :: es) t) (hdb : (x == ("__debug__" : Str)) = false := by decide) (he : starEach (e :: es) X.env = (false, eval e X.env) :: starEach es X.env := by rfl) (hpl : (backTo pos (starEach es X.env)).any (·.1) = false := by rfl) :
    PE X (.Call (.Name x p) (e :: es) [] pos) (tCall sp dvs E t) := by
  intro pins s σ H Q I h
  refine wpAny_Call_Name_kw (ld_glob I hg hm ?_ hdb)
  refine PySem.W.callWith_K (h₀ := X.base) I.ok.mod.kin hk (thn (ha pos pins s σ H _ I h) fun us s1 ⟨vs, H1, I1, r, q⟩ => ⟨I1.kIn, ?_⟩) he hpl
  exact run_fn F hr hb hd hx I1 r q
/-- o.m(e, ..) -/
theorem pe_meth {pl : Sem Bool} (he : PE X o ta) (c : Cls X.K C) (hm : Meth X.K C m f) (F : FnOk X.prog X.w X.K X.mg X.base CX k f fd ps sp) (hr : Room k X.A) (hb : Binds X.K fd ps ds) (hd : Vals dvs ds) (hx : Passes CX X E) (ha : PA X (e :: es) t)
    (hst : starEach (e :: es) X.env = (false, eval e X.env) :: starEach es X.env := by rfl) (hpl : (backTo pos (starEach es X.env)).any (·.1) = false := by rfl)
    (ht : eval (.Call (.Attribute o m apos) (e :: es) [] pos) X.env = (do
      let ov ← eval o X.env
      standAt apos.atName
      let (f, first) ← holding [ov] (getMethod ov m pl)
      callWith pos f first (backTo pos (starEach (e :: es) X.env)) (backToKw pos (keywordEach [] X.env))) := by rfl) :
    PE X (.Call (.Attribute o m apos) (e :: es) [] pos) (tMeth C m sp dvs E ta t) := by
  intro pins s σ H Q I h
  refine PySem.W.methodCall_KW (pl := pl) (thn (he pins s σ H _ I h) fun u s1 ⟨x, H1, I1, rx, a, dx, fs, ex, ea, l, q⟩ => ?_) ht
  subst ex
  obtain rfl : u = Value.ref a := rx
  refine getmeth_ok I1 ea c hm l ?_
  refine PySem.W.callWith_K (first := [.ref a]) (h₀ := X.base) I.ok.mod.kin hm.kp (thn (ha pos pins s1 σ H1 _ I1 q) fun us s2 ⟨vs, H2, I2, r, q2⟩ => ⟨I2.kIn, ?_⟩) hst hpl
  exact run_fn (us := .ref a :: us) (vs := .ref a :: vs) F hr hb hd hx I2 (.cons rfl r) q2
/-- what a class must have to be made -/
structure Mk (K : PySem.W.Frag) (C f : Addr) : Prop where
  makes : PySem.W.makesIn K C = true
  init : PySem.W.findIn K (.ref C) "__init__" = some (some (.ref f))
  fn : PySem.W.isFn K (.ref f) = true
  kp : PySem.W.keepIn K (.ref C) = true

theorem run_make {pins : List (Addr × Obj)} {σ : St} {H : Hp} {s : Shared} {Q : VK} {us : List Value} {vs : List V} (M : Mk X.K C f) (F : FnOk X.prog X.w X.K X.mg X.base CX k f fd ps sp) (hr : Room (k + 1) X.A) (hb : Binds X.K fd ps ds) (hd : Vals dvs ds)
    (hx : Passes CX X E) (I : Inv X pins σ H s) (r : Vals vs us)
    (h : ∀ x dx, H x = none → H dx = none → dx ≠ x → sp (.ref x :: (vs ++ dvs)) (upd (upd H dx (.own x)) x (.ins C dx [])) (fun v H2 => v = .non ∧ Q (.ref x) H2) E) :
    wpAny (model X.prog X.w) X.A (call (.ref C) us) (EP X pins σ Q) X.xe s := by
  have hq := h (s.heap.objs.size + 1) s.heap.objs.size (I.hok.fresh (Nat.le_succ _)) (I.hok.fresh (Nat.le_refl _)) (Nat.ne_of_lt (Nat.lt_succ_self _))
  have I2 := Inv.made (C := C) I
  have r2 : Vals (V.ref (s.heap.objs.size + 1) :: (vs ++ dvs)) (Value.ref (s.heap.objs.size + 1) :: (us ++ ds)) := .cons rfl (r.append hd)
  have hl : (Value.ref (s.heap.objs.size + 1) :: us ++ ds).length = ps.length := by
    have e := r2.length
    rw [F.len _ _ _ _ hq] at e
    exact e.symm
  refine wpAny_call (make_map (f := f) I.kIn M.makes M.init (beq_iff_eq.mp M.fn) (codeAny_mono (F.run _ X.stack _ _ ⟨Value.ref (s.heap.objs.size + 1) :: us, []⟩ (Value.ref (s.heap.objs.size + 1) :: (us ++ ds)) _ _ E (hr.make C us [])
    (I2.env0.make C us []) (hb _ (Value.ref (s.heap.objs.size + 1) :: us) I2.kIn hl) r2 hq) fun r s' hq' => ?_))
  cases r with
  | error e => exact hx pins σ _ _ e s' I2 hq'
  | ok fl =>
    cases fl with
    | ret u =>
      obtain ⟨v, H', I3, rv, ev, q3⟩ := I2.after hq'
      subst ev
      exact ⟨rv, ⟨V.ref (s.heap.objs.size + 1), H', I3, rfl, q3⟩⟩
    | next => exact False.elim hq'
    | brk => exact False.elim hq'
    | cont => exact False.elim hq'
theorem pe_make (M : Mk X.K C f) (F : FnOk X.prog X.w X.K X.mg X.base CX k f fd ps sp) (hr : Room (k + 1) X.A) (hg : Gl X x) (hm : X.mg x = some (.ref C)) (hb : Binds X.K fd ps ds) (hd : Vals dvs ds) (hx : Passes CX X E)
    (ha : PA X (e :: es) t) (hdb : (x == ("__debug__" : Str)) = false := by decide) (he : starEach (e :: es) X.env = (false, eval e X.env) :: starEach es X.env := by rfl) (hpl : (backTo pos (starEach es X.env)).any (·.1) = false := by rfl) :
    PE X (.Call (.Name x p) (e :: es) [] pos) (tMake C sp dvs E t) := by
  intro pins s σ H Q I h
  refine wpAny_Call_Name_kw (ld_glob I hg hm ?_ hdb)
  refine PySem.W.callWith_K (h₀ := X.base) I.ok.mod.kin M.kp (thn (ha pos pins s σ H _ I h) fun us s1 ⟨vs, H1, I1, r, q⟩ => ⟨I1.kIn, ?_⟩) he hpl
  exact run_make M F hr hb hd hx I1 r q
end

/-! ### keywords -/
section
variable {X : Cx} {CX : CXT} {k : Nat} {f C : Addr} {fd : FuncData} {ps ks : List Str} {sp : Sp} {E : XK} {x m : Str} {p pos apos kpos : Pos} {e o : Expr} {es : List Expr} {kws : List Keyword} {te ta : TE} {t tk : TA} {nm : Option Str}
variable {g : List Value → List Value → List Value} {gV : List V → List V → List V}
end

/-! ### a def's body keeps its promise -/
/-- names: the parameters first -/
structure FnScope (N P : List Str) (sc : Scope) : Prop where
  kind : sc.kind = .function
  co : sc.isCoroutine = false
  gen : sc.isGenerator = false
  nd : N.Nodup
  pre : N.take P.length = P
  par : ∀ x ∈ P, sc.names.lookup x = some .local ∨ sc.names.lookup x = some .cell
  nofree : ∀ y ∈ sc.names, y.2 ≠ .free

theorem bindL_out {kindOf : Str → Option NameKind} {x : Str} : ∀ {binds : List (Str × Value)} {m : Str → Option Value}, (∀ v, (x, v) ∉ binds) → bindL kindOf binds m x = m x
  | [], _, _ => rfl
  | (n, v) :: r, m, h => by
    unfold bindL
    rw [bindL_out fun w hw => h w (List.mem_cons_of_mem _ hw)]
    split
    · have : x ≠ n := by rintro rfl; exact h v List.mem_cons_self
      simp [this]
    · rfl
theorem bindC_out {kindOf : Str → Option NameKind} {x : Str} : ∀ {binds : List (Str × Value)} {m : Str → Option Value}, (∀ v, (x, v) ∉ binds) → bindC kindOf binds m x = m x
  | [], _, _ => rfl
  | (n, v) :: r, m, h => by
    unfold bindC
    rw [bindC_out fun w hw => h w (List.mem_cons_of_mem _ hw)]
    split
    · rfl
    · have : x ≠ n := by rintro rfl; exact h v List.mem_cons_self
      simp [this]
theorem bindL_get {kindOf : Str → Option NameKind} {x : Str} {v : Value} : ∀ {P : List Str} {vs : List Value} {i : Nat} {m : Str → Option Value}, P.Nodup → P[i]? = some x → vs[i]? = some v → kindOf x = some .local →
    bindL kindOf (P.zip vs) m x = some v
  | [], _, _, _, _, h, _, _ => by simp at h
  | _ :: _, [], _, _, _, _, h, _ => by simp at h
  | p :: P, w :: vs, 0, m, nd, h1, h2, hk => by
    simp at h1 h2; subst h1; subst h2
    show bindL kindOf ((p, w) :: P.zip vs) m p = _
    unfold bindL
    rw [bindL_out fun v hv => (List.nodup_cons.mp nd).1 (List.of_mem_zip hv).1, if_pos hk]
    simp
  | p :: P, w :: vs, i + 1, m, nd, h1, h2, hk => by
    show bindL kindOf ((p, w) :: P.zip vs) m x = _
    unfold bindL
    exact bindL_get (i := i) (List.nodup_cons.mp nd).2 (by simpa using h1) (by simpa using h2) hk
theorem bindC_get {kindOf : Str → Option NameKind} {x : Str} {v : Value} : ∀ {P : List Str} {vs : List Value} {i : Nat} {m : Str → Option Value}, P.Nodup → P[i]? = some x → vs[i]? = some v → kindOf x ≠ some .local →
    bindC kindOf (P.zip vs) m x = some v
  | [], _, _, _, _, h, _, _ => by simp at h
  | _ :: _, [], _, _, _, _, h, _ => by simp at h
  | p :: P, w :: vs, 0, m, nd, h1, h2, hk => by
    simp at h1 h2; subst h1; subst h2
    show bindC kindOf ((p, w) :: P.zip vs) m p = _
    unfold bindC
    rw [bindC_out fun v hv => (List.nodup_cons.mp nd).1 (List.of_mem_zip hv).1, if_neg hk]
    simp
  | p :: P, w :: vs, i + 1, m, nd, h1, h2, hk => by
    show bindC kindOf ((p, w) :: P.zip vs) m x = _
    unfold bindC
    exact bindC_get (i := i) (List.nodup_cons.mp nd).2 (by simpa using h1) (by simpa using h2) hk

/-- the names' values at the entry -/
def start (N : List Str) (vs : List V) : St := vs.map some ++ List.replicate (N.length - vs.length) none

/-- the context of a def's body, at its entry; an exception leaves the frame, then lies as CX says -/
def cxOf (CX : CXT) (P : Program) (w : World) (K : PySem.W.Frag) (mg : Str → Option Value) (base : Heap) (N : List Str) (qual : Str) (scope : Scope) (f : Addr) (cd : Value) (A : Around) (outer : List Env) (s : Shared) (H : Hp) (E : XK) : Cx where
  prog := P
  w := w
  K := K
  mg := mg
  base := base
  A := A.deeper (envOfC qual scope s.heap.objs.size f cd)
  N := N
  s₀ := s
  H₀ := H
  env := envOfC qual scope s.heap.objs.size f cd
  outer := outer
  stack := envOfC qual scope s.heap.objs.size f cd :: outer
  ex := []
  calm := true
  fn := fun _ => true
  pn := []
  xe := fun e s' => wpAny (model P w) (A.deeper (envOfC qual scope s.heap.objs.size f cd)) (leaving (envOfC qual scope s.heap.objs.size f cd) e) (fun _ s'' => CX outer H s E e s'') (fun e' s'' => CX outer H s E e' s'') s'

theorem cell_has {sc : Scope} {n : Nat} {x : Str} (h : sc.names.lookup x = some .cell) : ∃ c, (cellsFrom n sc.names []).lookup x = some c := by
  have q := PySem.W.cellsFrom_some sc.names n [] (.inl h)
  exact Option.isSome_iff_exists.mp q

theorem inv_start {CX : CXT} {P : Program} {w : World} {K : PySem.W.Frag} {mg : Str → Option Value} {base : Heap} {N ps : List Str} {qual : Str} {scope : Scope} {f : Addr} {cd : Value} {A : Around} {outer : List Env} {s s1 : Shared} {H : Hp} {E : XK} {us : List Value} {vs : List V}
    (S : FnScope N ps scope) (hd : A.handled = none) (e0 : Env0 P w K mg base A outer s H) (hl : vs.length = ps.length) (r : Vals vs us)
    (x : InCallC s s.heap.objs.size (bindL (envOfC qual scope s.heap.objs.size f cd).kindOf (ps.zip us) fun _ => none) (cellsFrom (s.heap.objs.size + 1) scope.names []) (bindC (envOfC qual scope s.heap.objs.size f cd).kindOf (ps.zip us) fun _ => none) s1) :
    Inv (cxOf CX P w K mg base N qual scope f cd A outer s H E) [] (start N vs) H s1 := by
  have hpl : ps.length ≤ N.length := by have := congrArg List.length S.pre; rw [List.length_take] at this; omega
  obtain ⟨h1, tk, rfl, hk⟩ := x.done
  have noA : ∀ b : Addr, b ∉ (cxOf CX P w K mg base N qual scope f cd A outer s H E).ex := fun b z => absurd (show b ∈ ([] : List Addr) from z) (by simp)
  refine ⟨⟨e0.mod, S.kind, rfl, rfl, Nat.le_refl _, fun y z c h1 h2 => ?_, fun y hy => ?_, fun y c _ h => ?_, fun _ => hd, Around.frames_deeper e0.frames, .inr ⟨rfl, rfl⟩, fun b z => absurd z (noA b), e0.bs, e0.bsz, fun b _ _ => noA b, fun b z => absurd z (noA b), e0.funs, e0.frf⟩,
    rfl, e0.bare, Un.kept hk, ⟨_, x.toInCall.ns, fun i y v h1 h2 h3 => ?_⟩, fun y c h => ⟨_, x.cell y c h⟩, e0.hok.fresh (Nat.le_refl _), fun y c h => ?_, fun p hp => absurd (show p ∈ ([] : List (Addr × Obj)) from hp) (by simp), e0.hok.kept hk, ?_⟩
  · exact name_of_addr x.apart (PySem.mem_of_lookup h1) (PySem.mem_of_lookup h2)
  · have hy : scope.names.lookup y = some .cell ∨ scope.names.lookup y = some .free := hy
    rcases hy with hy | hy
    · exact cell_has hy
    · exact absurd rfl (S.nofree _ (PySem.mem_of_lookup hy))
  · exact Nat.le_of_lt (x.above y c (PySem.mem_of_lookup h))
  · have hi : i < vs.length := by
      unfold start at h2
      by_cases hi : i < vs.length
      · exact hi
      · rw [List.getElem?_append_right (by simpa using hi)] at h2
        rw [List.getElem?_replicate] at h2
        split at h2 <;> cases h2
    have ha : vs[i]? = some v := by
      unfold start at h2
      rw [List.getElem?_append_left (by simpa using hi), List.getElem?_map] at h2
      cases e : vs[i]? with
      | none => rw [e] at h2; cases h2
      | some a => rw [e] at h2; cases h2; rfl
    obtain ⟨u, hu, rv⟩ := r.get ha
    have hp : ps[i]? = some y := by
      rw [← S.pre, List.getElem?_take_of_lt (by omega)]; exact h1
    have ndP : ps.Nodup := by rw [← S.pre]; exact S.nd.sublist (List.take_sublist _ _)
    refine ⟨u, rv, ?_⟩
    rcases S.par y (List.mem_of_getElem? hp) with k | k
    · exact .inl ⟨k, bindL_get ndP hp hu k⟩
    · obtain ⟨c, e⟩ := cell_has (n := s.heap.objs.size + 1) k
      refine .inr ⟨.inl k, c, e, ?_⟩
      have q := x.cell y c e
      rw [bindC_get ndP hp hu (by show scope.names.lookup y ≠ _; rw [k]; decide)] at q
      exact q
  · exact e0.hok.fresh (Nat.le_of_lt (x.above y c (PySem.mem_of_lookup h)))
  · unfold start
    show _ = N.length
    rw [List.length_append, List.length_map, List.length_replicate]
    omega

/-- THE RULE: a def (or a method) of the text, by its body. The body's reading t is chosen for each entry; it is run at the parameters' values -/
theorem fn_of {CX : CXT} {P : Program} {w : World} {K : PySem.W.Frag} {mg : Str → Option Value} {base : Heap} {k : Nat} {f : Addr} {name qual : Str} {params : Arguments} {body : List Stmt} {scope : Scope} {dV kV doc pm cdv ct oc : Value} {an od : Option Addr}
    {osl : Array (Option Value)} {N ps : List Str} {sp : Sp} (lk : K.lookup f = some ⟨oc, od, .func (PySem.W.fnOf name qual params body scope dV kV doc pm an cdv ct), osl⟩) (hcd : PySem.W.codeIn K cdv qual = true) (S : FnScope N ps scope)
    (len : ∀ vs H Q E, sp vs H Q E → vs.length = ps.length)
    (hbody : ∀ (A : Around) (outer : List Env) (s : Shared) (H : Hp) (vs : List V) (Q : VK) (E : XK), Room k (A.deeper (envOfC qual scope s.heap.objs.size f cdv)) → sp vs H Q E →
      ∃ t, PSs (cxOf CX P w K mg base N qual scope f cdv A outer s H E) body t ∧ t { nx := fun _ H' => Q .non H', rt := Q } (start N vs) H) :
    FnOk P w K mg base CX (k + 1) f (PySem.W.fnOf name qual params body scope dV kV doc pm an cdv ct) ps sp := by
  refine ⟨len, fun A outer s H args us vs Q E hr e0 hb r hsp => ?_⟩
  have hl := len _ _ _ _ hsp
  have KX : K.In s.heap := e0.mod.kin.keeps fun b o e => (e0.bs b o e).1
  have lim : s.heap.NoLimit := e0.mod.nolimit.keeps fun b o e => (e0.bs b o e).1
  have hkind : ∀ y ∈ ps.zip us, scope.names.lookup y.1 = some .local ∨ (scope.names.lookup y.1 = some .cell ∧ ((cellsFrom (s.heap.objs.size + 1) scope.names []).lookup y.1).isSome = true) := fun ⟨n, v⟩ hy => by
    rcases S.par n (List.of_mem_zip hy).1 with q | q
    · exact .inl q
    · exact .inr ⟨q, PySem.W.cellsFrom_some _ _ _ (.inl q)⟩
  refine codeAny_call_function hr.depth (KX _ _ lk) rfl S.co S.gen rfl (PySem.W.codeRec_of KX hcd) (hb _ _ _ _ ?_)
  refine wpAny_newFunctionEnv_cells S.kind hkind fun env he s1 x => ?_
  subst he
  refine ⟨lim.keeps x.toInCall.keep, codeAny_func ?_⟩
  obtain ⟨t, ht, hq⟩ := hbody A outer s H vs Q E (hr.deeper _) hsp
  have I : Inv (cxOf CX P w K mg base N qual scope f cdv A outer s H E) [] (start N vs) H s1 := inv_start S hr.hd e0 hl r x
  refine wpAny_mono (ht [] s1 (start N vs) H _ I hq) (fun fl s' hs => ?_) fun e s' hs => hs
  have fin : ∀ {σ' : St} {H' : Hp} {v : V} {u : Value}, Inv (cxOf CX P w K mg base N qual scope f cdv A outer s H E) [] σ' H' s' → RelV v u → Q v H' → CE outer P w H s Q u s' :=
    fun {σ' H' v u} J rv q => ⟨v, H', J.os, J.bare, J.base, J.hok, rv, q⟩
  cases fl with
  | ret u =>
    obtain ⟨v, σ', H', J, rv, q⟩ := hs
    exact fin J rv q
  | next =>
    obtain ⟨σ', H', J, q⟩ := hs
    exact fin (v := V.non) (u := Value.none) J rfl q
  | brk =>
    obtain ⟨_, _, _, q⟩ := hs
    exact False.elim q
  | cont =>
    obtain ⟨_, _, _, q⟩ := hs
    exact False.elim q
end L2

namespace L2
open PySem PySem.Spec PyProof.Rows
section
variable {X : Cx} {x : Str} {p pos : Pos} {e : Expr} {es : List Expr} {t : TA} {id T : String} {r : List V → Hp → VK → Prop}

def tCB (r : List V → Hp → VK → Prop) (t : TA) : TE := fun σ H Q => t σ H fun vs H1 => r vs H1 Q
/-- f(e, ..), f a built-in function -/
theorem pe_callB (hc : CallR X (.builtin id) r) (hg : Gl X x) (hm : X.mg x = none) (hv : bootBuiltins x = some (.builtin id)) (ha : PA X (e :: es) t) (hn : x ≠ "__name__" := by decide) (hdb : (x == ("__debug__" : Str)) = false := by decide)
    (he : starEach (e :: es) X.env = (false, eval e X.env) :: starEach es X.env := by rfl) (hpl : (backTo pos (starEach es X.env)).any (·.1) = false := by rfl) : PE X (.Call (.Name x p) (e :: es) [] pos) (tCB r t) := by
  intro pins s σ H Q I h
  refine wpAny_Call_Name_kw (ld_blt I hg hm hv ?_ hn hdb)
  exact PyProof.Rows.callWith_builtin1 (thn (ha pos pins s σ H _ I h) fun us s1 ⟨vs, H1, I1, r1, q1⟩ => hc pins s1 σ H1 vs us Q I1 r1 q1) he hpl
/-- T(e, ..), T a built-in type -/
theorem pe_callTy (hc : CallR X (.type T) r) (hg : Gl X x) (hm : X.mg x = none) (hv : bootBuiltins x = some (.type T)) (ha : PA X (e :: es) t) (hn : x ≠ "__name__" := by decide) (hdb : (x == ("__debug__" : Str)) = false := by decide)
    (he : starEach (e :: es) X.env = (false, eval e X.env) :: starEach es X.env := by rfl) (hpl : (backTo pos (starEach es X.env)).any (·.1) = false := by rfl) : PE X (.Call (.Name x p) (e :: es) [] pos) (tCB r t) := by
  intro pins s σ H Q I h
  refine wpAny_Call_Name_kw (ld_blt I hg hm hv ?_ hn hdb)
  exact PyProof.Rows.callWith_type1 (thn (ha pos pins s σ H _ I h) fun us s1 ⟨vs, H1, I1, r1, q1⟩ => hc pins s1 σ H1 vs us Q I1 r1 q1) he hpl
end
end L2

namespace HT
open PySem PyProof.Rows

theorem eqAt_int (A : Around) (s : Shared) (a : Int) (t : Tok) (c : Int) (u : Tok) : ∃ e, SeqAt.EqAt A s (.int a t) (.int c u) e ∧ (e = true ↔ a = c) :=
  ⟨(a == c), SeqAt.EqAt.int_int a t c u, by simp⟩
theorem rcLt_int (A : Around) (s : Shared) (a : Int) (t : Tok) (c : Int) (u : Tok) (prog : Program) (w : World) (E : Value → Shared → Prop) (Q : Value → Shared → Prop) (h : Q (.bool (decide (a < c))) s) :
    wpAny (model prog w) A (richCompare .Lt (.int a t) (.int c u)) Q E s :=
  (PyProof.Rows.lt_int h : wpAny (model prog w) A (compareOp .Lt (.int a t) (.int c u)) Q E s)

section
open PySem.SeqAt
open PySem.AutoSeq1 (wpAny_loadPart')
open PySem.MeetsSeq PySem.MeetsSeq2 PySem.MeetsSeq3

end

section
variable {prog : Program} {w : World} {A : Around} {E : Value → Shared → Prop} {s : Shared}

/-! ### t[a:b], not the whole -/
/-- a slice's bound as a place among n (d where it is left out) -/
def sIx (n d : Nat) : Option Int → Nat
  | none => d
  | some v => if v < 0 then (v + (n : Int)).toNat else min v.toNat n
theorem sIx_none (n d : Nat) : sIx n d none = d := rfl
theorem sIx_nat (n d k : Nat) : sIx n d (some (k : Int)) = min k n := by
  show (if (k : Int) < 0 then ((k : Int) + (n : Int)).toNat else min (k : Int).toNat n) = min k n
  rw [if_neg (by omega), Int.toNat_natCast]
end
end HT

namespace L2
open PySem PySem.Spec PyProof.Rows

/-! ### the parts of a slice -/
abbrev TO := St → Hp → (Option Int → Hp → Prop) → Prop
/-- a slice's part (left out, or an int) -/
def PO (X : Cx) (e : Option Expr) (t : TO) : Prop :=
  ∀ (pins : List (Addr × Obj)) (s : Shared) (σ : St) (H : Hp) (Q : Option Int → Hp → Prop), Inv X pins σ H s → t σ H Q →
    wpAny (model X.prog X.w) X.A (evalPart e X.env) (fun u s' => ∃ o H', Inv X pins σ H' s' ∧ IsPart u o ∧ Q o H') X.xe s
def tNoPart : TO := fun _ H Q => Q none H
def tPart (t : TE) : TO := fun σ H Q => t σ H fun x H1 => ∃ i, x = .int i ∧ Q (some i) H1

theorem intsAre_of {ns : List Int} : ∀ {us : List Value}, Vals (ns.map V.int) us → IntsAre us ns := by
  induction ns with
  | nil => intro us r; rw [List.map_nil] at r; cases r; exact .nil
  | cons n ns ih =>
    intro us r
    rw [List.map_cons] at r
    cases r with
    | cons r1 r2 =>
      obtain ⟨t, e⟩ := r1
      subst e
      exact .cons n t (ih r2)

section
variable {X : Cx} {e : Expr} {te : TE} {lo hi : Option Expr} {tl th : TO} {pos p2 : Pos}

theorem po_none : PO X none tNoPart := by
  intro pins s σ H Q I h
  rw [evalPart_none]
  exact wpAny_pure ⟨none, H, I, .none, h⟩
theorem po_some (h : PE X e te) : PO X (some e) (tPart te) := by
  intro pins s σ H Q I hw
  rw [evalPart_some]
  refine thn (h pins s σ H _ I hw) fun u s1 ⟨x, H1, I1, r1, q1⟩ => ?_
  obtain ⟨i, rfl, q⟩ := q1
  obtain ⟨t, rfl⟩ := r1
  exact ⟨some i, H1, I1, .int i t, q⟩

/-- what a slice of a value is, by values: the slice object stands at sl -/
def SlR (X : Cx) (r : V → Option Int → Option Int → Hp → VK → Prop) : Prop :=
  ∀ (pins : List (Addr × Obj)) (s : Shared) (σ : St) (H : Hp) (x : V) (v vl vu : Value) (lo hi : Option Int) (sl : Addr) (Q : VK), Inv X pins σ H s → RelV x v → s.heap.IsSliceOf sl vl vu .none → IsPart vl lo → IsPart vu hi → r x lo hi H Q →
    ∃ T id, typeLookup (.type T) "__getitem__" = pure (some (.builtin id)) ∧ s.TypeIs v T ∧ wpAny (model X.prog X.w) X.A (getItem v (.ref sl)) (EP X pins σ Q) X.xe s
def tSl (r : V → Option Int → Option Int → Hp → VK → Prop) (te : TE) (tl th : TO) : TE := fun σ H Q => te σ H fun x H1 => tl σ H1 fun l H2 => th σ H2 fun u H3 => r x l u H3 Q
/-- a[lo:hi], any a -/
theorem pe_slice {r : V → Option Int → Option Int → Hp → VK → Prop} (hr : SlR X r) (he : PE X e te) (hl : PO X lo tl) (hu : PO X hi th) : PE X (.Subscript e (.Slice lo hi none p2) pos) (tSl r te tl th) := by
  intro pins s σ H Q I h
  refine Subscript_ (thn (he pins s σ H _ I h) fun v s1 ⟨x, H1, I1, r1, q1⟩ => ?_)
  refine wpAny_Slice (thn (hl pins s1 σ H1 _ I1 q1) fun vl s2 ⟨l, H2, I2, pl, q2⟩ => thn (hu pins s2 σ H2 _ I2 q2) fun vu s3 ⟨u, H3, I3, pu, q3⟩ => ?_)
  rw [evalPart_none]
  refine wpAny_pure ?_
  have I4 : Inv X pins σ H3 { s3 with heap := s3.heap.push { cls := .type "slice", data := .fields #[vl, vu, .none] } } := I3.kept (t' := s3.toks) fun b ob q => Heap.get?_push_of_some _ q
  obtain ⟨T, id, hT, ht, hg⟩ := hr pins { s3 with heap := s3.heap.push { cls := .type "slice", data := .fields #[vl, vu, .none] } } σ H3 x v vl vu l u s3.heap.objs.size Q I4 r1 (Heap.IsSliceOf.new ..) pl pu q3
  show wpAny (model X.prog X.w) X.A (subscriptTail e (.Slice lo hi none p2) v (.ref s3.heap.objs.size)) (EP X pins σ Q) X.xe { s3 with heap := s3.heap.push { cls := .type "slice", data := .fields #[vl, vu, .none] } }
  exact tail_any (ops := [.ref s3.heap.objs.size, v]) ht hT hg (by with_unfolding_all rfl)

/-- the items of xs[lo:hi] -/
def cutV (xs : List V) (lo hi : Option Int) : List V := (xs.drop (HT.sIx xs.length 0 lo)).take (HT.sIx xs.length xs.length hi - HT.sIx xs.length 0 lo)
theorem cutV_length (xs : List V) (lo hi : Option Int) : (cutV xs lo hi).length ≤ xs.length := by
  unfold cutV
  rw [List.length_take, List.length_drop]
  omega
/-! ### t < u, t + u -/
end
end L2

namespace L2
open PySem PySem.Spec PyProof.Rows

/-! ### places -/
/-- the place that an index of any sign means -/
def ixN (n : Nat) (i : Int) : Option Nat := if 0 ≤ i then (if i < n then some i.toNat else none) else if -(n : Int) ≤ i then some (i + n).toNat else none
def atI {α : Type} (xs : List α) (i : Int) : Option α := (ixN xs.length i).bind fun j => xs[j]?
theorem ixN_seq {n : Nat} {i : Int} {j : Nat} (h : ixN n i = some j) : seqIndex? i n = some j ∧ j < n ∧ -(n : Int) ≤ i ∧ i < n := by
  unfold ixN at h
  by_cases h0 : 0 ≤ i
  · rw [if_pos h0] at h
    by_cases h1 : i < n
    · rw [if_pos h1] at h
      have e : i.toNat = j := Option.some.inj h
      exact ⟨by rw [seqIndex_of h0 h1, e], by omega, by omega, h1⟩
    · rw [if_neg h1] at h; cases h
  · rw [if_neg h0] at h
    by_cases h1 : -(n : Int) ≤ i
    · rw [if_pos h1] at h
      have e : (i + n).toNat = j := Option.some.inj h
      exact ⟨by rw [seqIndex_neg (by omega) h1, e], by omega, h1, by omega⟩
    · rw [if_neg h1] at h; cases h
theorem atI_get {α : Type} {xs : List α} {i : Int} {v : α} (h : atI xs i = some v) : ∃ j, seqIndex? i xs.length = some j ∧ xs[j]? = some v ∧ j < xs.length ∧ -(xs.length : Int) ≤ i ∧ i < xs.length := by
  unfold atI at h
  cases e : ixN xs.length i with
  | none => rw [e] at h; cases h
  | some j =>
    rw [e] at h
    obtain ⟨h1, h2, h3, h4⟩ := ixN_seq e
    exact ⟨j, h1, h, h2, h3, h4⟩
theorem atI_nat {α : Type} {xs : List α} {j : Nat} {v : α} (h : xs[j]? = some v) : atI xs (j : Int) = some v := by
  have hj : j < xs.length := (List.getElem?_eq_some_iff.mp h).1
  have e : ixN xs.length (j : Int) = some j := by
    unfold ixN
    rw [if_pos (by omega), if_pos (by omega)]; simp
  unfold atI; rw [e]; exact h
/-! ### what may be subscripted -/
/-- what stands as an index of a plain subscript -/
def PlainIx (b : Expr) : Prop := ∀ o i, subscripted b false o i = operate [o, i] (getItem o i)
/-- a subscript by values -/
def IxR (X : Cx) (r : R2) : Prop :=
  ∀ (value slice : Expr) (pins : List (Addr × Obj)) (s : Shared) (σ : St) (H : Hp) (x y : V) (v u : Value) (Q : VK), Inv X pins σ H s → RelV x v → RelV y u → r x y H Q →
    subscripted slice false v u = operate [v, u] (getItem v u) → wpAny (model X.prog X.w) X.A (subscriptTail value slice v u) (EP X pins σ Q) X.xe s
/-- a call of a builtin's method by values: the receiver, the arguments -/
def MtR (X : Cx) (id : String) (r : V → List V → Hp → VK → Prop) : Prop :=
  ∀ (pins : List (Addr × Obj)) (s : Shared) (σ : St) (H : Hp) (x : V) (xs : List V) (v : Value) (us : List Value) (Q : VK), Inv X pins σ H s → RelV x v → Vals xs us → r x xs H Q →
    wpAny (model X.prog X.w) X.A (call (.builtin id) (v :: us)) (EP X pins σ Q) X.xe s
section
variable {X : Cx} {a b : Expr} {ta tb : TE} {pos : Pos}
/-- a[b] -/
theorem pe_ix {r : R2} (hr : IxR X r) (ha : PE X a ta) (hb : PE X b tb) (hs : PlainIx b) : PE X (.Subscript a b pos) (tOp r ta tb) := by
  intro pins s σ H Q I h
  exact Subscript_ (binT ha hb I h fun v u s2 x y H2 I2 rx ry q => hr a b pins s2 σ H2 x y v u Q I2 rx ry q (hs _ _))

def rIxL (K : PySem.W.Frag) : R2 := fun x y H Q => ∃ p xs i v, x = .ref p ∧ y = .int i ∧ SqL K H p xs ∧ atI xs i = some v ∧ Q v H
def rIxT (K : PySem.W.Frag) : R2 := fun x y H Q => ∃ p xs i v, x = .ref p ∧ y = .int i ∧ SqT K H p xs ∧ atI xs i = some v ∧ Q v H
theorem ix_list : IxR X (rIxL X.K) := by
  intro value slice pins s σ H x y v u Q I rx ry h hs
  obtain ⟨p, xs, i, z, rfl, rfl, hq, he, q⟩ := h
  cases rx
  obtain ⟨t, rfl⟩ := ry
  obtain ⟨its, r, pl, hz⟩ := I.list hq
  obtain ⟨j, h1, h2, h3, h4, h5⟩ := atI_get he
  obtain ⟨w, ew, rw'⟩ := r.get h2
  have hl := r.length
  have hn := line63
  have fin : EP X pins σ Q w s := ⟨z, H, I, rw', q⟩
  by_cases h0 : 0 ≤ i
  · have hj : i.toNat = j := by
      rw [seqIndex_of h0 h5] at h1
      exact Option.some.inj h1
    exact item_listR pl.isList h0 (by omega) (by rw [hj]; simpa using ew) fin hs
  · have hj : (i + (its.toArray.size : Int)).toNat = j := by
      rw [seqIndex_neg (by omega) h4] at h1
      rw [List.size_toArray, ← hl]
      exact Option.some.inj h1
    exact subscriptTail_builtinR (x := w) pl.isList.typeIs slot_list_getitem.lookup
      (wpAny_getItem_list_neg (Q := fun r s' => r = w ∧ EP X pins σ Q r s') pl.isList (by omega) (by rw [List.size_toArray] <;> omega) (by omega) (by rw [hj]; simpa using ew) ⟨rfl, fin⟩) hs
theorem ix_tup : IxR X (rIxT X.K) := by
  intro value slice pins s σ H x y v u Q I rx ry h hs
  obtain ⟨p, xs, i, z, rfl, rfl, hq, he, q⟩ := h
  cases rx
  obtain ⟨t, rfl⟩ := ry
  obtain ⟨its, r, pl, hz⟩ := I.tuple hq
  obtain ⟨j, h1, h2, h3, h4, h5⟩ := atI_get he
  obtain ⟨w, ew, rw'⟩ := r.get h2
  have hl := r.length
  have hn := line63
  have fin : EP X pins σ Q w s := ⟨z, H, I, rw', q⟩
  exact subscriptTail_builtinR (x := w) pl.typeIs slot_tuple_getitem.lookup
    (getItem_tuple (j := j) (Q := fun r s' => r = w ∧ EP X pins σ Q r s') pl (by omega) (by omega) (by rw [List.size_toArray, ← hl]; exact h1) (by simpa using ew) ⟨rfl, fin⟩) hs
/-! ### xs[i] = v, any sign -/
/-- the list's object behind a store -/
theorem mapSeq_set (its : List Value) (n j : Nat) (u : Value) : Obj.mapSeq (·.setIfInBounds j u) { cls := .type "list", data := .seq its.toArray n } = { cls := .type "list", data := .seq (its.set j u).toArray n } := by
  simp [Obj.mapSeq]
theorem Inv.lst {pins : List (Addr × Obj)} {σ : St} {H : Hp} {s : Shared} {p : Addr} {xs : List V} (I : Inv X pins σ H s) (h : H p = some (.lst xs)) :
    ∃ (its : List Value) (n : Nat), Vals xs its ∧ s.heap.get? p = some { cls := .type "list", data := .seq its.toArray n } ∧ xs.length ≤ sizeLine := by
  obtain ⟨z, its, n, r, e⟩ := I.hok p _ h
  exact ⟨its, n, r, e, z⟩
/-- the list at p is written by an update of its object -/
theorem Inv.lstUpd {pins : List (Addr × Obj)} {σ : St} {H : Hp} {s : Shared} {p : Addr} {xs ys : List V} {its its' : List Value} {n n' : Nat} {f : Obj → Obj} (I : Inv X pins σ H s) (h : H p = some (.lst xs))
    (ho : s.heap.get? p = some { cls := .type "list", data := .seq its.toArray n }) (hf : f { cls := .type "list", data := .seq its.toArray n } = { cls := .type "list", data := .seq its'.toArray n' }) (r : Vals ys its') (hz : ys.length ≤ sizeLine) (t : Nat) :
    Inv X pins σ (upd H p (.lst ys)) { s with heap := s.heap.update p f, toks := t } := by
  have e : (s.heap.update p f).get? p = some { cls := .type "list", data := .seq its'.toArray n' } := by
    rw [Heap.get?_update_self f ho (by rw [hf] <;> rfl), hf]
  refine I.write (x := p) (e := p) (by rw [h]; trivial) (.inl rfl) (fun b u hb q => (Heap.get?_update_other _ _ (Ne.symm hb)).trans q) ⟨_, e⟩ ?_
  exact ⟨hz, its', n', r, e⟩
def rSetL : V → V → V → Hp → (Hp → Prop) → Prop := fun o i v H Q => ∃ p xs k j, o = .ref p ∧ i = .int k ∧ H p = some (.lst xs) ∧ ixN xs.length k = some j ∧ Q (upd H p (.lst (xs.set j v)))
theorem set_list : PSet X rSetL := by
  intro pins s σ H o i v ov iv u Q I ro ri rv h
  obtain ⟨p, xs, k, j, rfl, rfl, hp, hj, q⟩ := h
  cases ro
  obtain ⟨t, rfl⟩ := ri
  obtain ⟨its, n, r, ho, hz⟩ := I.lst hp
  obtain ⟨h1, h2, h3, h4⟩ := ixN_seq hj
  have hl := r.length
  have hn := line63
  have I' : Inv X pins σ (upd H p (.lst (xs.set j v))) { s with heap := s.heap.update p (Obj.mapSeq (·.setIfInBounds j u)) } :=
    I.lstUpd hp ho (mapSeq_set its n j u) (r.set rv j) (by rw [List.length_set]; exact hz) s.toks
  by_cases h0 : 0 ≤ k
  · have hk : k.toNat = j := by
      rw [seqIndex_of h0 h4] at h1
      exact Option.some.inj h1
    exact PySem.W.ki_setAt ho h0 (by omega) (by rw [List.size_toArray, ← hl]; exact h4) (by rw [hk]; exact ⟨_, I', q⟩)
  · have hk : (k + (its.toArray.size : Int)).toNat = j := by
      rw [seqIndex_neg (by omega) h3] at h1
      rw [List.size_toArray, ← hl]
      exact Option.some.inj h1
    exact PySem.W.ki_setBack ho (by omega) (by rw [List.size_toArray, ← hl]; exact h3) (by omega) (by rw [hk]; exact ⟨_, I', q⟩)

/-! ### slices -/
theorem slice_bounds (lo hi : Option Int) (n : Nat) : (sliceBounds lo hi none n).1 = ((HT.sIx n 0 lo : Nat) : Int) ∧ (sliceBounds lo hi none n).2.1 = ((HT.sIx n n hi : Nat) : Int) ∧ (sliceBounds lo hi none n).2.2 = 1 := by
  refine ⟨?_, ?_, rfl⟩
  · cases lo with
    | none => simp [sliceBounds, HT.sIx]
    | some i =>
      simp only [sliceBounds, HT.sIx, Option.getD_none, show (1 : Int) > 0 by decide, if_true]
      by_cases h : i < 0
      · simp only [h, if_true] <;> omega
      · simp only [h, if_false] <;> omega
  · cases hi with
    | none => simp [sliceBounds, HT.sIx]
    | some i =>
      simp only [sliceBounds, HT.sIx, Option.getD_none, show (1 : Int) > 0 by decide, if_true]
      by_cases h : i < 0
      · simp only [h, if_true] <;> omega
      · simp only [h, if_false] <;> omega
theorem slicePick_cut (its : List Value) (lo hi : Option Int) : slicePick its.toArray lo hi none = ((its.drop (HT.sIx its.length 0 lo)).take (HT.sIx its.length its.length hi - HT.sIx its.length 0 lo)).toArray := by
  obtain ⟨h1, h2, h3⟩ := slice_bounds lo hi its.toArray.size
  unfold slicePick
  rw [h1, h2, h3]
  simp only [sliceRange_one, pick_run, List.size_toArray] <;> rfl
/-- xs[lo:hi] of a list: a new list -/
def rSlL (K : PySem.W.Frag) : V → Option Int → Option Int → Hp → VK → Prop := fun x lo hi H Q => ∃ a xs, x = .ref a ∧ SqL K H a xs ∧ ∀ p, H p = none → Q (.ref p) (upd H p (.lst (cutV xs lo hi)))
theorem sl_list : SlR X (rSlL X.K) := by
  intro pins s σ H x v vl vu lo hi sl Q I rx hs pl pu h
  obtain ⟨a, xs, rfl, hx, q⟩ := h
  cases rx
  obtain ⟨its, r, ht, hz⟩ := I.list hx
  have hlen := r.length
  refine ⟨"list", _, slot_list_getitem.lookup, ht.isList.typeIs, ?_⟩
  refine wpAny_getItem_list_slice ht.isList hs pl pu .none (by simp) ?_ (by rw [List.size_toArray] <;> omega)
  rw [slicePick_cut, ← hlen]
  refine ⟨.ref s.heap.objs.size, _, I.laid (t' := s.toks) (o := .lst (cutV xs lo hi)) (fun b ob q => Heap.get?_push_of_some _ q) (Nat.le_refl _) ?_, rfl, q _ (I.hok.fresh (Nat.le_refl _))⟩
  exact ⟨Nat.le_trans (cutV_length xs lo hi) hz, _, 0, (r.drop (HT.sIx xs.length 0 lo)).take (HT.sIx xs.length xs.length hi - HT.sIx xs.length 0 lo), Heap.get?_push_size _ rfl⟩

/-! ### in, not in: flat items -/
def flatV : V → Bool
  | .non => true
  | .bl _ => true
  | .int _ => true
  | .str _ => true
  | _ => false
/-- == of flat values -/
def eqV : V → V → Bool
  | .non, .non => true
  | .bl a, .bl b => a == b
  | .bl a, .int b => (if a then 1 else 0) == b
  | .int a, .bl b => a == (if b then 1 else 0)
  | .int a, .int b => a == b
  | .str a, .str b => a == b
  | _, _ => false
theorem eqAt_V {A : Around} {s : Shared} {y x : V} {u v : Value} (ry : RelV y u) (rx : RelV x v) (fy : flatV y = true) (fx : flatV x = true) : SeqAt.EqAt A s u v (eqV y x) := by
  cases y with
  | non =>
    cases ry
    cases x with
    | non => cases rx; exact SeqAt.EqAt.same _
    | bl b => cases rx; exact SeqAt.EqAt.none_bool b
    | int b => obtain ⟨t, rfl⟩ := rx; exact SeqAt.EqAt.none_int b t
    | str b => obtain ⟨t, rfl⟩ := rx; exact SeqAt.EqAt.none_str b t
    | _ => exact absurd (show false = true from fx) Bool.false_ne_true
  | bl a =>
    cases ry
    cases x with
    | non => cases rx; exact SeqAt.EqAt.bool_none a
    | bl b => cases rx; exact SeqAt.EqAt.bool_bool a b
    | int b => obtain ⟨t, rfl⟩ := rx; exact SeqAt.EqAt.bool_int a b t
    | str b => obtain ⟨t, rfl⟩ := rx; exact SeqAt.EqAt.bool_str a b t
    | _ => exact absurd (show false = true from fx) Bool.false_ne_true
  | int a =>
    obtain ⟨t', rfl⟩ := ry
    cases x with
    | non => cases rx; exact SeqAt.EqAt.int_none a t'
    | bl b => cases rx; exact SeqAt.EqAt.int_bool a t' b
    | int b => obtain ⟨t, rfl⟩ := rx; exact SeqAt.EqAt.int_int a t' b t
    | str b => obtain ⟨t, rfl⟩ := rx; exact SeqAt.EqAt.int_str a t' b t
    | _ => exact absurd (show false = true from fx) Bool.false_ne_true
  | str a =>
    obtain ⟨t', rfl⟩ := ry
    cases x with
    | non => cases rx; exact SeqAt.EqAt.str_none a t'
    | bl b => cases rx; exact SeqAt.EqAt.str_bool a t' b
    | int b => obtain ⟨t, rfl⟩ := rx; exact SeqAt.EqAt.str_int a t' b t
    | str b => obtain ⟨t, rfl⟩ := rx; exact SeqAt.EqAt.str_str a t' b t
    | _ => exact absurd (show false = true from fx) Bool.false_ne_true
  | _ => exact absurd (show false = true from fy) Bool.false_ne_true
/-- the items' answers, read off the values (a value's own answer does not lean on its token) -/
def eqU (x : V) (u : Value) : Bool := match u with
  | .none => eqV .non x
  | .bool b => eqV (.bl b) x
  | .int i _ => eqV (.int i) x
  | .str z _ => eqV (.str z) x
  | _ => false
theorem eqU_of {x y : V} {u : Value} (r : RelV y u) (f : flatV y = true) : eqU x u = eqV y x := by
  cases y with
  | non => cases r; rfl
  | bl b => cases r; rfl
  | int i => obtain ⟨t, rfl⟩ := r; rfl
  | str z => obtain ⟨t, rfl⟩ := r; rfl
  | _ => exact absurd (show false = true from f) Bool.false_ne_true
theorem any_eqU {x : V} : ∀ {xs : List V} {us : List Value}, Vals xs us → xs.all flatV = true → us.any (eqU x) = xs.any fun y => eqV y x
  | _, _, .nil, _ => rfl
  | y :: xs, u :: us, .cons r t, f => by
    rw [List.all_cons, Bool.and_eq_true] at f
    rw [List.any_cons, List.any_cons, eqU_of r f.1, any_eqU t f.2]
theorem mem_eqAt {A : Around} {s : Shared} {x : V} {v : Value} (rx : RelV x v) (fx : flatV x = true) : ∀ {xs : List V} {us : List Value}, Vals xs us → xs.all flatV = true → ∀ u ∈ us, SeqAt.EqAt A s u v (eqU x u)
  | _, _, .nil, _ => fun u hu => by cases hu
  | y :: xs, u :: us, .cons r t, f => fun u' hu => by
    rw [List.all_cons, Bool.and_eq_true] at f
    rcases List.mem_cons.mp hu with rfl | hu
    · rw [eqU_of r f.1]; exact eqAt_V r rx f.1 fx
    · exact mem_eqAt rx fx t f.2 u' hu
def inV (x : V) (xs : List V) : Bool := xs.any fun y => eqV y x
/-- x in a list or tuple of flat items -/
def rIn (K : PySem.W.Frag) (neg : Bool) : R2 := fun x y H Q => ∃ p xs, y = .ref p ∧ (SqL K H p xs ∨ SqT K H p xs) ∧ flatV x = true ∧ xs.all flatV = true ∧ Q (.bl (if neg then !inV x xs else inV x xs)) H
theorem op_notIn_seq : OpR X (compareOp .NotIn) (rIn X.K true) := by
  intro pins s σ H x y v u Q I rx ry h
  obtain ⟨p, xs, rfl, hq, fx, fs, q⟩ := h
  cases ry
  rcases hq with hq | hq
  · obtain ⟨its, r, pl, hz⟩ := I.list hq
    refine SeqAt.notIn_listAt (eqU x) pl.isList (fun w hw => mem_eqAt rx fx r fs w (by simpa using hw)) ⟨.bl _, H, I, rfl, ?_⟩
    rw [show its.toArray.any (eqU x) = its.any (eqU x) by simp, any_eqU r fs]
    exact q
  · obtain ⟨its, r, pl, hz⟩ := I.tuple hq
    refine SeqAt.notIn_tupleAt (eqU x) pl (fun w hw => mem_eqAt rx fx r fs w (by simpa using hw)) ⟨.bl _, H, I, rfl, ?_⟩
    rw [show its.toArray.any (eqU x) = its.any (eqU x) by simp, any_eqU r fs]
    exact q
/-! ### len, list(x), tuple(x) of any list or tuple that is read -/
theorem call_len_seq : CallR X (.builtin "len") (fun xs H Q => ∃ p ys, xs = [.ref p] ∧ (SqL X.K H p ys ∨ SqT X.K H p ys) ∧ Q (.int ys.length) H) := by
  intro pins s σ H xs us Q I r h
  obtain ⟨p, ys, rfl, hq, q⟩ := h
  obtain ⟨u, rfl, rx⟩ := vals1 r
  cases rx
  have hn := line63
  rcases hq with hq | hq
  · obtain ⟨its, r', pl, hz⟩ := I.list hq
    have hlen := r'.length
    exact Calls.call_len_list pl.isList (by simp only [List.size_toArray] <;> omega) ⟨.int ys.length, H, I.tok _, ⟨s.toks + 1, by rw [List.size_toArray, hlen]⟩, q⟩
  · obtain ⟨its, r', pl, hz⟩ := I.tuple hq
    have hlen := r'.length
    exact len_tuple pl (by simp only [List.size_toArray] <;> omega) ⟨.int ys.length, H, I.tok _, ⟨s.toks + 1, by rw [List.size_toArray, hlen]⟩, q⟩
theorem call_list_of : CallR X (.type "list") (fun xs H Q => ∃ p ys, xs = [.ref p] ∧ (SqL X.K H p ys ∨ SqT X.K H p ys) ∧ ∀ l, H l = none → Q (.ref l) (upd H l (.lst ys))) := by
  intro pins s σ H xs us Q I r h
  obtain ⟨p, ys, rfl, hq, q⟩ := h
  obtain ⟨u, rfl, rx⟩ := vals1 r
  cases rx
  have fin : ∀ (its : List Value), Vals ys its → ys.length ≤ sizeLine → ∀ (h' : Heap) (c' : Nat), (∀ b o', s.heap.get? b = some o' → h'.get? b = some o') →
      h'.get? s.heap.objs.size = some { cls := .type "list", dict := none, data := .seq its.toArray c', slots := #[] } → EP X pins σ Q (.ref s.heap.objs.size) { s with heap := h' } := fun its r' hz h' c' kp e =>
    ⟨.ref s.heap.objs.size, _, I.laid (t' := s.toks) kp (Nat.le_refl _) (show ObjOk X.prog X.w _ h' _ (.lst ys) from ⟨hz, its, c', r', e⟩), rfl, q _ (I.hok.fresh (Nat.le_refl _))⟩
  rcases hq with hq | hq
  · obtain ⟨its, r', pl, hz⟩ := I.list hq
    have hlen := r'.length
    obtain ⟨o, ho, hc, n, hd⟩ := pl.isList
    exact call_list_seq p (.inl rfl) ho hc hd (fun h' c' kp e => fin its r' hz h' c' kp e) (by simp only [List.size_toArray] <;> omega)
  · obtain ⟨its, r', pl, hz⟩ := I.tuple hq
    have hlen := r'.length
    obtain ⟨o, ho, hc, n, hd⟩ := pl
    exact call_list_seq p (.inr rfl) ho hc hd (fun h' c' kp e => fin its r' hz h' c' kp e) (by simp only [List.size_toArray] <;> omega)
/-! ### the call of a builtin's method: o.m(..) -/
/-- the value is of that builtin type -/
def tyV (K : PySem.W.Frag) (T : String) (x : V) (H : Hp) : Prop := match x with
  | .str _ => T = "str"
  | .int _ => T = "int"
  | .ref p => (T = "list" ∧ ∃ xs, SqL K H p xs) ∨ (T = "tuple" ∧ ∃ o, K.lookup p = some o ∧ o.cls = .type "tuple" ∧ o.dict = none) ∨
      (T = "dict" ∧ ((∃ kvs, H p = some (.dK kvs)) ∨ ∃ kvs, H p = some (.dT kvs))) ∨ (T = "set" ∧ ∃ S n, H p = some (.set S n))
  | _ => False
theorem tyV_is {pins : List (Addr × Obj)} {σ : St} {H : Hp} {s : Shared} {T : String} {x : V} {v : Value} (I : Inv X pins σ H s) (r : RelV x v) (ty : tyV X.K T x H) :
    s.TypeIs v T ∧ ∀ a, v = .ref a → ∃ ob, s.heap.get? a = some ob ∧ ob.dict = none := by
  cases x with
  | str z =>
    obtain ⟨t, rfl⟩ := r
    cases (show T = "str" from ty)
    exact ⟨typeIs_str s z t, fun _ e => nomatch e⟩
  | int i =>
    obtain ⟨t, rfl⟩ := r
    cases (show T = "int" from ty)
    exact ⟨typeIs_int s i t, fun _ e => nomatch e⟩
  | ref p =>
    cases r
    rcases ty with ⟨rfl, xs, hq⟩ | ⟨rfl, o, hk, hc, hd⟩ | ⟨rfl, hk⟩ | ⟨rfl, S, n, hk⟩
    · obtain ⟨its, _, pl, _⟩ := I.list hq
      refine ⟨pl.isList.typeIs, fun a e => ?_⟩
      cases e
      obtain ⟨o, n, e, c, hd, _⟩ := pl
      exact ⟨o, e, hd⟩
    · refine ⟨⟨o, I.kIn p o hk, hc⟩, fun a e => ?_⟩
      cases e
      exact ⟨o, I.kIn _ o hk, hd⟩
    · have z : ∃ o, s.heap.get? p = some o ∧ o.ExactDict := by
        rcases hk with ⟨kvs, hk⟩ | ⟨kvs, hk⟩
        · obtain ⟨_, _, _, _, o, _, _, e, ex, _⟩ := I.hok p _ hk
          exact ⟨o, e, ex⟩
        · obtain ⟨_, _, _, _, o, _, _, e, ex, _⟩ := I.hok p _ hk
          exact ⟨o, e, ex⟩
      obtain ⟨o, e, ex⟩ := z
      refine ⟨⟨o, e, ex.1⟩, fun a e2 => ?_⟩
      cases e2
      exact ⟨o, e, ex.2.1⟩
    · obtain ⟨o, _, _, _, e, ex, _⟩ := I.hok p _ hk
      refine ⟨⟨o, e, ex.1⟩, fun a e2 => ?_⟩
      cases e2
      exact ⟨o, e, ex.2.1⟩
  | _ => exact False.elim ty
def tBM0 (K : PySem.W.Frag) (T : String) (r : V → List V → Hp → VK → Prop) (to : TE) : TE := fun σ H Q => to σ H fun x H1 => tyV K T x H1 ∧ r x [] H1 Q
def tBM (K : PySem.W.Frag) (T : String) (r : V → List V → Hp → VK → Prop) (to : TE) (t : TA) : TE := fun σ H Q => to σ H fun x H1 => tyV K T x H1 ∧ t σ H1 fun xs H2 => r x xs H2 Q
variable {o e : Expr} {es : List Expr} {to : TE} {t : TA} {name : Str} {apos cpos : Pos} {T id : String} {r : V → List V → Hp → VK → Prop}
theorem pe_bm0 (pa : PlainAttrs T) (slot : Slot T name id) (hty : typeOf (.builtin id) = pure (.type "method_descriptor")) (hm : MtR X id r) (ho : PE X o to)
    (hbase : attributeBase o name X.env (eval o X.env) = eval o X.env := by rfl) (hline : (apos.endLine == cpos.line) = true := by rfl) : PE X (.Call (.Attribute o name apos) [] [] cpos) (tBM0 X.K T r to) := by
  intro pins s σ H Q I h
  refine wpAny_Call_method0_late hbase hline (thn (ho pins s σ H _ I h) fun v s1 ⟨x, H1, I1, r1, ty, q1⟩ => ?_)
  obtain ⟨h1, h2⟩ := tyV_is I1 r1 ty
  exact ⟨T, id, pa, slot, hty, h1, h2, Calls.callWith_builtin rfl (PySem.evalArgs_none (hm pins s1 σ H1 x [] v [] Q I1 r1 .nil q1))⟩
theorem pe_bm (pa : PlainAttrs T) (slot : Slot T name id) (hty : typeOf (.builtin id) = pure (.type "method_descriptor")) (hm : MtR X id r) (ho : PE X o to) (ha : PA X (e :: es) t)
    (hbase : attributeBase o name X.env (eval o X.env) = eval o X.env := by rfl)
    (hfew : ((backTo cpos (starEach (e :: es) X.env)).all (fun x => !x.1) && (backToKw cpos (keywordEach [] X.env)).all (fun x => x.1.isSome)
      && decide ((e :: es).length + ([] : List Keyword).length + (if ([] : List Keyword).isEmpty then 0 else 1) < 30)) = true := by rfl)
    (hline : (apos.endLine == cpos.line) = true := by rfl) (hs : starEach (e :: es) X.env = (false, eval e X.env) :: starEach es X.env := by rfl) (hplain : (backTo cpos (starEach es X.env)).any (·.1) = false := by rfl) :
    PE X (.Call (.Attribute o name apos) (e :: es) [] cpos) (tBM X.K T r to t) := by
  intro pins s σ H Q I h
  refine wpAny_Call_method_late hbase hfew hline rfl (thn (ho pins s σ H _ I h) fun v s1 ⟨x, H1, I1, r1, ty, q1⟩ => ?_)
  obtain ⟨h1, h2⟩ := tyV_is I1 r1 ty
  refine ⟨T, id, pa, slot, hty, h1, h2, ?_⟩
  have hA := ha cpos pins s1 σ H1 _ I1 q1
  rw [hs] at hA ⊢
  refine Calls.callWith_builtin (by show (false || (backTo cpos (starEach es X.env)).any (·.1)) = false; rw [hplain] <;> rfl) (Calls.evalArgs_plain ?_)
  exact thn hA fun us s2 ⟨vs, H2, I2, r2, q2⟩ => hm pins s2 σ H2 x vs v us Q I2 r1 r2 q2
/- xs.append(e), list.index on a module's tuple .. are MtR facts of 06m -/
end
end L2

namespace L2
open PySem PySem.Spec PyProof.Rows

def MtM (X : Cx) (id : String) (r : V → List V → Hp → VK → Prop) : Prop :=
  ∀ (pins : List (Addr × Obj)) (s : Shared) (σ : St) (H : Hp) (x : V) (xs : List V) (v : Value) (us : List Value) (Q : VK), Inv X pins σ H s → RelV x v → Vals xs us → r x xs H Q →
    wpAny (model X.prog X.w) X.A (call (.builtin id) (v :: us)) (EP X pins σ Q) X.xe s

/-! ### lists of values -/
theorem Vals.one : ∀ {x : V} {us : List Value}, Vals [x] us → ∃ u, us = [u] ∧ RelV x u
  | _, _, .cons r .nil => ⟨_, rfl, r⟩
theorem Vals.zero : ∀ {us : List Value}, Vals [] us → us = []
  | _, .nil => rfl
theorem Vals.dropLast {xs : List V} {us : List Value} (h : Vals xs us) : Vals xs.dropLast us.dropLast := by
  induction h with
  | nil => exact .nil
  | cons r t ih =>
    cases t with
    | nil => exact .nil
    | cons q t' => exact .cons r ih
theorem Vals.rep {xs : List V} {us : List Value} (h : Vals xs us) : ∀ k : Nat, Vals (List.replicate k xs).flatten (List.replicate k us).flatten
  | 0 => .nil
  | k + 1 => by
    rw [List.replicate_succ, List.replicate_succ, List.flatten_cons, List.flatten_cons]
    exact Vals.append h (Vals.rep h k)
theorem erase_last {α : Type} (l : List α) : l.eraseIdx (l.length - 1) = l.dropLast := by
  induction l with
  | nil => rfl
  | cons a r ih =>
    cases r with
    | nil => rfl
    | cons b r =>
      have e : (a :: b :: r).length - 1 = ((b :: r).length - 1) + 1 := by
        have h1 : (a :: b :: r).length = r.length + 2 := rfl
        have h2 : (b :: r).length = r.length + 1 := rfl
        omega
      rw [e, List.eraseIdx_cons_succ, ih]
      all_goals rfl
theorem foldl_rep (its : List Value) : ∀ (k : Nat) (acc : List Value),
    List.foldl (fun x1 x2 => x1 ++ x2) acc.toArray (List.replicate k its.toArray) = (acc ++ (List.replicate k its).flatten).toArray
  | 0, acc => by simp
  | k + 1, acc => by
    have e : acc.toArray ++ its.toArray = (acc ++ its).toArray := by simp
    have e2 : (acc ++ its) ++ (List.replicate k its).flatten = acc ++ (List.replicate (k + 1) its).flatten := by
      rw [List.replicate_succ, List.flatten_cons, List.append_assoc]
    rw [← e2, ← foldl_rep its k (acc ++ its), ← e, List.replicate_succ, List.foldl_cons]

section
variable {X : Cx} {pins : List (Addr × Obj)} {σ : St} {H : Hp} {s : Shared} {l b : Addr} {xs ys zs : List V}

/-! ### the two steps: a tracked list is rewritten, a new list is laid -/
theorem Inv.lset {its its' : List Value} {n : Nat} {f : Array Value → Array Value} {t' : Nat} (I : Inv X pins σ H s) (hH : H l = some (.lst xs))
    (e : s.heap.get? l = some { cls := .type "list", data := .seq its.toArray n }) (hf : f its.toArray = its'.toArray) (hv : Vals ys its') (hz : ys.length ≤ sizeLine) :
    Inv X pins σ (upd H l (.lst ys)) { s with heap := s.heap.update l (Obj.mapSeq f), toks := t' } := by
  have q := PySem.IsL.update e f
  rw [hf] at q
  refine I.write (x := l) (e := l) (by rw [hH]; exact trivial) (.inl rfl) (fun b' u hb hu => (Heap.get?_update_other s.heap (Obj.mapSeq f) (Ne.symm hb)).trans hu) ⟨_, q⟩ ?_
  exact ⟨hz, its', _, hv, q⟩
theorem Inv.lnew {its : List Value} {t' : Nat} (I : Inv X pins σ H s) (hv : Vals ys its) (hz : ys.length ≤ sizeLine) :
    Inv X pins σ (upd H s.heap.objs.size (.lst ys)) { s with heap := s.heap.push { cls := .type "list", data := .seq its.toArray }, toks := t' } :=
  I.laid (fun _ _ q => Heap.get?_push_of_some _ q) (Nat.le_refl _) ⟨hz, its, 0, hv, Heap.get?_push_size _ rfl⟩
theorem Inv.fresh (I : Inv X pins σ H s) : H s.heap.objs.size = none := I.hok.fresh (Nat.le_refl _)
theorem Inv.lstM (I : Inv X pins σ H s) (hH : H l = some (.lst xs)) : xs.length ≤ sizeLine ∧ ∃ (its : List Value) (n : Nat), Vals xs its ∧ xs.length = its.length ∧ s.heap.get? l = some { cls := .type "list", data := .seq its.toArray n } := by
  obtain ⟨z, its, n, r, e⟩ := I.hok l _ hH
  exact ⟨z, its, n, r, r.length, e⟩

theorem notLongL {n : Nat} (h : n ≤ sizeLine) : Builtin.List.listTooLong n = false := by
  unfold Builtin.List.listTooLong
  exact decide_eq_false (by omega)
end

section
variable {X : Cx}

/-! ### methods -/
def rAppend : V → List V → Hp → VK → Prop := fun x vs H Q => ∃ l xs y, x = .ref l ∧ vs = [y] ∧ H l = some (.lst xs) ∧ xs.length < sizeLine ∧ Q .non (upd H l (.lst (xs ++ [y])))
theorem mt_append : MtM X "list.append" rAppend := by
  intro pins s σ H x vs v us Q I rx rv h
  obtain ⟨l, xs, y, rfl, rfl, hH, hz, q⟩ := h
  cases rx
  obtain ⟨u, rfl, ru⟩ := rv.one
  obtain ⟨z, its, n, r, hl, e⟩ := I.lstM hH
  refine call_meets F.slot_list_append ⟨_, e, rfl⟩ F.entry_list_append (F.args_list_append_2 _ _) (PySem.list_append l its.toArray n u (by rw [List.size_toArray]; omega)) ⟨e, ?_⟩
  refine ⟨.non, _, I.lset (its' := its ++ [u]) hH e (by simp) (r.append (.cons ru .nil)) ?_, rfl, q⟩
  rw [List.length_append, List.length_singleton]
  omega

def rPop : V → List V → Hp → VK → Prop := fun x vs H Q => ∃ l xs y, x = .ref l ∧ vs = [] ∧ H l = some (.lst xs) ∧ xs[xs.length - 1]? = some y ∧ Q y (upd H l (.lst xs.dropLast))
theorem mt_pop : MtM X "list.pop" rPop := by
  intro pins s σ H x vs v us Q I rx rv h
  obtain ⟨l, xs, y, rfl, rfl, hH, hy, q⟩ := h
  cases rx
  have hus := rv.zero
  subst hus
  obtain ⟨z, its, n, r, hl, e⟩ := I.lstM hH
  obtain ⟨u, hu, ru⟩ := r.get hy
  have hy' : its.toArray[its.toArray.size - 1]? = some u := by
    show its.toArray[its.length - 1]? = some u
    rw [← Array.getElem?_toList, ← hl]
    exact hu
  refine call_meets F.slot_list_pop ⟨_, e, rfl⟩ F.entry_list_pop (F.args_list_pop_1 _) (MeetsSeq.list_pop_last l its.toArray n u hy' (by rw [List.size_toArray]; omega)) ⟨e, ?_⟩
  refine ⟨y, _, I.lset (its' := its.dropLast) hH e ?_ r.dropLast ?_, ru, q⟩
  · show its.toArray.eraseIdxIfInBounds (its.toArray.size - 1) = its.dropLast.toArray
    rw [List.size_toArray, List.eraseIdxIfInBounds_toArray, erase_last]
  · rw [List.length_dropLast]
    omega

/-! ### list + list, list += list, list * int -/
def rCat : R2 := fun x y H Q => ∃ l b xs zs, x = .ref l ∧ y = .ref b ∧ H l = some (.lst xs) ∧ H b = some (.lst zs) ∧ xs.length + zs.length ≤ sizeLine ∧ ∀ p, H p = none → Q (.ref p) (upd H p (.lst (xs ++ zs)))
theorem op_cat : OpR X (binaryOp .Add) rCat := by
  intro pins s σ H x y v u Q I rx ry h
  obtain ⟨l, b, xs, zs, rfl, rfl, hH, hB, hz, q⟩ := h
  cases rx
  cases ry
  obtain ⟨z, its, n, r, hl, e⟩ := I.lstM hH
  obtain ⟨z2, its2, n2, r2, hl2, e2⟩ := I.lstM hB
  refine PySem.P.add_list e e2 ?_ (by rw [List.size_toArray, List.size_toArray]; omega)
  have ea : its.toArray ++ its2.toArray = (its ++ its2).toArray := by simp
  rw [ea]
  exact ⟨.ref _, _, I.lnew (t' := s.toks) (r.append r2) (by rw [List.length_append]; omega), rfl, q _ I.fresh⟩
/-- a list times an int (a negative one is nothing) -/
def rRep : R2 := fun x y H Q => ∃ l k xs, x = .ref l ∧ y = .int k ∧ H l = some (.lst xs) ∧ -(2 ^ 63) ≤ k ∧ k < 2 ^ 63 ∧ xs.length * k.toNat ≤ sizeLine ∧
  ∀ p, H p = none → Q (.ref p) (upd H p (.lst (List.replicate k.toNat xs).flatten))
theorem len_rep {α : Type} (xs : List α) (k : Nat) : (List.replicate k xs).flatten.length = k * xs.length := by
  induction k with
  | zero => simp
  | succ k ih => rw [List.replicate_succ, List.flatten_cons, List.length_append, ih, Nat.succ_mul, Nat.add_comm]
theorem op_rep : OpR X (binaryOp .Mult) rRep := by
  intro pins s σ H x y v u Q I rx ry h
  obtain ⟨l, k, xs, rfl, rfl, hH, h1, h2, hz, q⟩ := h
  cases rx
  obtain ⟨t, rfl⟩ := ry
  obtain ⟨z, its, n, r, hl, e⟩ := I.lstM hH
  have hlen : its.toArray.size * k.toNat ≤ sizeLine := by rw [List.size_toArray, ← hl]; exact hz
  have hcap : ¬ its.toArray.size * k.toNat > (2 ^ 63 - 1) / 8 := by
    have : (sizeLine : Nat) ≤ (2 ^ 63 - 1) / 8 := by decide
    omega
  have hfit : ¬ (!Builtin.List.listFitsIndex k) = true := by
    rw [fitsIndex_both h1 h2]
    exact Bool.false_ne_true
  have hlong : ¬ Builtin.List.listTooLong (its.toArray.size * k.toNat) = true := by
    rw [notLongL hlen]
    exact Bool.false_ne_true
  have hnew : List.foldl (fun x1 x2 => x1 ++ x2) #[] (List.replicate (if its.toArray.isEmpty = true then 0 else k.toNat) its.toArray) = (List.replicate k.toNat its).flatten.toArray := by
    have f0 : ∀ m : Nat, List.foldl (fun x1 x2 => x1 ++ x2) #[] (List.replicate m its.toArray) = (List.replicate m its).flatten.toArray := fun m => by
      have := foldl_rep its m []
      rw [List.nil_append] at this
      exact this
    rw [f0]
    cases its with
    | nil => simp
    | cons a r' => rw [if_neg (by simp)]
  refine wpAny_binaryOp_repeat_ref (T := "list") (U := "int") (by decide) ⟨_, e, rfl⟩ (fun s' => typeIs_int s' k t) noFill_list_mul F.fills_int_mul F.slot_int_rmul repeat_list F.slot_int_index.lookup
    (call_meets F.slot_int_rmul (typeIs_int s k t) F.entry_int_rmul (F.args_int_rmul_2 _ _) (int___rmul___int_list k t l its.toArray n)
      ⟨e, rfl, ⟨_, e, rfl⟩, call_meets F.slot_list_mul ⟨_, e, rfl⟩ F.entry_list_mul (F.args_list_mul_2 _ _) (AutoListH.list___mul___list_int_3 l its.toArray n k t hfit hcap hlong) ⟨e, ?_⟩⟩)
  rw [hnew]
  exact ⟨.ref _, _, I.lnew (t' := s.toks) (r.rep k.toNat) (by rw [len_rep, Nat.mul_comm]; exact hz), rfl, q _ I.fresh⟩

/-! ### del xs[i] -/
end

/-! ### xs[a:b] = ys -/
section
variable {prog : Program} {w : World} {A : Around} {E : Value → Shared → Prop} {s : Shared}
end

section
variable {X : Cx}
end
end L2

namespace L2
open PySem PySem.Spec PyProof.Rows

/-! ### lists of pairs as tables -/
section
variable {κ : Type} [DecidableEq κ]
def valV (kvs : List (κ × V)) (k : κ) : Option V := (kvs.find? fun kv => decide (kv.1 = k)).map (·.2)
/-- in its place, or at the end -/
def putK (kvs : List (κ × V)) (k : κ) (v : V) : List (κ × V) :=
  if (kvs.any fun kv => decide (kv.1 = k)) = true then kvs.map (fun kv => if kv.1 = k then (kv.1, v) else kv) else kvs ++ [(k, v)]
theorem valV_pos {p : κ × V} {r : List (κ × V)} {k : κ} (e : p.1 = k) : valV (p :: r) k = some p.2 := by simp [valV, List.find?_cons, e]
theorem valV_neg {p : κ × V} {r : List (κ × V)} {k : κ} (e : ¬ p.1 = k) : valV (p :: r) k = valV r k := by simp [valV, List.find?_cons, e]
theorem valV_any (k : κ) : ∀ kvs : List (κ × V), (kvs.any fun kv => decide (kv.1 = k)) = (valV kvs k).isSome
  | [] => rfl
  | p :: r => by
    rw [List.any_cons]
    by_cases e : p.1 = k
    · simp only [valV_pos e, decide_eq_true e, Bool.true_or, Option.isSome_some]
    · rw [valV_neg e, decide_eq_false e, Bool.false_or]; exact valV_any k r
theorem valV_map (k j : κ) (y : V) : ∀ kvs : List (κ × V), valV (kvs.map fun kv => if kv.1 = k then (kv.1, y) else kv) j = (valV kvs j).map fun x => if j = k then y else x
  | [] => rfl
  | p :: r => by
    have ih := valV_map k j y r
    rw [List.map_cons]
    by_cases h : p.1 = k
    · rw [if_pos h]
      by_cases e : p.1 = j
      · rw [valV_pos (p := (p.1, y)) e, valV_pos e, Option.map_some, if_pos (e.symm.trans h)]
      · rw [valV_neg (p := (p.1, y)) e, valV_neg e, ih]
    · rw [if_neg h]
      by_cases e : p.1 = j
      · rw [valV_pos (p := p) e, valV_pos e, Option.map_some, if_neg (fun z => h (e.trans z))]
      · rw [valV_neg (p := p) e, valV_neg e, ih]
theorem valV_snoc (k j : κ) (y : V) : ∀ kvs : List (κ × V), valV kvs k = none → valV (kvs ++ [(k, y)]) j = if j = k then some y else valV kvs j
  | [], _ => by
    by_cases e : k = j
    · rw [if_pos e.symm]; exact valV_pos (p := (k, y)) e
    · rw [if_neg (fun z => e z.symm)]; exact valV_neg (p := (k, y)) e
  | p :: r, hn => by
    rw [List.cons_append]
    have hk : ¬ p.1 = k := fun z => by rw [valV_pos z] at hn; cases hn
    rw [valV_neg hk] at hn
    have ih := valV_snoc k j y r hn
    by_cases e : p.1 = j
    · rw [valV_pos e, valV_pos e, if_neg (fun z => hk (e.trans z))]
    · rw [valV_neg e, valV_neg e, ih]
theorem valV_put (kvs : List (κ × V)) (k j : κ) (y : V) : valV (putK kvs k y) j = if j = k then some y else valV kvs j := by
  unfold putK
  by_cases a : (kvs.any fun kv => decide (kv.1 = k)) = true
  · rw [if_pos a, valV_map]
    rw [valV_any] at a
    by_cases e : j = k
    · obtain ⟨x, hx⟩ := Option.isSome_iff_exists.mp a
      rw [if_pos e, e, hx, Option.map_some, if_pos rfl]
    · rw [if_neg e]
      cases valV kvs j with
      | none => rfl
      | some x => rw [Option.map_some, if_neg e]
  · rw [if_neg a]
    refine valV_snoc k j y kvs ?_
    rw [valV_any] at a
    cases q : valV kvs k with
    | none => rfl
    | some x => rw [q] at a; exact (a rfl).elim
theorem length_putK (kvs : List (κ × V)) (k : κ) (v : V) : (putK kvs k v).length ≤ kvs.length + 1 := by
  unfold putK
  split
  · rw [List.length_map]; omega
  · rw [List.length_append, List.length_cons, List.length_nil]; omega
theorem RelO.isSome_eq {o : Option V} {u : Option Value} (r : RelO o u) : o.isSome = u.isSome := by
  cases o with
  | none => cases u with
    | none => rfl
    | some _ => exact (show False from r).elim
  | some _ => cases u with
    | none => exact (show False from r).elim
    | some _ => rfl
theorem RelO.getD {o : Option V} {u : Option Value} {d : V} {d' : Value} (r : RelO o u) (rd : RelV d d') : RelV (o.getD d) (u.getD d') := by
  cases o with
  | none => cases u with
    | none => exact rd
    | some _ => exact (show False from r).elim
  | some _ => cases u with
    | none => exact (show False from r).elim
    | some _ => exact r

/-- raw tables of the same keys -/
theorem KV.val {kvs : List (κ × V)} {vs : List (κ × Value)} (r : KV kvs vs) (k : κ) : RelO (valV kvs k) (valueAt vs k) := by
  unfold KV at r
  induction r with
  | nil => exact True.intro
  | @cons p q ps qs h t ih =>
    obtain ⟨h1, h2⟩ := h
    by_cases e : p.1 = k
    · have e' : q.1 = k := h1.symm.trans e
      have b : valueAt (q :: qs) k = some q.2 := by simp [valueAt, List.find?_cons, e']
      rw [valV_pos e, b]; exact h2
    · have e' : ¬ q.1 = k := fun z => e (h1.trans z)
      have b : valueAt (q :: qs) k = valueAt qs k := by simp [valueAt, List.find?_cons, e']
      rw [valV_neg e, b]; exact ih
theorem KV.any {kvs : List (κ × V)} {vs : List (κ × Value)} (r : KV kvs vs) (k : κ) : (kvs.any fun kv => decide (kv.1 = k)) = vs.any fun kv => decide (kv.1 = k) := by
  unfold KV at r
  induction r with
  | nil => rfl
  | cons h t ih => rw [List.any_cons, List.any_cons, ih, h.1]
theorem KV.repl {kvs : List (κ × V)} {vs : List (κ × Value)} (r : KV kvs vs) (k : κ) {y : V} {u : Value} (ry : RelV y u) :
    KV (kvs.map fun kv => if kv.1 = k then (kv.1, y) else kv) (vs.map fun kv => if kv.1 = k then (kv.1, u) else kv) := by
  unfold KV at r ⊢
  induction r with
  | nil => exact .nil
  | @cons p q ps qs h t ih =>
    rw [List.map_cons, List.map_cons]
    refine .cons ?_ ih
    obtain ⟨h1, h2⟩ := h
    by_cases e : p.1 = k
    · rw [if_pos e, if_pos (h1.symm.trans e)]; exact ⟨h1, ry⟩
    · rw [if_neg e, if_neg (fun z => e (h1.trans z))]; exact ⟨h1, h2⟩
theorem KV.put {kvs : List (κ × V)} {vs : List (κ × Value)} (r : KV kvs vs) (k : κ) {y : V} {u : Value} (ry : RelV y u) : KV (putK kvs k y) (stored vs k u) := by
  unfold putK stored
  rw [r.any k]
  by_cases e : (vs.any fun kv => decide (kv.1 = k)) = true
  · rw [if_pos e, if_pos e]; exact r.repl k ry
  · rw [if_neg e, if_neg e]; exact Paired.snoc r ⟨rfl, ry⟩
theorem KV.length {kvs : List (κ × V)} {vs : List (κ × Value)} (r : KV kvs vs) : kvs.length = vs.length := Paired.length r
end


/-! ### a tracked dict, its keys ints and texts or tuples of these -/
theorem kV_is {P : Program} {w : World} {k : Key} {u : Value} (r : RelV (kV k) u) : (mixKind P w).is k u = true := by
  cases k with
  | inl i => obtain ⟨t, e⟩ := (show ∃ t, u = Value.int i t from r); subst e; exact mixKind_int P w i t
  | inr x => obtain ⟨t, e⟩ := (show ∃ t, u = Value.str x t from r); subst e; exact mixKind_str P w x t
theorem items_are {P : Program} {w : World} : ∀ {ks : List Key} {us : List Value}, Vals (ks.map kV) us → ItemsAre (mixKind P w) ks us
  | [], _, r => by rw [List.map_nil] at r; cases r; exact .nil
  | k :: ks, _, r => by
    rw [List.map_cons] at r
    cases r with
    | cons h t => exact .cons (kV_is h) (items_are t)

/-- raw entries of a dict with tuple keys -/
abbrev KT (H : Hp) : List (List Key × V) → List (List Key × Addr × Value) → Prop := Paired fun p q => p.1 = q.1 ∧ H q.2.1 = some (.tup (p.1.map kV)) ∧ RelV p.2 q.2.2
theorem KT.val {H : Hp} {kvs : List (List Key × V)} {xs : List (List Key × Addr × Value)} (r : KT H kvs xs) (k : List Key) : RelO (valV kvs k) ((atKey xs k).map (·.2)) := by
  induction r with
  | nil => exact True.intro
  | @cons p q ps qs h t ih =>
    obtain ⟨h1, _, h2⟩ := h
    by_cases e : p.1 = k
    · have e' : q.1 = k := h1.symm.trans e
      have b : atKey (q :: qs) k = some q.2 := by simp [atKey, List.find?_cons, e']
      rw [valV_pos e, b]; exact h2
    · have e' : ¬ q.1 = k := fun z => e (h1.trans z)
      have b : atKey (q :: qs) k = atKey qs k := by simp [atKey, List.find?_cons, e']
      rw [valV_neg e, b]; exact ih
theorem KT.repl {H : Hp} {kvs : List (List Key × V)} {xs : List (List Key × Addr × Value)} (r : KT H kvs xs) (k : List Key) {y : V} {u : Value} (ry : RelV y u) :
    KT H (kvs.map fun kv => if kv.1 = k then (kv.1, y) else kv) (xs.map (putAt k u)) := by
  induction r with
  | nil => exact .nil
  | @cons p q ps qs h t ih =>
    rw [List.map_cons, List.map_cons]
    refine .cons ?_ ih
    obtain ⟨h1, h2, h3⟩ := h
    unfold putAt
    by_cases e : p.1 = k
    · rw [if_pos e, if_pos (h1.symm.trans e)]; exact ⟨h1, h2, ry⟩
    · rw [if_neg e, if_neg (fun z => e (h1.trans z))]; exact ⟨h1, h2, h3⟩
theorem KT.put {H : Hp} {kvs : List (List Key × V)} {xs : List (List Key × Addr × Value)} (r : KT H kvs xs) (k : List Key) {b : Addr} {y : V} {u : Value} (hb : H b = some (.tup (k.map kV))) (ry : RelV y u) :
    KT H (putK kvs k y) (storedH xs k b u) := by
  have e : (kvs.any fun kv => decide (kv.1 = k)) = (atKey xs k).isSome := by
    rw [valV_any, (r.val k).isSome_eq, Option.isSome_map]
  unfold putK storedH
  rw [e]
  by_cases q : (atKey xs k).isSome = true
  · rw [if_pos q, if_pos q]; exact r.repl k ry
  · rw [if_neg q, if_neg q]; exact Paired.snoc r ⟨rfl, hb, ry⟩
theorem KT.keeps {H H' : Hp} {kvs : List (List Key × V)} {xs : List (List Key × Addr × Value)} (r : KT H kvs xs) (ht : ∀ b ys, H b = some (.tup ys) → H' b = some (.tup ys)) : KT H' kvs xs :=
  Paired.mapP r fun _ _ z => ⟨z.1, ht _ _ z.2.1, z.2.2⟩

section
variable {P : Program} {w : World} {H : Hp} {h : Heap} {a : Addr}
theorem rd_of {u : HO} (ok : HOk P w H h) (e : Rd H a u) : ObjOk P w H h a u := e.ok ok
theorem dk_rd {kvs : List (Key × V)} (ok : HOk P w H h) (e : Rd H a (.dK kvs)) : kvs.length ≤ sizeLine ∧ (a == sysModules) = false ∧ ∃ vs, KV kvs vs ∧ h.DictOf (mixKind P w) a vs :=
  show ObjOk P w H h a (.dK kvs) from rd_of ok e
theorem dk_of {kvs : List (Key × V)} (ok : HOk P w H h) (e : H a = some (.dK kvs)) : kvs.length ≤ sizeLine ∧ (a == sysModules) = false ∧ ∃ vs, KV kvs vs ∧ h.DictOf (mixKind P w) a vs := dk_rd ok (.inl e)
/-- a tracked tuple of ints and texts is a key -/
theorem key_of {ks : List Key} (ok : HOk P w H h) (e : H a = some (.tup (ks.map kV))) : (tupleKind (mixKind P w)).is h ks a := by
  obtain ⟨_, its, r, o, h1, h2, n, h3⟩ := (show ObjOk P w H h a (.tup (ks.map kV)) from ok a _ e)
  exact ⟨o, its.toArray, n, h1, h2, h3, by simpa using items_are r⟩
theorem dt_rd {kvs : List (List Key × V)} (ok : HOk P w H h) (e : Rd H a (.dT kvs)) : kvs.length ≤ sizeLine ∧ (a == sysModules) = false ∧
    ∃ xs, KT H kvs xs ∧ h.DictOfH (tupleKind (mixKind P w)) a xs := by
  obtain ⟨z, y, xs, r, o, es, ep, h1, h2, h3, h4, h5⟩ := (show ObjOk P w H h a (.dT kvs) from rd_of ok e)
  refine ⟨z, y, xs, r, o, es, ep, h1, h2, h3, h4, fun x hx => ?_, h5⟩
  have all : ∀ {l : List (List Key × V)} {m : List (List Key × Addr × Value)}, KT H l m → ∀ x ∈ m, (tupleKind (mixKind P w)).is h x.1 x.2.1 := by
    intro l m q
    induction q with
    | nil => intro x hx; exact nomatch hx
    | @cons p q ps qs hq t ih =>
      intro x hx
      rcases List.mem_cons.mp hx with e | hx
      · subst e
        exact key_of ok (by rw [← hq.1]; exact hq.2.1)
      · exact ih x hx
  exact all r x hx
theorem dt_of {kvs : List (List Key × V)} (ok : HOk P w H h) (e : H a = some (.dT kvs)) : kvs.length ≤ sizeLine ∧ (a == sysModules) = false ∧
    ∃ xs, KT H kvs xs ∧ h.DictOfH (tupleKind (mixKind P w)) a xs := dt_rd ok (.inl e)
end

/-- what the dict at a holds at the key y -/
def DGet (H : Hp) (a : Addr) (y : V) (r : Option V) : Prop :=
  (∃ kvs k, Rd H a (.dK kvs) ∧ y = kV k ∧ r = valV kvs k) ∨ ∃ kvs k b, Rd H a (.dT kvs) ∧ y = .ref b ∧ H b = some (.tup (k.map kV)) ∧ r = valV kvs k
/-- the heap behind a[y] = v -/
def DPut (H : Hp) (a : Addr) (y v : V) (H' : Hp) : Prop :=
  (∃ kvs k, H a = some (.dK kvs) ∧ y = kV k ∧ kvs.length < sizeLine ∧ H' = upd H a (.dK (putK kvs k v))) ∨
  ∃ kvs k b, H a = some (.dT kvs) ∧ y = .ref b ∧ H b = some (.tup (k.map kV)) ∧ kvs.length < sizeLine ∧ H' = upd H a (.dT (putK kvs k v))
theorem DGet.k {H : Hp} {a : Addr} {kvs : List (Key × V)} {k : Key} (e : H a = some (.dK kvs)) : DGet H a (kV k) (valV kvs k) := .inl ⟨kvs, k, .inl e, rfl, rfl⟩
theorem DPut.k {H : Hp} {a : Addr} {kvs : List (Key × V)} {k : Key} {v : V} (e : H a = some (.dK kvs)) (hl : kvs.length < sizeLine) : DPut H a (kV k) v (upd H a (.dK (putK kvs k v))) := .inl ⟨kvs, k, e, rfl, hl, rfl⟩
section
variable {X : Cx} {pins : List (Addr × Obj)} {σ : St} {H : Hp} {s : Shared} {a : Addr} {y v : V} {u r : Value} {o : Option V} {A : Around} {E : Value → Shared → Prop}

theorem Inv.big (I : Inv X pins σ H s) : sysModules < s.heap.objs.size := by
  have h : mainGlobals < s.heap.objs.size := (I.mod.glob.keeps I.bk).lt
  exact Nat.lt_trans (by decide) h

/-- a dict's object is replaced -/
theorem d_write {h' : Heap} {t' : Nat} {ob : HO} (I : Inv X pins σ H s) (mu : Mut (H a)) (hs : Heap.SameBut a s.heap h') (he : ∃ q, h'.get? a = some q) (new : ObjOk X.prog X.w (upd H a ob) h' a ob) :
    Inv X pins σ (upd H a ob) { s with heap := h', toks := t' } :=
  I.write (x := a) (e := a) mu (.inl rfl) (fun b q hb z => (hs.2 b hb).trans z) he new
theorem dk_new {P : Program} {w : World} {H' : Hp} {h' : Heap} {kvs : List (Key × V)} {vs : List (Key × Value)} (z : kvs.length ≤ sizeLine) (hd : (a == sysModules) = false) (rel : KV kvs vs) (dd : h'.DictOf (mixKind P w) a vs) :
    ObjOk P w H' h' a (.dK kvs) := ⟨z, hd, vs, rel, dd⟩
/-- d[y] = v -/
theorem d_setItem {H' : Hp} {Q : Unit → Shared → Prop} (hu : A.units + 1 < cLine) (I : Inv X pins σ H s) (g : DPut H a y v H') (ry : RelV y u) (rv : RelV v r) (h : ∀ s', Inv X pins σ H' s' → Q () s') :
    wpAny (model X.prog X.w) A (setItem (.ref a) u r) Q E s := by
  rcases g with ⟨kvs, k, e, ey, l, eH⟩ | ⟨kvs, k, b, e, ey, eb, l, eH⟩
  · subst ey eH
    obtain ⟨z, hd, vs, rel, dd⟩ := dk_of I.hok e
    have hz : vs.length ≤ sizeLine := by rw [← rel.length]; exact z
    have hl : (putK kvs k v).length ≤ sizeLine := by have := length_putK kvs k v; omega
    refine wpAny_setItem_pairs (hsz := hz) (kV_is ry) dd fun h' dd' hs => h _ ?_
    have he : ∃ q, h'.get? a = some q := let ⟨q, _, _, hq, _⟩ := dd'; ⟨q, hq⟩
    exact d_write I (by rw [e]; exact True.intro) hs he (dk_new hl hd (rel.put k rv) dd')
  · subst ey eH
    cases (show u = Value.ref b from ry)
    obtain ⟨z, hd, xs, rel, dd⟩ := dt_of I.hok e
    have hz : xs.length ≤ sizeLine := by rw [← Paired.length rel]; exact z
    have hl : (putK kvs k v).length ≤ sizeLine := by have := length_putK kvs k v; omega
    refine wpAny_setItem_heap (hsz := hz) (tupleKind_room_in1 hu) (key_of I.hok eb) dd fun h' dd' hs => h _ ?_
    obtain ⟨q, es, ep, hq, h2, h3, h4, _, h5⟩ := dd'
    refine d_write I (by rw [e]; exact True.intro) hs ⟨q, hq⟩ ⟨hl, hd, _, (rel.put k eb rv).keeps fun c ys ec => ?_, q, es, ep, hq, h2, h3, h4, h5⟩
    rw [upd_ne (ne_of ec e (fun z => nomatch z))]
    exact ec
end

section
variable {X : Cx} {pins : List (Addr × Obj)} {σ : St} {H : Hp} {s : Shared} {a : Addr} {kvs : List (Key × V)} {k : Key} {u : Value} {A : Around} {E : Value → Shared → Prop}
end


/-! ### readings and rules -/
/-- d[y] = v -/
def sDPut (td ty tv : TE) : TS := fun D σ H => tv σ H fun v H1 => td σ H1 fun x H2 => ty σ H2 fun y H3 => ∃ a H4, x = .ref a ∧ DPut H3 a y v H4 ∧ D.nx σ H4
section
variable {X : Cx} {o i e value : Expr} {pos pos' tpos : Pos} {td ty tv : TE}
theorem ps_dput (hu : X.A.units + 1 < cLine) (ho : PE X o td) (hi : PE X i ty) (hv : PE X value tv) (hs : swapsWith value (some (.Subscript o i pos')) pos.line X.env = pure false) :
    PS X (.Assign [.Subscript o i pos'] value pos) (sDPut td ty tv) := by
  intro pins s σ H D I h
  refine wpAny_Assign_Subscript (thn (hv pins s σ H _ I h) fun r s1 ⟨v, H1, I1, rv, q1⟩ => thn (ho pins s1 σ H1 _ I1 q1) fun u s2 ⟨x, H2, I2, rx, q2⟩ => thn (hi pins s2 σ H2 _ I2 q2) fun iv s3 ⟨y, H3, I3, ry, a, H4, ex, g, q3⟩ => ?_) hs
  subst ex
  obtain rfl : u = Value.ref a := rx
  exact d_setItem hu I3 g ry rv fun s4 I4 => ⟨σ, H4, I4, q3⟩
end


/-! ### displays -/
theorem dk_empty {P : Program} {w : World} {H : Hp} (h : Heap) (hb : sysModules < h.objs.size) : ObjOk P w H (h.push { cls := .type "dict", data := .dict #[] }) h.objs.size (.dK []) :=
  ⟨Nat.zero_le _, beq_eq_false_iff_ne.mpr (Ne.symm (Nat.ne_of_lt hb)), [], .nil, Heap.DictOf.new h⟩
/-- {}, to be a dict of the kind that is wanted -/
def tDNewK : TE := fun _ H Q => ∀ p, H p = none → Q (.ref p) (upd H p (.dK []))
section
variable {X : Cx} {pos : Pos}
theorem pe_dnewK : PE X (.Dict [] [] pos) tDNewK := fun pins s σ H Q I h =>
  wpAny_Dict_empty ⟨.ref s.heap.objs.size, _, I.laid (a := s.heap.objs.size) (o := .dK []) (t' := s.toks) (fun _ _ q => Heap.get?_push_of_some _ q) (Nat.le_refl _) (dk_empty s.heap I.big), rfl, h _ (I.hok.fresh (Nat.le_refl _))⟩
end

/-! ### methods -/
structure M2 (X : Cx) (o : Expr) (m : Str) (apos : Pos) (e f : Expr) (cpos : Pos) : Prop where
  base : attributeBase o m X.env (eval o X.env) = eval o X.env
  few : ((backTo cpos (starEach [e, f] X.env)).all (fun x => !x.1) && (backToKw cpos (keywordEach [] X.env)).all (fun x => x.1.isSome)
    && decide (([e, f] : List Expr).length + ([] : List Keyword).length + (if ([] : List Keyword).isEmpty then 0 else 1) < 30)) = true
  line : (apos.endLine == cpos.line) = true
  trees : backTo cpos (starEach [e, f] X.env) = [(false, eval e X.env), (false, eval f X.env)]

/-- a is a dict, whatever its keys -/
def IsD (H : Hp) (a : Addr) : Prop := (∃ kvs, Rd H a (.dK kvs)) ∨ ∃ kvs, Rd H a (.dT kvs)
theorem isD_at {X : Cx} {pins : List (Addr × Obj)} {σ : St} {H : Hp} {s : Shared} {a : Addr} (I : Inv X pins σ H s) (d : IsD H a) :
    s.TypeIs (.ref a) "dict" ∧ (∀ b, Value.ref a = .ref b → ∃ ob, s.heap.get? b = some ob ∧ ob.dict = none) ∧ (a == sysModules) = false := by
  rcases d with ⟨kvs, e⟩ | ⟨kvs, e⟩
  · obtain ⟨_, hd, vs, _, dd⟩ := dk_rd I.hok e
    refine ⟨dd.typeIs, fun b q => ?_, hd⟩
    cases q
    obtain ⟨ob, _, _, h1, h2, _⟩ := dd
    exact ⟨ob, h1, h2.2.1⟩
  · obtain ⟨_, hd, xs, _, dd⟩ := dt_rd I.hok e
    refine ⟨dd.typeIs, fun b q => ?_, hd⟩
    cases q
    obtain ⟨ob, _, _, h1, h2, _⟩ := dd
    exact ⟨ob, h1, h2.2.1⟩

section
variable {X : Cx} {pins : List (Addr × Obj)} {σ : St} {H : Hp} {s : Shared} {a : Addr} {y d : V} {u r : Value} {o : Option V} {A : Around} {E : Value → Shared → Prop}
/-- d.get(y, x) -/
theorem d_get2 {Q : Value → Shared → Prop} (hu : A.units + 1 < cLine) (I : Inv X pins σ H s) (g : DGet H a y o) (ry : RelV y u) (rd : RelV d r) (h : ∀ w' s', Inv X pins σ H s' → RelV (o.getD d) w' → Q w' s') :
    wpAny (model X.prog X.w) A (call (.builtin "dict.get") [.ref a, u, r]) Q E s := by
  rcases g with ⟨kvs, k, e, ey, l⟩ | ⟨kvs, k, b, e, ey, eb, l⟩
  · subst ey
    obtain ⟨z, hd, vs, rel, dd⟩ := dk_rd I.hok e
    refine call_meetsIn PySem.F.slot_dict_get dd.typeIs PySem.F.entry_dict_get (PySem.F.args_dict_get_3 _ _ _) (meets_dict_get_default (mixKind X.prog X.w) a (kV_is ry) hd r) ⟨_, dd.mapOf, h _ _ (I.tok _) ?_⟩
    rw [l]
    exact (rel.val k).getD rd
  · subst ey
    cases (show u = Value.ref b from ry)
    obtain ⟨z, hd, xs, rel, dd⟩ := dt_rd I.hok e
    refine call_meetsIn PySem.F.slot_dict_get dd.typeIs PySem.F.entry_dict_get (PySem.F.args_dict_get_3 _ _ _) (meetsH_dict_get_default (tupleKind (mixKind X.prog X.w)) a b hd r) ⟨tupleKind_room_in1 hu, k, xs, key_of I.hok eb, dd, h _ _ (I.tok _) ?_⟩
    rw [l]
    exact (rel.val k).getD rd
end

def tDGet2 (td ty tx : TE) : TE := fun σ H Q => td σ H fun x H1 => ∃ a, x = .ref a ∧ IsD H1 a ∧ ty σ H1 fun y H2 => tx σ H2 fun z H3 => ∃ o, DGet H3 a y o ∧ Q (o.getD z) H3
section
variable {X : Cx} {o e f : Expr} {apos cpos : Pos} {td ty tx : TE}
theorem pe_dget2 (hu : X.A.units + 1 < cLine) (ho : PE X o td) (he : PE X e ty) (hf : PE X f tx) (m : M2 X o "get" apos e f cpos) : PE X (.Call (.Attribute o "get" apos) [e, f] [] cpos) (tDGet2 td ty tx) := by
  intro pins s σ H Q I h
  refine wpAny_Call_method m.base m.few m.line PySem.F.plainAttrs_dict PySem.F.slot_dict_get PySem.F.type_dict_get (thn (ho pins s σ H _ I h) fun u s1 ⟨x, H1, I1, rx, a, ex, d, q1⟩ => ?_)
  subst ex
  obtain rfl : u = Value.ref a := rx
  obtain ⟨t1, t2, _⟩ := isD_at I1 d
  refine ⟨t1, t2, ?_⟩
  rw [m.trees]
  refine Calls.callWith_builtin rfl (Calls.evalArgs_plain (Calls.spliced_cons (thn (he pins s1 σ H1 _ I1 q1) fun iv s2 ⟨y, H2, I2, ry, q2⟩ =>
    Calls.spliced_cons (thn (hf pins s2 σ H2 _ I2 q2) fun fv s3 ⟨z, H3, I3, rz, ov, g, q3⟩ => Calls.spliced_nil ?_))))
  exact d_get2 hu I3 g ry rz fun w' s4 I4 rw' => ⟨_, H3, I4, rw', q3⟩
end

/-! ### dict(d): a copy -/
section
variable {X : Cx} {pins : List (Addr × Obj)} {σ : St} {H : Hp} {s : Shared} {a : Addr} {kvs : List (Key × V)} {A : Around} {E : Value → Shared → Prop}
end


section
variable {X : Cx} {pins : List (Addr × Obj)} {σ : St} {H : Hp} {s : Shared} {a : Addr} {y : V} {u : Value} {A : Around} {E : Value → Shared → Prop}
end
end L2

namespace Att
open PySem PySem.W PySem.Calls PyProof.Rows

/-! ### the script -/
theorem ints_of_wellAll {P : Params} {h : Heap} : ∀ (ns : List Int) (vs : List Value), WellAll P h vs (ns.map WData.int) → IntsAre vs ns := by
  intro ns
  induction ns with
  | nil =>
    intro vs w
    rw [List.map_nil] at w
    cases w
    exact .nil
  | cons n ns ih =>
    intro vs w
    rw [List.map_cons] at w
    cases w with
    | cons a b =>
      cases a
      exact .cons _ _ (ih _ b)

theorem script_of {l : OpenLaw} {n : Nat} (hn : l.most = some n) {P : Params} {h : Heap} {args : List WData} {vals : List Value}
    (hpre : l.row.toRowW.claim.pre args = true) (hwl : WellAll P h vals args) :
    ∃ a vs ns, vals = [Value.ref a] ∧ args = [WData.list (ns.map WData.int)] ∧ h.get? a = some { cls := .type "list", data := .seq vs.toArray } ∧ IntsAre vs ns ∧ ns.length ≤ n := by
  have hsh : WShape.hasAll [] args [.list .int] = true := (pre_splitW hpre).1
  have hc : l.pre.holds [] { args := args } = true := (pre_splitW hpre).2
  obtain ⟨d, r, rfl, h1, h2⟩ := hasAllW_cons hsh
  obtain rfl := hasAllW_nil h2
  obtain ⟨xs, rfl, h3⟩ := hasW_list h1
  obtain ⟨ns, rfl⟩ := items_int h3
  have hlen : ns.length ≤ n := by
    unfold OpenLaw.pre at hc
    have h4 : (WTm.not (.lt (.lit (.int (n : Int))) (.len (.arg 0)))).holds [] { args := [.list (ns.map .int)] } = true := by
      have h4 := (holds_andW hc).1
      rw [hn] at h4
      exact h4
    have h5 := condW_of h4 (w_not (w_lt w_lit (w_len_list (w_arg rfl))))
    rw [List.length_map] at h5
    refine Nat.le_of_not_lt fun q => ?_
    have q' : (n : Int) < ((ns.length : Nat) : Int) := by omega
    first
      | (rw [decide_eq_true q'] at h5; exact absurd h5 (by decide))
      | (simp at h5; omega)
  cases hwl with
  | cons w1 w2 =>
    cases w2
    cases w1 with
    | list ho hall => exact ⟨_, _, ns, rfl, rfl, ho, ints_of_wellAll ns _ hall, hlen⟩

theorem post_true (l : OpenLaw) (args : List WData) : l.row.toRowW.claim.post args (.bool true) args = true :=
  postW_of (r := l.row.toRowW) (X := (true == true))
    (show WShape.has [] (.bool true) .bool = true by first | rfl | decide | simp [WShape.has, WShape.arms, WShape.armsAll])
    (show (WTm.eq .res (.lit (.bool true))).value [] { args := args, res := some (.bool true), after := args } = some (.bool (true == true)) from w_eq_bool (w_res rfl) w_lit) rfl

/-! ### the attachment: holds_open's last premise (the goal 'hc' behind k_head) from a wpAny of the law's body -/
/-- the same from a codeAny of the CALL (for a layer whose function contracts speak of calls) -/
theorem attach_call {l : OpenLaw} {n : Nat} {q : Program} {loose : List Str} {XP : (Str → Option Value) → Heap → Prop} {YP : World → Heap → Prop} {d : DefRec}
    (hn : l.most = some n) (hdf : d.params.defaults = [])
    (call : ∀ (w : World) (s₀ s₁ : Shared) (mg mb : Str → Option Value) (fa : Addr) (o : Obj) (pm cd doc : Value) (a : Addr) (vs : List Value) (ns : List Int),
      Ground q loose [] XP w s₀ mg mb s₁.heap → YP w s₁.heap →
      s₁.heap.get? fa = some o → o.data = .func (docDef d.name d.params d.body d.scope pm cd doc) → s₁.heap.CodeRec cd d.name → mg d.name = some (.ref fa) →
      s₁.heap.get? a = some { cls := .type "list", data := .seq vs.toArray } → IntsAre vs ns → ns.length ≤ n → s₁.gens = #[] →
      codeAny (model l.prog w) callerA (.call (.ref fa) ⟨[.ref a], []⟩) (fun r s' => r = .ok (.ret (.bool true)) ∧ OldK s₁.heap s'.heap ∧ s'.os = s₁.os ∧ AllBare s'.gens) s₁) :
    WalkO q loose XP YP l.row.toRowW d [] (fun f vs => PySem.call f vs) := by
  intro w s₀ s₁ mg mb G Y fa o pm cd doc dV kV ho hd hcd hD hmg hg args vals as hpre hlay hrd hwl hlo
  obtain rfl : dV = .none := Dflts.none hD hdf
  obtain rfl : kV = .none := Dflts.noKw hD
  obtain ⟨a, vs, ns, rfl, rfl, hobj, hints, hlen⟩ := script_of hn hpre hwl
  refine enter_call (codeAny_mono (call w s₀ s₁ mg mb fa o pm cd doc a vs ns G Y ho (fd_plain hd) hcd hmg hobj hints hlen hg) fun r s' hq => ?_)
  obtain ⟨rfl, h2, h3, h4⟩ := hq
  exact ⟨.inl ⟨.bool true, .bool true, [], rfl, fun _ => rfl, .bool true, post_true l _, fun _ => ⟨List.Pairwise.nil, fun _ hm => (nomatch hm)⟩⟩, h2, h3, h4⟩

/-! ### rules over ANY heap (no ledger) from facts about the written part K: the library's own take a ledger (News) for what they write -/
section
variable {prog : Program} {w : World} {A : Around} {E : Value → Shared → Prop} {s : Shared} {K : Frag}

/-! the whole heap as the ledger: makes every rule that writes through a ledger a rule over any heap -/
end
end Att

namespace L2
open PySem PySem.Spec PyProof.Rows

theorem vals_ints : ∀ {vs : List Value} {ns : List Int}, IntsAre vs ns → Vals (ns.map V.int) vs
  | _, _, .nil => .nil
  | _, _, .cons n t h => .cons ⟨t, rfl⟩ (vals_ints h)

end L2

namespace L2
open PySem PySem.Spec PyProof.Rows

end L2

/- THE LAST THEOREM (shape; LID, My.* are yours):
   My.Adr: a structure of the addresses that your layer names (classes, functions); My.Txt K t: a structure (Prop) of the equations over K;
   My.txt_mk : {K} {implicit addresses ..} (e1 : nsIn K mainGlobals "law" = some (some (.ref f))) (e2 : K.lookup f = some ⟨oc, od, .func (fnOf "law" "law" params body scope dV kV doc pm an cdv ct), sl⟩) (e3 : codeIn K cdv "law" = true) .. : ∃ t, My.Txt K t

set_option maxRecDepth 100000 in
set_option maxHeartbeats 0 in
theorem PySem.Challenge.cw_LID_holds : PySem.Challenge.rw_LID.Holds := by
  w_on; o_law; k_head; (case hw => w_witness2)
  k_fill
  refine L2.walk_of (l := PySem.Challenge.rw_LID) (n := 63) (k := 40) (x := "script") (CX := fun w => ..) (sp := fun _ => My.sp_law) rfl (by decide) rfl ⟨rfl, by decide, by decide⟩ (fun w h Y => PySem.W.kIn_of Y) ?F ?S ?C
  case F =>
    intro w mg fa h KX G hmg
    have T : ∃ t, My.Txt (L2.KOf KX) t := by
      dsimp only [L2.KOf]                          -- K must stand as «<heap const> w.params» for k_is
      refine' My.txt_mk ?e1 ?e2 ?e3 ..
      (case e1 => PySem.W.k_is)                    -- in the order: a name -> its address -> its object -> its parts
      (case e2 => PySem.W.k_is)
      ..
    obtain ⟨t, T⟩ := T
    have e0 := hmg.symm.trans (PySem.W.mg_of KX G T.law)
    cases e0                                       -- fa is the law's own address
    exact ⟨_, fun s u => .of_eq rfl, fun base kb nb => My.law_fn T kb nb⟩     -- if «.of_eq rfl» comes too early: refine' ⟨_, ?b, fun base kb nb => My.law_fn T kb nb⟩; exact fun s u => .of_eq rfl
  case S => exact fun w H a ns hl hO hS => ..
  case C => exact ..
(the tactic k_is has no namespace: write k_is) -/

/-! SHORT WORDS over the layer: a def of the text, its body, what a loop and a test want. -/
namespace L2
open PySem PySem.Spec PyProof.Rows

/-! ### the text by places -/
/-- the j-th statement of a class's body -/
def inClass (s : Stmt) (j : Nat) : Stmt := match s with
  | .ClassDef _ _ _ body _ _ _ _ _ _ _ => body.getD j (.Pass ⟨0, 0, 0, 0⟩)
  | _ => .Pass ⟨0, 0, 0, 0⟩
def defArgs (s : Stmt) : Arguments := match s with
  | .FunctionDef _ a _ _ _ _ _ _ _ _ => a
  | _ => { posonlyargs := [], args := [], vararg := none, kwonlyargs := [], kw_defaults := [], kwarg := none, defaults := [] }
def defBody (s : Stmt) : List Stmt := match s with
  | .FunctionDef _ _ b _ _ _ _ _ _ _ => b
  | _ => []
def defScope (s : Stmt) : Scope := match s with
  | .FunctionDef _ _ _ _ _ _ sc _ _ _ => sc
  | _ => { kind := .function, names := [], isGenerator := false, isCoroutine := false }

/-! ### no exception leaves a def -/
abbrev CX0 : CXT := fun _ _ _ _ _ _ => False
abbrev E0 : XK := fun _ _ _ => False
theorem pass0 {X : Cx} : Passes CX0 X E0 := fun _ _ _ _ _ _ _ h => h.elim

/-! ### a def (or method) of the text as it stands behind the top -/
structure Fun (K : PySem.W.Frag) (x qual : Str) (st : Stmt) (f : Addr) (fd : FuncData) : Prop where
  ex : ∃ (oc : Value) (od : Option Addr) (kV doc pm : Value) (an : Option Addr) (cdv ct : Value) (osl : Array (Option Value)),
    fd = PySem.W.fnOf x qual (defArgs st) (defBody st) (defScope st) .none kV doc pm an cdv ct ∧ K.lookup f = some ⟨oc, od, .func fd, osl⟩ ∧ PySem.W.codeIn K cdv qual = true
  kp : PySem.W.keepIn K (.ref f) = true
section
variable {P : Program} {w : World} {K : PySem.W.Frag} {mg : Str → Option Value} {base : Heap}
/-- THE RULE for a def: its body as a term of rules, and the reading of that term -/
theorem Fun.ok {x qual : Str} {st : Stmt} {f : Addr} {fd : FuncData} {N ps : List Str} {k : Nat} {sp : Sp} (F : Fun K x qual st f fd) (S : FnScope N ps (defScope st)) (len : ∀ vs H Q E, sp vs H Q E → vs.length = ps.length)
    (hbody : ∀ (cdv : Value) (A : Around) (outer : List Env) (s : Shared) (H : Hp) (vs : List V) (Q : VK) (E : XK), Room k (A.deeper (envOfC qual (defScope st) s.heap.objs.size f cdv)) → sp vs H Q E →
      ∃ t, PSs (cxOf CX0 P w K mg base N qual (defScope st) f cdv A outer s H E).nox (defBody st) t ∧ t { nx := fun _ H' => Q .non H', rt := Q } (start N vs) H) : FnOk P w K mg base CX0 (k + 1) f fd ps sp := by
  obtain ⟨oc, od, kV, doc, pm, an, cdv, ct, osl, rfl, lk, hcd⟩ := F.ex
  refine fn_of lk hcd S len fun A outer s H vs Q E hr hsp => ?_
  obtain ⟨t, h, q⟩ := hbody cdv A outer s H vs Q E hr hsp
  exact ⟨t, h.nox, q⟩
/-- how its arguments bind (no defaults): h is «fun _ _ _ _ _ _ us hl => match us, hl with | [_, _], _ => rfl», one _ a parameter -/
theorem Fun.binds {x qual : Str} {st : Stmt} {f : Addr} {fd : FuncData} {ps : List Str} (F : Fun K x qual st f fd)
    (h : ∀ (kV doc pm : Value) (an : Option Addr) (cdv ct : Value) (us : List Value), us.length = ps.length → bindArgs (PySem.W.fnOf x qual (defArgs st) (defBody st) (defScope st) .none kV doc pm an cdv ct) ⟨us, []⟩ = pure (ps.zip us)) : Binds K fd ps [] := by
  obtain ⟨oc, od, kV, doc, pm, an, cdv, ct, osl, rfl, lk, hcd⟩ := F.ex
  exact .all (h kV doc pm an cdv ct)
theorem fun_mk {x qual : Str} {st : Stmt} {f : Addr} {oc : Value} {od an : Option Addr} {osl : Array (Option Value)} {kV doc pm cdv ct : Value} (l : K.lookup f = some ⟨oc, od, .func (PySem.W.fnOf x qual (defArgs st) (defBody st) (defScope st) .none kV doc pm an cdv ct), osl⟩)
    (c : PySem.W.codeIn K cdv qual = true) (k : PySem.W.keepIn K (.ref f) = true) : Fun K x qual st f (PySem.W.fnOf x qual (defArgs st) (defBody st) (defScope st) .none kV doc pm an cdv ct) := ⟨⟨oc, od, kV, doc, pm, an, cdv, ct, osl, rfl, l, c⟩, k⟩
end
theorem hu_of {A : Around} {k : Nat} (hr : Room k A) : A.units + 1 < cLine := Nat.lt_of_le_of_lt (Nat.add_le_add_left (by decide : 1 ≤ 64) _) hr.units
theorem small1000 {n : Nat} (h : n ≤ 1000) : n < sizeLine := Nat.lt_of_le_of_lt h (by decide)

/-! ### expressions in short: the name that stands in the i-th slot -/
section
variable {X : Cx}
theorem pv (i : Nat) {x : Str} {pos : Pos} (hN : X.N[i]? = some x := by rfl) (hv : Vis X.env.scope x := by first | exact Or.inl rfl | exact Or.inr (Or.inl rfl) | exact Or.inr (Or.inr rfl)) (hd : (x == ("__debug__" : Str)) = false := by decide)
    (hcd : (x == ("__classdict__" : Str)) = false := by decide) : PE X (.Name x pos) (tVar i) := pe_var hN hv hd hcd
end

/-! ### tests -/
theorem iteF {A B : Prop} (h : B) : if false = true then A else B := by
  rw [if_neg Bool.false_ne_true]
  exact h
theorem iteT {A B : Prop} (h : A) : if true = true then A else B := by
  rw [if_pos rfl]
  exact h
theorem ite2 {c A B : Prop} [Decidable c] (h1 : c → A) (h2 : ¬ c → B) : if c then A else B := by
  by_cases h : c
  · rw [if_pos h]
    exact h1 h
  · rw [if_neg h]
    exact h2 h
theorem iteNS {c A B : Prop} [Decidable c] (hc : c) (h : B) : if (!decide c) = true then A else B := by
  rw [decide_eq_true hc]
  exact iteF h

/-! ### heaps -/
/-- all that was tracked is as it was -/
def Same (H H' : Hp) : Prop := ∀ b o, H b = some o → H' b = some o
theorem Same.refl (H : Hp) : Same H H := fun _ _ h => h
theorem Same.trans {H H1 H2 : Hp} (a : Same H H1) (b : Same H1 H2) : Same H H2 := fun c o h => b c o (a c o h)
theorem Same.free {H H' : Hp} (e : Same H H') {l : Addr} (h : H' l = Option.none) : H l = Option.none := by
  cases q : H l with
  | none => rfl
  | some o =>
    rw [e l o q] at h
    cases h
theorem Same.seq {K : PySem.W.Frag} {H H' : Hp} {a : Addr} {xs : List V} (e : Same H H') (h : SqL K H a xs) : SqL K H' a xs := by
  rcases h with (h | ⟨o, h⟩) | h
  · exact .inl (.inl (e _ _ h))
  · exact .inl (.inr ⟨o, e _ _ h⟩)
  · exact .inr h

section
variable {X : Cx}
end

/-! ### a dict's pairs: keys that differ -/
section
variable {κ : Type} [DecidableEq κ]
end
end L2


set_option Elab.async false
set_option linter.all false
set_option maxRecDepth 100000
set_option maxHeartbeats 4000000
/-! A list comprehension of one clause: its block as a context of the layer. -/
namespace L2
open PySem PySem.Spec PyProof.Rows

/-- the context in which a comprehension's block runs -/
def lcx (X : Cx) (sc : Scope) (N : List Str) (cl : List (Str × Addr)) (C : Addr) (fp : List Addr) (s : Shared) (H : Hp) : Cx :=
  { prog := X.prog, w := X.w, K := X.K, mg := X.mg, base := X.base, A := X.A, N := N, s₀ := s, H₀ := H, env := compEnvC sc cl C X.env,
    outer := X.stack, stack := X.stack, ex := fp, fn := fun x => sc.names.lookup x == some .cell, calm := X.calm, pn := [], xe := fun _ _ => False }

/-- its slots: its own names (unbound), then the captured ones, by their places outside -/
def lcSt (own : List Str) (ix : List Nat) (σ : St) : St := own.map (fun _ => none) ++ ix.map fun i => σ.getD i none

structure LcOk (X : Cx) (sc : Scope) (N own : List Str) (ix : List Nat) : Prop where
  kind : sc.kind = .function
  cellN : ∀ y ∈ sc.names, y.2 = .cell → sc.names.lookup y.1 = some .cell
  names : ∀ y ∈ sc.names, y.2 = .local → sc.names.lookup y.1 = some .local
  free : ∀ y ∈ sc.names, y.2 = .free → X.env.kindOf y.1 = some .cell ∨ X.env.kindOf y.1 = some .free
  NN : N = own ++ ix.map fun i => X.N.getD i ""
  cap : ∀ i ∈ ix, sc.names.lookup (X.N.getD i "") = some .free

theorem lookup_relabel (sc : Scope) (env : Env) (x : Str) : (relabel sc env).names.lookup x =
    (sc.names.lookup x).map fun k => if (k == .free && env.scope.kind == .function && env.kindOf x == some .cell) then .cell else k := by
  unfold relabel
  dsimp only
  generalize sc.names = ns
  induction ns with
  | nil => rfl
  | cons p r ih =>
    obtain ⟨n, k⟩ := p
    rw [List.map_cons]
    by_cases hx : (x == n) = true
    · have e : x = n := by simpa using hx
      subst e
      by_cases hc : (k == NameKind.free && env.scope.kind == .function && env.kindOf x == some .cell) = true
      · rw [if_pos hc]; simp only [List.lookup_cons, hx]; rw [Option.map_some, if_pos hc]
      · rw [if_neg hc]; simp only [List.lookup_cons, hx]; rw [Option.map_some, if_neg hc]
    · have hx' : (x == n) = false := by simpa using hx
      by_cases hc : (k == NameKind.free && env.scope.kind == .function && env.kindOf n == some .cell) = true
      · rw [if_pos hc]; simp only [List.lookup_cons, hx']; exact ih
      · rw [if_neg hc]; simp only [List.lookup_cons, hx']; exact ih

theorem mem_of_lookup {α β : Type} [BEq α] [LawfulBEq α] {x : α} {v : β} : ∀ {l : List (α × β)}, l.lookup x = some v → (x, v) ∈ l
  | [], h => by simp at h
  | (a, b) :: r, h => by
    by_cases e : (x == a) = true
    · simp only [List.lookup_cons, e] at h
      cases h
      have e : x = a := by simpa using e
      subst e
      exact List.mem_cons_self
    · have e' : (x == a) = false := by simpa using e
      simp only [List.lookup_cons, e'] at h
      exact List.mem_cons_of_mem _ (mem_of_lookup h)

theorem clos_go {env : Env} : ∀ (ns : List (Str × NameKind)) (acc : List (Str × Addr)), (∀ x ∈ ns, x.2 = .free → ∃ c, env.cells.lookup x.1 = some c) → (∀ n c, acc.lookup n = some c → env.cells.lookup n = some c) →
    ∃ cl, (forIn ns acc fun (x : Str × NameKind) (r : List (Str × Addr)) => if (x.2 == NameKind.free) = true then (cellOf env x.1 >>= fun c => (pure (ForInStep.yield ((x.1, c) :: r)) : Sem _)) else (pure (ForInStep.yield r) : Sem _)) = (pure cl : Sem _) ∧
      (∀ n c, cl.lookup n = some c → env.cells.lookup n = some c) ∧ (∀ n c, acc.lookup n = some c → ∃ c', cl.lookup n = some c') ∧ ∀ x ∈ ns, x.2 = .free → ∃ c, cl.lookup x.1 = some c := by
  intro ns
  induction ns with
  | nil => intro acc _ ha; exact ⟨acc, by rw [List.forIn_nil], ha, fun n c e => ⟨c, e⟩, fun _ h => by simp at h⟩
  | cons p r ih =>
    intro acc hn ha
    rw [List.forIn_cons]
    by_cases hk : (p.2 == NameKind.free) = true
    · obtain ⟨c, hc⟩ := hn p List.mem_cons_self (by simpa using hk)
      obtain ⟨cl, e, h1, h2, h3⟩ := ih ((p.1, c) :: acc) (fun x hx => hn x (List.mem_cons_of_mem _ hx)) (fun n c' e => by
        by_cases z : (n == p.1) = true
        · simp only [List.lookup_cons, z] at e
          cases e
          have z : n = p.1 := by simpa using z
          rw [z]; exact hc
        · have z' : (n == p.1) = false := by simpa using z
          simp only [List.lookup_cons, z'] at e
          exact ha n c' e)
      have h2' : ∃ c', cl.lookup p.1 = some c' := h2 p.1 c (by simp [List.lookup_cons])
      refine ⟨cl, ?_, h1, fun n c' e' => ?_, fun x hx hf => ?_⟩
      · rw [if_pos hk]
        have : cellOf env p.1 = (pure c : Sem Addr) := by unfold cellOf; rw [hc]
        rw [this]
        simp only [pure_bind]
        exact e
      · by_cases z : (n == p.1) = true
        · have z : n = p.1 := by simpa using z
          rw [z]; exact h2'
        · have z' : (n == p.1) = false := by simpa using z
          exact h2 n c' (by simp only [List.lookup_cons, z']; exact e')
      · rcases List.mem_cons.mp hx with z | z
        · rw [z]; exact h2'
        · exact h3 x z hf
    · obtain ⟨cl, e, h1, h2, h3⟩ := ih acc (fun x hx => hn x (List.mem_cons_of_mem _ hx)) ha
      refine ⟨cl, ?_, h1, h2, fun x hx hf => ?_⟩
      · rw [if_neg hk]
        simp only [pure_bind]
        exact e
      · rcases List.mem_cons.mp hx with z | z
        · rw [z] at hf; exact absurd (by simpa using hf) hk
        · exact h3 x z hf
theorem clos_ok {env : Env} {sc : Scope} (h : ∀ x ∈ sc.names, x.2 = .free → ∃ c, env.cells.lookup x.1 = some c) : ∃ cl, closureFor sc env = pure cl ∧ (∀ n c, cl.lookup n = some c → env.cells.lookup n = some c) ∧ ∀ x ∈ sc.names, x.2 = .free → ∃ c, cl.lookup x.1 = some c := by
  obtain ⟨cl, e, h1, _, h3⟩ := clos_go sc.names [] h (fun _ _ e => by simp at e)
  refine ⟨cl, ?_, h1, h3⟩
  unfold closureFor
  dsimp only
  refine Eq.trans ?_ (Eq.trans (congrArg (fun m => m >>= fun r => (pure r : Sem _)) e) ?_)
  · rfl
  · simp only [pure_bind]
/-! ### cells of the block's own -/
theorem cellsFrom_app : ∀ (names : List (Str × NameKind)) (n : Nat) (acc : List (Str × Addr)), cellsFrom n names acc = cellsFrom n names [] ++ acc
  | [], _, _ => rfl
  | (x, k) :: r, n, acc => by
    unfold cellsFrom
    split
    · rw [cellsFrom_app r (n + 1) ((x, n) :: acc), cellsFrom_app r (n + 1) [(x, n)], List.append_assoc]; rfl
    · exact cellsFrom_app r n acc
theorem cellsFrom_kind : ∀ (names : List (Str × NameKind)) (n : Nat) (acc : List (Str × Addr)) (x : Str) (c : Addr), (x, c) ∈ cellsFrom n names acc → (x, c) ∈ acc ∨ (x, NameKind.cell) ∈ names
  | [], _, _, _, _, h => .inl h
  | (y, k) :: r, n, acc, x, c, h => by
    unfold cellsFrom at h
    split at h
    · rename_i hk
      rcases cellsFrom_kind r (n + 1) _ x c h with z | z
      · rcases List.mem_cons.mp z with e | z
        · cases e
          have : k = .cell := by simpa using hk
          subst this
          exact .inr List.mem_cons_self
        · exact .inl z
      · exact .inr (List.mem_cons_of_mem _ z)
    · rcases cellsFrom_kind r n _ x c h with z | z
      · exact .inl z
      · exact .inr (List.mem_cons_of_mem _ z)
theorem lookup_some_of_mem {α : Type} : ∀ {l : List (Str × α)} {x : Str} {c : α}, (x, c) ∈ l → ∃ c', l.lookup x = some c'
  | (y, v) :: r, x, c, h => by
    rw [List.lookup_cons]
    cases hb : x == y with
    | true => exact ⟨v, rfl⟩
    | false =>
      rcases List.mem_cons.mp h with e | h
      · cases e; simp at hb
      · exact lookup_some_of_mem h
theorem cellsFrom_has : ∀ (names : List (Str × NameKind)) (n : Nat) (acc : List (Str × Addr)) (x : Str), (x, NameKind.cell) ∈ names ∨ (∃ c, (x, c) ∈ acc) → ∃ c, (x, c) ∈ cellsFrom n names acc
  | [], _, _, _, h => by
    rcases h with z | z
    · simp at z
    · exact z
  | (y, k) :: r, n, acc, x, h => by
    unfold cellsFrom
    split
    · refine cellsFrom_has r (n + 1) _ x ?_
      rcases h with z | ⟨c, z⟩
      · rcases List.mem_cons.mp z with e | z
        · cases e; exact .inr ⟨n, List.mem_cons_self⟩
        · exact .inl z
      · exact .inr ⟨c, List.mem_cons_of_mem _ z⟩
    · rename_i hk
      refine cellsFrom_has r n _ x ?_
      rcases h with z | z
      · rcases List.mem_cons.mp z with e | z
        · cases e; simp at hk
        · exact .inl z
      · exact .inr z
theorem lookup_app {α : Type} {l r : List (Str × α)} {x : Str} : (l ++ r).lookup x = match l.lookup x with | some c => some c | none => r.lookup x := by
  induction l with
  | nil => rfl
  | cons p q ih =>
    obtain ⟨y, v⟩ := p
    rw [List.cons_append, List.lookup_cons, List.lookup_cons]
    cases hb : x == y with
    | true => rfl
    | false => exact ih
/-- the block's cells: own ones, then the captured -/
structure CsOk (X : Cx) (sc : Scope) (cs : List (Str × Addr)) (C : Addr) (h1 : Heap) : Prop where
  all : ∀ n c, cs.lookup n = some c → (C < c ∧ h1.IsCell c none) ∨ X.env.cells.lookup n = some c
  inj : ∀ x y c, C < c → cs.lookup x = some c → cs.lookup y = some c → x = y
  free : ∀ n, sc.names.lookup n = some .free → ∃ c, cs.lookup n = some c ∧ X.env.cells.lookup n = some c
  own : ∀ n, sc.names.lookup n = some .cell → ∃ c, cs.lookup n = some c
  ab : ∀ n c, sc.names.lookup n = some .cell → cs.lookup n = some c → C < c
section
variable {X : Cx} {sc : Scope} {N own : List Str} {ix : List Nat} {cs cl : List (Str × Addr)} {C : Addr} {fp : List Addr} {pins : List (Addr × Obj)} {σ : St} {H : Hp} {s : Shared}
theorem cs_ok {h : Heap} (L : LcOk X sc N own ix) (I : Inv X pins σ H s) (c1 : ∀ n c, cl.lookup n = some c → X.env.cells.lookup n = some c) (c2 : ∀ x ∈ sc.names, x.2 = .free → ∃ c, cl.lookup x.1 = some c)
    (hC : s.heap.objs.size ≤ C) (hz : h.objs.size = C + 1) : CsOk X sc (cellsFrom (C + 1) sc.names cl) C (pushCells h sc.names) := by
  have ok := cellsFrom_ok sc.names h (C + 1) [] ⟨fun _ _ hm => (nomatch hm), List.Pairwise.nil⟩ (by rw [hz]; exact Nat.le_refl _)
  rw [hz] at ok
  rw [cellsFrom_app]
  have old : ∀ n c, cl.lookup n = some c → c < s.heap.objs.size := fun n c e => by obtain ⟨v, z⟩ := I.cell n c (c1 n c e); exact z.lt
  have kin : ∀ n c, (cellsFrom (C + 1) sc.names []).lookup n = some c → sc.names.lookup n = some .cell := fun n c e => by
    rcases cellsFrom_kind _ _ _ _ _ (mem_of_lookup e) with z | z
    · simp at z
    · exact L.cellN _ z rfl
  refine ⟨fun n c e => ?_, fun x y c hc e1 e2 => ?_, fun n e => ?_, fun n e => ?_, fun n c e1 e2 => ?_⟩
  · rw [lookup_app] at e
    cases z : (cellsFrom (C + 1) sc.names []).lookup n with
    | some c' =>
      rw [z] at e; cases e
      obtain ⟨a, b⟩ := ok.empty n c (mem_of_lookup z)
      exact .inl ⟨b, a⟩
    | none => rw [z] at e; exact .inr (c1 n c e)
  · have own1 : ∀ n, ((cellsFrom (C + 1) sc.names []) ++ cl).lookup n = some c → (n, c) ∈ cellsFrom (C + 1) sc.names [] := fun n e => by
      rw [lookup_app] at e
      cases z : (cellsFrom (C + 1) sc.names []).lookup n with
      | some c' => rw [z] at e; cases e; exact mem_of_lookup z
      | none => rw [z] at e; exact absurd (Nat.lt_of_lt_of_le (old n c e) hC) (Nat.not_lt.mpr (Nat.le_of_lt hc))
    exact name_of_addr ok.apart (own1 x e1) (own1 y e2)
  · have hf := mem_of_lookup e
    obtain ⟨c, hc⟩ := c2 _ hf rfl
    refine ⟨c, ?_, c1 n c hc⟩
    rw [lookup_app]
    cases z : (cellsFrom (C + 1) sc.names []).lookup n with
    | some c' => have := kin n c' z; rw [e] at this; cases this
    | none => exact hc
  · obtain ⟨c, hc⟩ := cellsFrom_has sc.names (C + 1) [] n (.inl (mem_of_lookup e))
    obtain ⟨c', hc'⟩ := lookup_some_of_mem hc
    exact ⟨c', by rw [lookup_app, hc']⟩
  · obtain ⟨c', hc⟩ := cellsFrom_has sc.names (C + 1) [] n (.inl (mem_of_lookup e1))
    obtain ⟨c'', hc'⟩ := lookup_some_of_mem hc
    rw [lookup_app, hc'] at e2
    cases e2
    exact (ok.empty n _ (mem_of_lookup hc')).2
theorem kind_rel {x : Str} (h : (relabel sc X.env).names.lookup x = some .cell ∨ (relabel sc X.env).names.lookup x = some .free) : sc.names.lookup x = some .cell ∨ sc.names.lookup x = some .free := by
  rw [lookup_relabel] at h
  cases e : sc.names.lookup x with
  | none => rw [e] at h; simp at h
  | some k =>
    rw [e] at h
    simp only [Option.map_some, Option.some.injEq] at h
    by_cases hk : k = .free
    · rw [hk]; exact .inr rfl
    · have hk' : (k == NameKind.free) = false := by simpa using hk
      simp only [hk', Bool.false_and] at h
      rcases h with h | h
      · left; simpa using h
      · exact absurd h hk
theorem CsOk.lt {h1 : Heap} (c : CsOk X sc cs C h1) (I : Inv X pins σ H s) {n : Str} {a : Addr} (e : cs.lookup n = some a) : (C < a ∧ h1.IsCell a none) ∨ (X.env.cells.lookup n = some a ∧ a < s.heap.objs.size) := by
  rcases c.all n a e with z | z
  · exact .inl z
  · obtain ⟨v, y⟩ := I.cell n a z; exact .inr ⟨z, y.lt⟩
theorem lc_ok {h1 : Heap} (L : LcOk X sc N own ix) (I : Inv X pins σ H s) (c : CsOk X sc cs C h1)
    (hC : s.heap.objs.size ≤ C) (hf : ∀ b ∈ fp, FpOk X pins H b) (hb : ∀ b ∈ fp, b < s.heap.objs.size) : (lcx X sc N cs C fp s H).Ok where
  mod := I.ok.mod
  kind := L.kind
  glob := I.ok.glob
  blt := I.ok.blt
  above := hC
  inj := fun x y a e1 e2 => by
    rcases c.lt I e1 with z | ⟨z, zl⟩
    · exact c.inj x y a z.1 e1 e2
    · rcases c.lt I e2 with z' | ⟨z', _⟩
      · exact absurd (Nat.lt_of_lt_of_le zl hC) (Nat.not_lt.mpr (Nat.le_of_lt z'.1))
      · exact I.ok.inj x y a z z'
  has := fun x h => by
    rcases kind_rel h with z | z
    · exact c.own x z
    · obtain ⟨a, e, _⟩ := c.free x z; exact ⟨a, e⟩
  cab := fun x a h e => by
    have h : sc.names.lookup x = some .cell := by simpa [lcx] using h
    exact Nat.le_trans hC (Nat.le_of_lt (c.ab x a h e))
  hd := I.ok.hd
  frames := I.ok.frames
  stk := .inl rfl
  exf := fun b h => ⟨Nat.ne_of_lt (Nat.lt_of_lt_of_le (hb b h) hC), fun x a e => by
    rcases c.lt I e with z | ⟨z, _⟩
    · exact Nat.ne_of_gt (Nat.lt_trans (Nat.lt_of_lt_of_le (hb b h) hC) z.1)
    · exact (hf b h).2.2.2.2.1 x a z⟩
  bs := I.bs
  bsz := Nat.le_trans I.ok.bsz I.sz
  noex := fun b o e h => by
    rcases (hf b h).2.2.2.1 with z | z
    · exact I.ok.noex b o e z
    · exact absurd (Nat.lt_of_lt_of_le (Heap.lt_size e) (Nat.le_trans I.ok.bsz z)) (Nat.lt_irrefl _)
  exfs := fun b h z => by
    rcases List.mem_cons.mp (I.stkSub b z) with e | e
    · exact (hf b h).2.1 e
    · exact (hf b h).2.2.1 e
  funs := I.stack
  frf := I.stkFree
/-- behind the block: what changed at C alone is nothing to the outer context -/
theorem hok_but {P : Program} {w : World} {H' : Hp} {h h' : Heap} {C : Addr} (hok : HOk P w H' h) (hn : H' C = none) (sb : Heap.SameBut C h h') : HOk P w H' h' := fun b o e => by
  have ne : ∀ b u, H' b = some u → b ≠ C := fun b u e z => by rw [z, hn] at e; cases e
  refine (hok b o e).stay (fun c v hc q => ?_) (fun _ q => q) fun _ _ q => q
  have hcC : c ≠ C := by
    rcases hc with z | z
    · rw [z]; exact ne b o e
    · exact ne c _ z
  rw [sb.2 c hcC]; exact q
theorem lc_back {σ' : St} {H' : Hp} {s' : Shared} {pl : List (Addr × Obj)} (I : Inv X pins σ H s) (I' : Inv (lcx X sc N cs C fp s H) pl σ' H' s') (hf : ∀ b ∈ fp, FpOk X pins H b) {h' : Heap} (sb : Heap.SameBut C s'.heap h') :
    Inv X pins σ H' { s' with heap := h' } := by
  have u := I'.base
  have hC : ∀ b o, s.heap.get? b = some o → b ≠ C := fun b o e => Nat.ne_of_lt (Nat.lt_of_lt_of_le (Heap.lt_size e) I'.ok.above)
  refine I.call' (s' := { s' with heap := h' }) (ch := fp) I'.os ?_ (hok_but I'.hok I'.free sb) I'.bare fun b hb => ?_
  · refine ⟨fun b o e n h1 h2 => ?_, fun b o e n h1 h2 => ?_, u.free, fun b o e h2 => ?_, u.tups, u.frzs, u.tbls⟩
    · rw [sb.2 b (hC b o e)]; exact u.keep b o e n h1 h2
    · rw [sb.2 b (hC b o e)]; exact u.slot b o e n h1 h2
    · rw [sb.2 b (hC b o e)]; exact u.there b o e h2
  · obtain ⟨_, f1, _, f3, f4, f5⟩ := hf b hb
    exact ⟨f3, f1, f4, f5⟩
/-- the block's first state -/
theorem lc_start {h1 : Heap} {t' : Nat} {D : Addr} (L : LcOk X sc N own ix) (I : Inv X pins σ H s) (c : CsOk X sc cs C h1)
    (hC : s.heap.objs.size ≤ C) (hf : ∀ b ∈ fp, FpOk X pins H b) (hb : ∀ b ∈ fp, b < s.heap.objs.size) (hD : s.heap.objs.size ≤ D) (hDC : D < C)
    (old : ∀ b o, s.heap.get? b = some o → h1.get? b = some o) {m : Str → Option Value} (hn : h1.Ns C m) (hl : h1.get? D = some { cls := .type "list", data := .seq #[] }) :
    Inv (lcx X sc N cs C fp s H) [] (lcSt own ix σ) (upd H D (.lst [])) { s with heap := h1, toks := t' } := by
  have hDn : H D = none := I.hok.fresh hD
  have hCn : H C = none := I.hok.fresh hC
  have new : ∀ b o, s.heap.get? b = some o → b ≠ D := fun b o e => Nat.ne_of_lt (Nat.lt_of_lt_of_le (Heap.lt_size e) hD)
  have cells : ∀ x a, cs.lookup x = some a → H a = none ∧ a ≠ D ∧ ∃ v, h1.IsCell a v := fun x a e => by
    rcases c.lt I e with ⟨z1, z2⟩ | ⟨z, zl⟩
    · exact ⟨I.hok.fresh (Nat.le_trans hC (Nat.le_of_lt z1)), Nat.ne_of_gt (Nat.lt_trans hDC z1), none, z2⟩
    · obtain ⟨v, o, ho, hd⟩ := I.cell x a z
      exact ⟨I.freeC x a z, new a o ho, v, o, old a o ho, hd⟩
  refine ⟨lc_ok L I c hC hf hb, rfl, I.bare, (Un.laid old hD hDn : Un (frs X.stack) fp H (upd H D (.lst [])) s.heap h1), ⟨m, hn, fun i x v e1 e2 e3 => ?_⟩, fun x a e => (cells x a e).2.2, ?_, fun x a e => ?_, fun p hp => by simp [lcx] at hp, ?_, ?_⟩
  · -- a captured name
    have e1 : N[i]? = some x := e1
    have e2 : (lcSt own ix σ)[i]? = some (some v) := e2
    unfold lcSt at e2
    by_cases hi : i < own.length
    · rw [List.getElem?_append_left (by simpa using hi), List.getElem?_map] at e2
      cases z : own[i]? with
      | none => rw [z] at e2; simp at e2
      | some y => rw [z] at e2; simp at e2
    · have hi' : own.length ≤ i := Nat.le_of_not_lt hi
      rw [List.getElem?_append_right (by simpa using hi'), List.length_map, List.getElem?_map] at e2
      rw [L.NN, List.getElem?_append_right hi', List.getElem?_map] at e1
      cases z : ix[i - own.length]? with
      | none => rw [z] at e2; simp at e2
      | some j =>
        rw [z] at e1 e2
        simp only [Option.map_some, Option.some.injEq] at e1 e2
        have hj : σ[j]? = some (some v) := by
          rw [List.getD_eq_getElem?_getD] at e2
          cases q : σ[j]? with
          | none => rw [q] at e2; simp at e2
          | some y => rw [q] at e2; simp at e2; rw [e2]
        have hN : X.N[j]? = some x := by
          have hlt : j < X.N.length := by rw [← I.len]; exact (List.getElem?_eq_some_iff.mp hj).1
          rw [List.getD_eq_getElem?_getD, List.getElem?_eq_getElem hlt] at e1
          rw [List.getElem?_eq_getElem hlt, ← e1]; rfl
        have hcap : sc.names.lookup x = some .free := by rw [← e1]; exact L.cap j (List.mem_of_getElem? z)
        have hk := L.free _ (mem_of_lookup hcap) rfl
        obtain ⟨m0, hn0, hl0⟩ := I.loc
        obtain ⟨u, ru, lk⟩ := hl0 j x v hN hj (by rcases hk with k | k; exact .inr (.inl k); exact .inr (.inr k))
        refine ⟨u, ru, .inr ⟨?_, ?_⟩⟩
        · have q : (lcx X sc N cs C fp s H).env.kindOf x = (relabel sc X.env).names.lookup x := rfl
          rw [q, lookup_relabel, hcap, Option.map_some]
          by_cases hc : (NameKind.free == NameKind.free && X.env.scope.kind == .function && X.env.kindOf x == some .cell) = true
          · rw [if_pos hc]; exact .inl rfl
          · rw [if_neg hc]; exact .inr rfl
        · obtain ⟨a, ha, hx⟩ := c.free x hcap
          refine ⟨a, ha, ?_⟩
          rcases lk with ⟨k, _⟩ | ⟨_, a', e, z⟩
          · rcases hk with k' | k' <;> (have q := k.symm.trans k'; cases q)
          · have q := hx.symm.trans e
            cases q
            obtain ⟨o, ho, hd⟩ := z
            exact ⟨o, old a o ho, hd⟩
  · show upd H D (.lst []) C = none
    rw [upd_ne (Nat.ne_of_gt hDC)]; exact hCn
  · show upd H D (.lst []) a = none
    rw [upd_ne (cells x a e).2.1]; exact (cells x a e).1
  · exact I.hok.laid old hD ⟨by simp, [], 0, .nil, hl⟩
  · show (lcSt own ix σ).length = N.length
    rw [L.NN]; simp [lcSt]
end
section
variable {M : Model} {A : Around} {E : Value → Shared → Prop} {s : Shared}
theorem newEnv_lc {scope : Scope} {globals : Addr} {cl : List (Str × Addr)} {qual : Str} {func : Option Addr} {code : Value} {env : Env} {builtins : Addr} {Q : Env → Shared → Prop}
    (hQ : Q (newEnv scope s.heap.objs.size globals (cellsFrom (s.heap.objs.size + 1) scope.names cl) qual func code (some env) builtins) { s with heap := pushCells (s.heap.push { cls := .type "dict", data := .dict #[] }) scope.names }) :
    wpAny M A (newFunctionEnv scope globals cl [] qual func code (some env) builtins) Q E s := by
  simp only [newFunctionEnv, Option.isSome_some, if_true]
  refine wpAny_bind (wpAny_alloc ?_)
  refine wpAny_bind (wpAny_layCells _ (fun name kind cells => by cases hkc : kind == NameKind.cell <;> simp [hkc]) _ _ _ _ ?_)
  rw [show ({ s with heap := s.heap.push { cls := .type "dict", data := .dict #[] } } : Shared).heap.objs.size = s.heap.objs.size + 1 from Heap.size_push ..]
  rw [List.forIn_nil]
  exact wpAny_bind (wpAny_pure (wpAny_pure hQ))
end
/-! ### the loop of the block -/
def PTs (X : Cx) (ifs : List Expr) (t : TT) : Prop :=
  ∀ (pins : List (Addr × Obj)) (s : Shared) (σ : St) (H : Hp) (Q : Bool → Hp → Prop), Inv X pins σ H s → t σ H Q →
    wpAny (model X.prog X.w) X.A (forIn ifs true fun c r => if r = true then do let ok ← isTrue c X.env (eval c X.env); pure (ForInStep.yield ok) else pure (ForInStep.yield r)) (TP X pins σ Q) X.xe s
def tYes : TT := fun _ H Q => Q true H
theorem pts_nil {X : Cx} : PTs X [] tYes := fun _ _ _ H _ I q => wpAny_tests_nil ⟨H, I, q⟩
theorem pts_one {X : Cx} {c : Expr} {t : TT} (h : PT X c t) : PTs X [c] t := fun pins s σ H Q I q => wpAny_tests_one (h pins s σ H Q I q)

section
variable {prog : Program} {w : World} {A : Around} {R : Result → Shared → Prop} {s : Shared}
theorem codeAny_compLoop_go {elt target iter : Expr} {ifs : List Expr} {scope : Scope} {pos : Pos} {it acc : Value} {env : Env} (I : Nat → Shared → Prop)
    (turn : ∀ n s, I n s → wpAny (model prog w) A (pyNext it) (fun r s₁ => match r with
      | none => R (.ok .next) s₁
      | some v => wpAny (model prog w) A (letOwnedTupleGo target it v) (fun _ s₁' => wpAny (model prog w) A (assign target env v) (fun _ s₂ =>
          wpAny (model prog w) A (forIn ifs true fun c r => if r = true then do let ok ← isTrue c env (eval c env); pure (ForInStep.yield ok) else pure (ForInStep.yield r)) (fun ok s₃ =>
            if ok = true then wpAny (model prog w) A (eval elt env) (fun x s₄ =>
              wpAny (model prog w) A (call (.builtin "list.append") [acc, x]) (fun _ s₅ => ∃ m, m < n ∧ I m s₅) (notedBy (model prog w) A env fun e s' => R (.error e) s') s₄) (notedBy (model prog w) A env fun e s' => R (.error e) s') s₃
            else ∃ m, m < n ∧ I m s₃) (notedBy (model prog w) A env fun e s' => R (.error e) s') s₂) (notedBy (model prog w) A env fun e s' => R (.error e) s') s₁') (notedBy (model prog w) A env fun e s' => R (.error e) s') s₁) (notedBy (model prog w) A env fun e s' => R (.error e) s') s)
    (n : Nat) (h : I n s) :
    codeAny (model prog w) A (.compLoop (.ListComp elt [⟨target, iter, ifs, 0⟩] scope pos) 0 it acc env) R s := by
  refine codeAny_loop rfl I (fun n s hI => ?_) n h
  show wpAny _ A ((compTurn (.ListComp elt [⟨target, iter, ifs, 0⟩] scope pos) 0 it acc env).onRaise (fun x => do noteFrame x env; theTreesLotGoes x)) _ _ s
  refine wpAny_noted ?_
  rw [compTurn_list]
  refine wpAny_bind (wpAny_standAt (wpAny_bind (wpAny_mono (turn n s hI) (fun r s₁ h₁ => ?_) fun _ _ h' => h')))
  cases r with
  | none => exact wpAny_pure h₁
  | some v =>
    refine wpAny_bind (wpAny_mono h₁ (fun _ s₁' h₁' => ?_) fun _ _ h' => h')
    refine wpAny_bind (wpAny_mono h₁' (fun _ s₂ h₂ => wpAny_bind (wpAny_mono h₂ (fun ok s₃ h₃ => ?_) fun _ _ h' => h')) fun _ _ h' => h')
    cases ok with
    | false => exact wpAny_pure ⟨rfl, h₃⟩
    | true =>
      exact wpAny_bind (wpAny_bind (wpAny_mono h₃ (fun x s₄ h₄ => wpAny_bind (wpAny_mono h₄ (fun _ s₅ h₅ => wpAny_pure (wpAny_pure ⟨rfl, h₅⟩)) fun _ _ h' => h')) fun _ _ h' => h'))
end
/-- what the block's loop is to keep, and reach -/
def LcW (D : Addr) (J : It) (g : TG) (tc : TT) (te : TE) (Q : VK) (W : Nat → Nat → St → Hp → Prop) : Prop :=
  ∀ i m σ H, W i m σ H → (J.stop i H ∧ Q (.ref D) H) ∨ (J.go i H ∧ ∃ N : St → Hp → Prop, (∀ σ' H', N σ' H' → ∃ m', m' < m ∧ W (i + 1) m' σ' H') ∧ ∀ x H1, J.yld i H x H1 → g x σ H1 fun σ2 H2 => tc σ2 H2 fun b H3 =>
    if b = true then te σ2 H3 fun v H4 => ∃ ys, H4 D = some (.lst ys) ∧ ys.length < sizeLine ∧ N σ2 (upd H4 D (.lst (ys ++ [v]))) else N σ2 H3)
def tLc (own : List Str) (ix : List Nat) (wi : TI) (g : TG) (tc : TT) (te : TE) : TE := fun σ H Q => wi σ H fun J H1 => ∀ D, H1 D = none →
  ∃ W : Nat → Nat → St → Hp → Prop, (∃ m, W 0 m (lcSt own ix σ) (upd H1 D (.lst []))) ∧ LcW D J g tc te Q W
section
variable {X : Cx} {sc : Scope} {N own : List Str} {ix : List Nat} {cl : List (Str × Addr)} {fp : List Addr} {pins : List (Addr × Obj)} {σ : St} {H : Hp} {s : Shared} {elt tg iter : Expr} {ifs : List Expr} {pos : Pos}
  {g : TG} {tc : TT} {te : TE} {wi : TI}
theorem lc_run {J : It} {it : Addr} {tn : Nat → Heap → Prop} {Q : VK} {E : Value → Shared → Prop} {RR : Value → Addr → Result → Shared → Prop} (hc : X.calm = true) (L : LcOk X sc N own ix) (I : Inv X pins σ H s)
    (T : Turn X.prog X.w X.K tg J fp it tn) (st : tn 0 s.heap) (hf : ∀ b ∈ fp, FpOk X pins H b) (c1 : ∀ n c, cl.lookup n = some c → X.env.cells.lookup n = some c) (c2 : ∀ x ∈ sc.names, x.2 = .free → ∃ c, cl.lookup x.1 = some c)
    (hg : ∀ cl C fp s H, PG (lcx X sc N cl C fp s H) tg g) (ht : ∀ cl C fp s H, PTs (lcx X sc N cl C fp s H) ifs tc) (he : ∀ cl C fp s H, PE (lcx X sc N cl C fp s H) elt te)
    (q : ∀ D, H D = none → ∃ W : Nat → Nat → St → Hp → Prop, (∃ m, W 0 m (lcSt own ix σ) (upd H D (.lst []))) ∧ LcW D J g tc te Q W)
    (hRR : ∀ D C cs s' σ' H', Inv (lcx X sc N cs C fp s H) [] σ' H' s' → Q (.ref D) H' → RR (.ref D) C (.ok .next) s') :
    wpAny (model X.prog X.w) X.A (newList []) (fun acc s₃ => wpAny (model X.prog X.w) X.A (newFunctionEnv sc X.env.globals cl [] X.env.qual none .none (some X.env)) (fun cenv s₄ =>
      codeAny (model X.prog X.w) X.A (.compStart (.ListComp elt [⟨tg, iter, ifs, 0⟩] sc pos) 0 (.ref it) acc { cenv with scope := relabel sc X.env }) (RR acc cenv.locals) s₄) E s₃) E s := by
  refine wpAny_newObj_type (newEnv_lc ?_)
  dsimp only
  generalize hH2 : s.heap.push { cls := .type "list", dict := none, data := .seq ([] : List Value).toArray } = H2
  have hC : H2.objs.size = s.heap.objs.size + 1 := by rw [← hH2, Heap.size_push]
  have hDC : s.heap.objs.size < H2.objs.size := by rw [hC]; exact Nat.lt_succ_self _
  have hCle : s.heap.objs.size ≤ H2.objs.size := Nat.le_of_lt hDC
  have kp : ∀ b o, H2.get? b = some o → (pushCells (H2.push { cls := .type "dict", data := .dict #[] }) sc.names).get? b = some o := fun b o e => pushCells_keeps _ _ b o (Heap.get?_push_of_some _ e)
  have old : ∀ b o, s.heap.get? b = some o → (pushCells (H2.push { cls := .type "dict", data := .dict #[] }) sc.names).get? b = some o := fun b o e => kp b o (hH2 ▸ Heap.get?_push_of_some _ e)
  have hl : (pushCells (H2.push { cls := .type "dict", data := .dict #[] }) sc.names).get? s.heap.objs.size = some { cls := .type "list", data := .seq #[] } := kp _ _ (hH2 ▸ Heap.get?_push_size _ rfl)
  have hns : (pushCells (H2.push { cls := .type "dict", data := .dict #[] }) sc.names).Ns H2.objs.size fun _ => none := (Heap.Ns.new H2 (.type "dict")).keeps (pushCells_keeps _ _)
  have co := cs_ok (cl := cl) (h := H2.push { cls := .type "dict", data := .dict #[] }) L I c1 c2 hCle (Heap.size_push ..)
  generalize pushCells (H2.push { cls := .type "dict", data := .dict #[] }) sc.names = h₁ at old hl hns co ⊢
  generalize hcs : cellsFrom (H2.objs.size + 1) sc.names cl = cs at co ⊢
  have hb : ∀ b ∈ fp, b < s.heap.objs.size := fun b hb => let ⟨o, e, _⟩ := T.obj 0 _ st b hb; Heap.lt_size e
  have hDn : H s.heap.objs.size = none := I.hok.fresh (Nat.le_refl _)
  obtain ⟨W, ⟨m0, w0⟩, turn⟩ := q s.heap.objs.size hDn
  have st1 : tn 0 h₁ := T.keep 0 _ _ st fun b _ o e => old b o e
  have fpD : ∀ b ∈ fp, upd H s.heap.objs.size (.lst []) b = none := fun b h => by rw [upd_ne (Nat.ne_of_lt (hb b h))]; exact (hf b h).1
  have J0 := lc_start (t' := s.toks) (C := H2.objs.size) (fp := fp) L I co hCle hf hb (Nat.le_refl _) hDC old hns hl
  generalize hX : lcx X sc N cs H2.objs.size fp s H = Y at J0
  have eA : X.A = Y.A := by rw [← hX]; rfl
  have eP : X.prog = Y.prog := by rw [← hX]; rfl
  have eW : X.w = Y.w := by rw [← hX]; rfl
  have eK : X.K = Y.K := by rw [← hX]; rfl
  have ee : compEnvC sc cs H2.objs.size X.env = Y.env := by rw [← hX]; rfl
  have ec : Y.calm = true := by rw [← hX]; exact hc
  have hg' : PG Y tg g := by rw [← hX]; exact hg cs _ fp s H
  have ht' : PTs Y ifs tc := by rw [← hX]; exact ht cs _ fp s H
  have he' : PE Y elt te := by rw [← hX]; exact he cs _ fp s H
  have ex' : Y.xe = fun _ _ => False := by rw [← hX]; rfl
  have T' : Turn Y.prog Y.w Y.K tg J fp it tn := by rw [← eP, ← eW, ← eK]; exact T
  have stat : ∀ {H' : Hp}, (∀ b ∈ fp, H' b = none) → ∀ b ∈ fp, FpOk Y [] H' b := fun {H'} hn b hb' => by
    rw [← hX]
    obtain ⟨_, f1, f2, f3, f4, f5⟩ := hf b hb'
    refine ⟨hn b hb', Nat.ne_of_lt (Nat.lt_of_lt_of_le (hb b hb') hCle), fun z => ?_, .inl hb', fun x c e => (lc_ok L I co hCle hf hb).exf b hb' |>.2 x c e, fun p hp => by simp [lcx] at hp⟩
    rcases List.mem_cons.mp (I.stkSub b z) with e | e
    · exact f1 e
    · exact f2 e
  have hRR' : ∀ s' σ' H', Inv Y [] σ' H' s' → Q (.ref s.heap.objs.size) H' → RR (.ref s.heap.objs.size) H2.objs.size (.ok .next) s' := by rw [← hX]; exact fun s' σ' H' => hRR _ _ _ s' σ' H'
  have up : ∀ {α : Type} {t : Sem α} {Q' : α → Shared → Prop} {E' : Value → Shared → Prop} {s' : Shared}, wpAny (model Y.prog Y.w) Y.A t Q' Y.xe s' → wpAny (model Y.prog Y.w) Y.A t Q' E' s' := fun h => wpAny_mono h (fun _ _ x => x) fun _ _ z => by rw [ex'] at z; exact z.elim
  have loop : codeAny (model X.prog X.w) X.A (.compLoop (.ListComp elt [⟨tg, iter, ifs, 0⟩] sc pos) 0 (.ref it) (.ref s.heap.objs.size) (compEnvC sc cs H2.objs.size X.env))
        (RR (.ref s.heap.objs.size) H2.objs.size) { s with heap := h₁ } := by
    rw [ee, eA, eP, eW]
    refine codeAny_compLoop_go (fun n s' => ∃ i σ' H', Inv Y [] σ' H' s' ∧ tn i s'.heap ∧ (∀ b ∈ fp, H' b = none) ∧ W i n σ' H') ?_ m0 ⟨0, _, _, J0, st1, fpD, w0⟩
    rintro n s3 ⟨i, σ3, H3, I3, st3, fr3, w3⟩
    rcases turn i n σ3 H3 w3 with ⟨stop, qn⟩ | ⟨go, NN, hN, step⟩
    · refine up (thn (T'.done Y rfl rfl rfl ec i [] s3 σ3 H3 Y.xe I3 (stat fr3) st3 stop) fun r s4 ⟨hr, I4⟩ => ?_)
      subst hr
      exact hRR' s4 σ3 H3 I4 qn
    · refine up (thn (T'.item Y rfl rfl rfl ec i [] s3 σ3 H3 Y.xe I3 (stat fr3) st3 go) fun r s4 ⟨u, hr, h4⟩ => ?_)
      subst hr
      refine up (thn h4 fun _ s5 ⟨x, H5, I5, r5, y5, st5, fr5⟩ => ?_)
      have I5' := I5.pinned (stat fr5) (T.obj _ _ st5)
      refine up (thn (hg' _ s5 σ3 H5 x u _ I5' r5 (step x H5 y5)) fun _ s6 ⟨σ6, H6, I6, q6⟩ => ?_)
      have again : ∀ {σ7 : St} {H7 : Hp} {s7 : Shared}, Inv Y ([] ++ pinsAt fp s5.heap) σ7 H7 s7 → NN σ7 H7 → ∃ m, m < n ∧ ∃ i σ' H', Inv Y [] σ' H' s7 ∧ tn i s7.heap ∧ (∀ b ∈ fp, H' b = none) ∧ W i m σ' H' := fun {σ7 H7 s7} I7 n7 => by
        obtain ⟨m', hm, w7⟩ := hN σ7 H7 n7
        refine ⟨m', hm, i + 1, σ7, H7, I7.unpinned, T.keep _ _ _ st5 fun b hb o e => (I7.pin (b, o) (List.mem_append_right _ (List.mem_append_right _ (mem_pinsAt hb e)))).1, fun b hb => ?_, w7⟩
        obtain ⟨o, e, d⟩ := T.obj _ _ st5 b hb
        exact (I7.pin (b, o) (List.mem_append_right _ (List.mem_append_right _ (mem_pinsAt hb e)))).2.1
      refine up (thn (ht' _ s6 σ6 H6 _ I6 q6) fun ok s7 ⟨H7, I7, q7⟩ => ?_)
      cases ok with
      | false =>
        rw [if_neg Bool.false_ne_true] at q7 ⊢
        exact again I7 q7
      | true =>
        rw [if_pos rfl] at q7 ⊢
        refine up (thn (he' _ s7 σ6 H7 _ I7 q7) fun v s8 ⟨y, H8, I8, r8, ys, hy, hz, w8⟩ => ?_)
        exact up (thn (mt_append _ s8 σ6 H8 (.ref s.heap.objs.size) [y] (.ref s.heap.objs.size) [v] (fun _ H9 => H9 = upd H8 s.heap.objs.size (.lst (ys ++ [y]))) I8 rfl (.cons r8 .nil) ⟨_, ys, y, rfl, rfl, hy, hz, rfl⟩) fun _ s9 ⟨_, H9, I9, _, e9⟩ => by subst e9; exact again I9 w8)
  exact codeAny_compStart_list loop (T.self _ 0 _ _ _ st1 loop)
theorem pe_lc (hc : X.calm = true) (L : LcOk X sc N own ix) (hi : PI X tg iter wi) (hg : ∀ cl C fp s H, PG (lcx X sc N cl C fp s H) tg g) (ht : ∀ cl C fp s H, PTs (lcx X sc N cl C fp s H) ifs tc)
    (he : ∀ cl C fp s H, PE (lcx X sc N cl C fp s H) elt te) (hs : ∀ x, foldedSetIterable iter X.env x = pure x := by intro _; rfl) : PE X (.ListComp elt [⟨tg, iter, ifs, 0⟩] sc pos) (tLc own ix wi g tc te) := by
  intro pins s σ H Q I h
  obtain ⟨cl, ecl, c1, c2⟩ := clos_ok (env := X.env) (sc := sc) fun x hx hf => I.ok.has x.1 (L.free x hx hf)
  rw [eval_ListComp]
  refine wpAny_comprehension_free (use := none) rfl hs ecl L.kind L.names (thn (hi pins s σ H _ I h) fun xv s₁ h₁ => thn h₁ fun itv s₂ h₂ => ?_)
  obtain ⟨it, fp, tn, J, H2, e, I2, T, st2, f2, q⟩ := h₂
  subst e
  refine lc_run (Q := Q) hc L I2 T st2 f2 c1 c2 hg ht he q fun D C cs s' σ' H' I' q' => ?_
  obtain ⟨m, hn, _⟩ := I'.loc
  exact ⟨m, hn, fun h' sb => ⟨.ref D, H', lc_back I2 I' f2 sb, rfl, q'⟩⟩
/-- x = [..] where the store comes ahead of the block's end -/
theorem ps_setLc {i : Nat} {x : Str} {pos' spos : Pos} (hc : X.calm = true) (hN : X.N.Nodup) (hix : X.N[i]? = some x) (hx : X.env.scope.names.lookup x = some .local) (L : LcOk X sc N own ix) (hi : PI X tg iter wi)
    (hg : ∀ cl C fp s H, PG (lcx X sc N cl C fp s H) tg g) (ht : ∀ cl C fp s H, PTs (lcx X sc N cl C fp s H) ifs tc) (he : ∀ cl C fp s H, PE (lcx X sc N cl C fp s H) elt te)
    (hsw : swapsWith (.ListComp elt [⟨tg, iter, ifs, 0⟩] sc pos) (some (.Name x pos')) spos.line X.env = pure true := by rfl)
    (hs : ∀ x, foldedSetIterable iter X.env x = pure x := by intro _; rfl) : PS X (.Assign [.Name x pos'] (.ListComp elt [⟨tg, iter, ifs, 0⟩] sc pos) spos) (tAsg (tLc own ix wi g tc te) (gName i)) := by
  intro pins s σ H Df I h
  obtain ⟨cl, ecl, c1, c2⟩ := clos_ok (env := X.env) (sc := sc) fun x hx hf => I.ok.has x.1 (L.free x hx hf)
  rw [exec_Assign_Name_used _ _ _ _ hsw]
  refine wpAny_bind (wpAny_standAt (wpAny_bind ?_))
  show wpAny _ X.A (do let _ ← comprehension (.ListComp elt [⟨tg, iter, ifs, 0⟩] sc pos) sc X.env _ (newList []) false (eval iter X.env) (some (assign (.Name x pos') X.env))) _ _ s
  refine wpAny_bind (wpAny_mono (wpAny_comprehension_free (use := some (assign (.Name x pos') X.env)) (Q := fun _ s' => SP X pins Df .next s') rfl hs ecl L.kind L.names
    (thn (hi pins s σ H _ I h) fun xv s₁ h₁ => thn h₁ fun itv s₂ h₂ => ?_)) (fun _ s' hq => wpAny_pure (wpAny_pure hq)) fun _ _ e => e)
  obtain ⟨it, fp, tn, J, H2, e, I2, T, st2, f2, q⟩ := h₂
  subst e
  refine lc_run hc L I2 T st2 f2 c1 c2 hg ht he q fun D C cs s' σ' H' I' q' => ?_
  obtain ⟨m, hn, _⟩ := I'.loc
  have I3 : Inv X pins σ H' s' := lc_back I2 I' f2 (h' := s'.heap) (Heap.SameBut.refl ..)
  have hC : C ≠ X.env.locals := Nat.ne_of_gt (Nat.lt_of_lt_of_le I2.lt I'.ok.above)
  refine wpAny_assign_Name (store_ok2 I3 hN hix (.inl hx) (show RelV (.ref D) (.ref D) from rfl) (fun s'' I4 ⟨a, sb, ha⟩ => ?_) (.inr hx))
  have haC : C ≠ a := by
    rcases ha with z | z
    · rw [z]; exact hC
    · obtain ⟨v, z'⟩ := I2.cell x a z
      exact Nat.ne_of_gt (Nat.lt_of_lt_of_le z'.lt I'.ok.above)
  have hn' : s''.heap.Ns C m := hn.at' fun o e => (sb.2 C haC).trans e
  refine ⟨m, hn', fun h' sb' => ⟨_, H', ?_, q'⟩⟩
  have hlt : ∀ b, b < s₂.heap.objs.size → b ≠ C := fun b hb => Nat.ne_of_lt (Nat.lt_of_lt_of_le hb I'.ok.above)
  refine I4.call' (s' := { s'' with heap := h' }) (ch := [C]) rfl ⟨fun b o e n _ hb => ?_, fun b o e n _ hb => ?_, fun b o e n _ => n, fun b o e hb => ?_, fun _ _ e => e, fun _ _ _ e => e, fun b ps e => ⟨#[], by rw [e]; simp⟩⟩
    (hok_but I4.hok I'.free sb') I4.bare (fun b hb => ?_)
  · exact (sb'.2 b (by simpa using hb)).trans e
  · exact ⟨o.slots, (sb'.2 b (by simpa using hb)).trans e⟩
  · exact ⟨o, (sb'.2 b (by simpa using hb)).trans e⟩
  · have e : b = C := by simpa using hb
    subst e
    refine ⟨.inr (Nat.le_trans I2.sz I'.ok.above), hC, fun y c e z => ?_, fun p hp z => ?_⟩
    · obtain ⟨v, z'⟩ := I2.cell y c e
      exact hlt c z'.lt z
    · exact hlt p.1 (Heap.lt_size (I2.pin p hp).1) z
end
/-! ### the forms one uses -/
theorem lc_range {D : Addr} {lo : Int} {n : Nat} {g : TG} {tc : TT} {te : TE} {Q : VK} {σ : St} {H : Hp} (Pv : Nat → St → Hp → Prop) (h0 : Pv 0 σ H)
    (hs : ∀ i σ H, i < n → Pv i σ H → g (.int (lo + i)) σ H fun σ2 H2 => tc σ2 H2 fun b H3 => if b = true then te σ2 H3 fun v H4 => ∃ ys, H4 D = some (.lst ys) ∧ ys.length < sizeLine ∧ Pv (i + 1) σ2 (upd H4 D (.lst (ys ++ [v]))) else Pv (i + 1) σ2 H3)
    (hd : ∀ σ H, Pv n σ H → Q (.ref D) H) : ∃ W : Nat → Nat → St → Hp → Prop, (∃ m, W 0 m σ H) ∧ LcW D (Itr lo n) g tc te Q W := by
  refine ⟨fun i m σ H => m = n - i ∧ i ≤ n ∧ Pv i σ H, ⟨n, by simp, Nat.zero_le _, h0⟩, ?_⟩
  rintro i m σ H ⟨rfl, hi, p⟩
  by_cases hlt : i < n
  · refine .inr ⟨hlt, Pv (i + 1), fun σ' H' p' => ⟨n - (i + 1), by omega, rfl, hlt, p'⟩, fun x H' y => ?_⟩
    obtain ⟨e, y⟩ := y
    subst e y
    exact hs i σ _ hlt p
  · have e : i = n := by omega
    subst e
    exact .inl ⟨Nat.le_refl _, hd σ H p⟩
theorem lc_list {K : PySem.W.Frag} {D a : Addr} {xs : List V} {g : TG} {tc : TT} {te : TE} {Q : VK} {σ : St} {H : Hp} (Pv : Nat → St → Hp → Prop) (h0 : Pv 0 σ H) (hl : ∀ i σ H, i ≤ xs.length → Pv i σ H → SqL K H a xs)
    (hs : ∀ i x σ H, xs[i]? = some x → Pv i σ H → g x σ H fun σ2 H2 => tc σ2 H2 fun b H3 => if b = true then te σ2 H3 fun v H4 => ∃ ys, H4 D = some (.lst ys) ∧ ys.length < sizeLine ∧ Pv (i + 1) σ2 (upd H4 D (.lst (ys ++ [v]))) else Pv (i + 1) σ2 H3)
    (hd : ∀ σ H, Pv xs.length σ H → Q (.ref D) H) : ∃ W : Nat → Nat → St → Hp → Prop, (∃ m, W 0 m σ H) ∧ LcW D (Itl K a) g tc te Q W := by
  refine ⟨fun i m σ H => m = xs.length - i ∧ i ≤ xs.length ∧ Pv i σ H, ⟨xs.length, by simp, Nat.zero_le _, h0⟩, ?_⟩
  rintro i m σ H ⟨rfl, hi, p⟩
  have q := hl i σ H hi p
  by_cases hlt : i < xs.length
  · refine .inr ⟨⟨xs, xs[i], q, by simp [hlt]⟩, Pv (i + 1), fun σ' H' p' => ⟨xs.length - (i + 1), by omega, rfl, hlt, p'⟩, fun x H' y => ?_⟩
    obtain ⟨e, y⟩ := y
    subst e
    exact hs i x σ _ (y xs q) p
  · have e : i = xs.length := by omega
    subst e
    exact .inl ⟨⟨xs, q, Nat.le_refl _⟩, hd σ H p⟩

/-! ### terms that only look: the value, and a heap that may have grown -/
def Ev (t : TE) (σ : St) (H : Hp) (v : V) : Prop := ∀ Q : VK, (∀ H', Same H H' → Q v H') → t σ H Q
def EvT (t : TT) (σ : St) (H : Hp) (b : Bool) : Prop := ∀ Q : Bool → Hp → Prop, (∀ H', Same H H' → Q b H') → t σ H Q
theorem evYes {σ : St} {H : Hp} : EvT tYes σ H true := fun _ q => q H (Same.refl H)
theorem filter_snoc {α : Type} (l : List α) (x : α) (p : α → Bool) : (l ++ [x]).filter p = l.filter p ++ (if p x = true then [x] else []) := by
  rw [List.filter_append]; cases h : p x <;> simp [h]
/-- one own name (slot 0), the rest as captured; a range -/
theorem lc_range_ev {D : Addr} {lo : Int} {n : Nat} {tc : TT} {te : TE} {Q : VK} {cap : St} {H : Hp} (p : Nat → Bool) (f : Nat → V) (hn : n < sizeLine) (hD : H D = none)
    (ht : ∀ i H', i < n → Same H H' → EvT tc (some (.int (lo + i)) :: cap) H' (p i)) (he : ∀ i H', i < n → p i = true → Same H H' → Ev te (some (.int (lo + i)) :: cap) H' (f i))
    (hd : ∀ H', Same H H' → H' D = some (.lst (((List.range n).filter p).map f)) → Q (.ref D) H') :
    ∃ W : Nat → Nat → St → Hp → Prop, (∃ m, W 0 m (none :: cap) (upd H D (.lst []))) ∧ LcW D (Itr lo n) (gName 0) tc te Q W := by
  have same : ∀ {H' : Hp} {o : HO}, Same H H' → Same H (upd H' D o) := fun s b o e => by rw [upd_ne (ne_of_none e hD)]; exact s b o e
  refine lc_range (fun i σ H' => ∃ v, σ = v :: cap ∧ Same H H' ∧ H' D = some (.lst (((List.range i).filter p).map f))) ⟨none, rfl, same (Same.refl H), upd_same⟩ ?_ fun σ H' ⟨_, _, s, e⟩ => hd H' s e
  rintro i σ H' hi ⟨v, rfl, s, e⟩
  refine ht i H' hi s _ fun H3 s3 => ?_
  have e3 := s3 D _ e
  cases hp : p i with
  | false =>
    refine (if_neg Bool.false_ne_true).mpr ⟨_, rfl, s.trans s3, ?_⟩
    rw [e3, List.range_succ, filter_snoc, hp]; simp
  | true =>
    refine (if_pos rfl).mpr ?_
    refine he i H3 hi hp (s.trans s3) _ fun H4 s4 => ⟨_, s4 D _ e3, ?_, _, rfl, same ((s.trans s3).trans s4), ?_⟩
    · have l1 := List.length_filter_le p (List.range i)
      rw [List.length_range] at l1
      rw [List.length_map]; omega
    · rw [upd_same, List.range_succ, filter_snoc, hp]; simp
/-- .. a list -/
theorem lc_list_ev {K : PySem.W.Frag} {D a : Addr} {xs : List V} {tc : TT} {te : TE} {Q : VK} {cap : St} {H : Hp} (p : V → Bool) (f : V → V) (hn : xs.length < sizeLine) (hD : H D = none) (hl : SqL K H a xs)
    (ht : ∀ x H', x ∈ xs → Same H H' → EvT tc (some x :: cap) H' (p x)) (he : ∀ x H', x ∈ xs → p x = true → Same H H' → Ev te (some x :: cap) H' (f x))
    (hd : ∀ H', Same H H' → H' D = some (.lst ((xs.filter p).map f)) → Q (.ref D) H') :
    ∃ W : Nat → Nat → St → Hp → Prop, (∃ m, W 0 m (none :: cap) (upd H D (.lst []))) ∧ LcW D (Itl K a) (gName 0) tc te Q W := by
  have same : ∀ {H' : Hp} {o : HO}, Same H H' → Same H (upd H' D o) := fun s b o e => by rw [upd_ne (ne_of_none e hD)]; exact s b o e
  refine lc_list (fun i σ H' => ∃ v, σ = v :: cap ∧ Same H H' ∧ H' D = some (.lst (((xs.take i).filter p).map f))) ⟨none, rfl, same (Same.refl H), by rw [upd_same]; rfl⟩ (fun i σ H' _ ⟨_, _, s, _⟩ => s.seq hl) ?_ fun σ H' ⟨_, _, s, e⟩ => hd H' s (by rw [e, List.take_length])
  rintro i x σ H' hi ⟨v, rfl, s, e⟩
  have hm := List.mem_of_getElem? hi
  refine ht x H' hm s _ fun H3 s3 => ?_
  have e3 := s3 D _ e
  have et : xs.take (i + 1) = xs.take i ++ [x] := by rw [List.take_add_one, hi]; rfl
  cases hp : p x with
  | false =>
    refine (if_neg Bool.false_ne_true).mpr ⟨_, rfl, s.trans s3, ?_⟩
    rw [e3, et, filter_snoc, hp]; simp
  | true =>
    refine (if_pos rfl).mpr ?_
    refine he x H3 hm hp (s.trans s3) _ fun H4 s4 => ⟨_, s4 D _ e3, ?_, _, rfl, same ((s.trans s3).trans s4), ?_⟩
    · have l1 := List.length_filter_le p (xs.take i)
      have l2 : (xs.take i).length ≤ xs.length := by rw [List.length_take]; omega
      rw [List.length_map]; omega
    · rw [upd_same, et, filter_snoc, hp]; simp
end L2

set_option Elab.async false
set_option linter.all false
set_option maxRecDepth 100000
set_option maxHeartbeats 4000000
/-! More rules over the layer: == of lists, sum, max, min, isinstance, enumerate. -/
namespace L2
open PySem PySem.Spec PyProof.Rows
section
variable {X : Cx}
/-! ### == and != of two lists of flat things -/
def eqVs (xs ys : List V) : Bool := decide (xs.length = ys.length) && (List.range xs.length).all fun j => eqV (xs.getD j .non) (ys.getD j .non)
theorem eqVs_ints {ns ms : List Int} : eqVs (ns.map V.int) (ms.map V.int) = decide (ns = ms) := by
  unfold eqVs
  by_cases h : ns = ms
  · subst h
    rw [decide_eq_true rfl, decide_eq_true rfl, Bool.true_and, List.all_eq_true]
    intro j hj
    rw [List.mem_range] at hj
    rw [List.getD_eq_getElem?_getD, List.getElem?_eq_getElem hj, Option.getD_some, List.getElem_map]
    show (_ == _) = true
    simp
  · rw [decide_eq_false h]
    by_cases hl : ns.length = ms.length
    · rw [List.length_map, List.length_map, decide_eq_true hl, Bool.true_and, Bool.eq_false_iff]
      intro q
      rw [List.all_eq_true] at q
      refine h (List.ext_getElem hl fun j h1 h2 => ?_)
      have q1 := q j (List.mem_range.mpr h1)
      rw [List.getD_eq_getElem?_getD, List.getD_eq_getElem?_getD, List.getElem?_eq_getElem (by simpa using h1), List.getElem?_eq_getElem (by simpa using h2), Option.getD_some, Option.getD_some, List.getElem_map, List.getElem_map] at q1
      have q2 : (ns[j] == ms[j]) = true := q1
      exact eq_of_beq q2
    · rw [List.length_map, List.length_map, decide_eq_false hl, Bool.false_and]
def rEqL (K : PySem.W.Frag) (neg : Bool) : R2 := fun x y H Q => ∃ a b xs ys, x = .ref a ∧ y = .ref b ∧ SqL K H a xs ∧ SqL K H b ys ∧ (xs.length = ys.length → xs.all flatV = true ∧ ys.all flatV = true) ∧ Q (.bl (if neg then !eqVs xs ys else eqVs xs ys)) H
theorem all_flat {xs : List V} {j : Nat} (h : xs.all flatV = true) (hj : j < xs.length) : flatV (xs.getD j .non) = true := by
  rw [List.getD_eq_getElem?_getD, List.getElem?_eq_getElem hj, Option.getD_some]
  exact List.all_eq_true.mp h _ (List.getElem_mem hj)
theorem eqL_go {A : Around} {s : Shared} {xs ys : List V} {us ws : List Value} (r : Vals xs us) (q : Vals ys ws) (fx : xs.all flatV = true) (fy : ys.all flatV = true) (j : Nat) (h1 : j < us.toArray.size) (h2 : j < ws.toArray.size) :
    SeqAt.EqAt A s us.toArray[j] ws.toArray[j] (eqV (xs.getD j .non) (ys.getD j .non)) := by
  have hx : j < xs.length := by rw [r.length]; simpa using h1
  have hy : j < ys.length := by rw [q.length]; simpa using h2
  obtain ⟨u, eu, ru⟩ := r.get (i := j) (x := xs.getD j .non) (by rw [List.getD_eq_getElem?_getD, List.getElem?_eq_getElem hx]; rfl)
  obtain ⟨w, ew, rw'⟩ := q.get (i := j) (x := ys.getD j .non) (by rw [List.getD_eq_getElem?_getD, List.getElem?_eq_getElem hy]; rfl)
  have e1 : us.toArray[j] = u := by
    have := List.getElem?_eq_getElem (l := us) (i := j) (by simpa using h1)
    rw [eu] at this
    simpa using (Option.some.inj this).symm
  have e2 : ws.toArray[j] = w := by
    have := List.getElem?_eq_getElem (l := ws) (i := j) (by simpa using h2)
    rw [ew] at this
    simpa using (Option.some.inj this).symm
  rw [e1, e2]
  exact eqAt_V ru rw' (all_flat fx hx) (all_flat fy hy)
theorem op_eqL (hu : X.A.units < cLine) : OpR X (compareOp .Eq) (rEqL X.K false) := by
  intro pins s σ H x y v u Q I rx ry h
  obtain ⟨a, b, xs, ys, rfl, rfl, ha, hb, hf, q⟩ := h
  cases rx
  cases ry
  obtain ⟨us, r1, p1, _⟩ := I.list ha
  obtain ⟨ws, r2, p2, _⟩ := I.list hb
  have l1 := r1.length
  have l2 := r2.length
  by_cases hl : xs.length = ys.length
  · obtain ⟨fx, fy⟩ := hf hl
    refine SeqAt.eq_listAt (e := fun j => eqV (xs.getD j .non) (ys.getD j .non)) p1.isList p2.isList (by simp only [List.size_toArray]; omega) hu (fun j h1 h2 => eqL_go r1 r2 fx fy j h1 h2) ⟨.bl _, H, I, rfl, ?_⟩
    have e : eqVs xs ys = (List.range us.toArray.size).all fun j => eqV (xs.getD j .non) (ys.getD j .non) := by
      unfold eqVs; rw [decide_eq_true hl, Bool.true_and, l1, List.size_toArray]
    rw [← e]; exact q
  · refine SeqAt.eq_list_lengthsAt p1.isList p2.isList (by simp only [List.size_toArray, bne_iff_ne, ne_eq]; omega) hu ⟨.bl _, H, I, rfl, ?_⟩
    have e : eqVs xs ys = false := by unfold eqVs; rw [decide_eq_false hl, Bool.false_and]
    rw [e] at q; exact q
theorem op_neL (hu : X.A.units < cLine) : OpR X (compareOp .NotEq) (rEqL X.K true) := by
  intro pins s σ H x y v u Q I rx ry h
  obtain ⟨a, b, xs, ys, rfl, rfl, ha, hb, hf, q⟩ := h
  cases rx
  cases ry
  obtain ⟨us, r1, p1, _⟩ := I.list ha
  obtain ⟨ws, r2, p2, _⟩ := I.list hb
  have l1 := r1.length
  have l2 := r2.length
  by_cases hl : xs.length = ys.length
  · obtain ⟨fx, fy⟩ := hf hl
    refine SeqAt.RcNeAt.lists (e := fun j => eqV (xs.getD j .non) (ys.getD j .non)) p1.isList p2.isList (by simp only [List.size_toArray]; omega) hu (fun j h1 h2 => eqL_go r1 r2 fx fy j h1 h2) _ _ _ _ ⟨.bl _, H, I, rfl, ?_⟩
    have e : eqVs xs ys = (List.range us.toArray.size).all fun j => eqV (xs.getD j .non) (ys.getD j .non) := by
      unfold eqVs; rw [decide_eq_true hl, Bool.true_and, l1, List.size_toArray]
    rw [← e]; exact q
  · refine SeqAt.RcNeAt.lists_lengths p1.isList p2.isList (by simp only [List.size_toArray, bne_iff_ne, ne_eq]; omega) hu _ _ _ _ ⟨.bl _, H, I, rfl, ?_⟩
    have e : eqVs xs ys = false := by unfold eqVs; rw [decide_eq_false hl, Bool.false_and]
    rw [e] at q; exact q
theorem flat_ints (ns : List Int) : (ns.map V.int).all flatV = true := by rw [List.all_eq_true]; intro x hx; obtain ⟨n, _, rfl⟩ := List.mem_map.mp hx; rfl
theorem neI {K : PySem.W.Frag} {H : Hp} {Q : VK} {a b : Addr} {ns ms : List Int} (ha : SqL K H a (ns.map V.int)) (hb : SqL K H b (ms.map V.int)) (q : Q (.bl (!decide (ns = ms))) H) : rEqL K true (.ref a) (.ref b) H Q :=
  ⟨a, b, _, _, rfl, rfl, ha, hb, fun _ => ⟨flat_ints _, flat_ints _⟩, by rw [eqVs_ints]; exact q⟩
/-- a list and the empty one -/
theorem eqNil {K : PySem.W.Frag} {H : Hp} {Q : VK} {a b : Addr} {xs : List V} (ha : SqL K H a xs) (hb : SqL K H b []) (q : Q (.bl (decide (xs = []))) H) : rEqL K false (.ref a) (.ref b) H Q := by
  refine ⟨a, b, _, _, rfl, rfl, ha, hb, fun h => ?_, ?_⟩
  · have : xs = [] := List.length_eq_zero_iff.mp h
    subst this; exact ⟨rfl, rfl⟩
  · have e : eqVs xs [] = decide (xs = []) := by
      cases xs with
      | nil => rfl
      | cons x r => rfl
    rw [e]; exact q
/-! ### sum, max, min of a list of ints -/
theorem call_sum (hc : X.calm = true) : CallR X (.builtin "sum") (fun xs H Q => ∃ (a : Addr) (ns : List Int), xs = [.ref a] ∧ SqL X.K H a (ns.map V.int) ∧ Q (.int ns.sum) H) := by
  intro pins s σ H xs us Q I r h
  obtain ⟨a, ns, rfl, ha, q⟩ := h
  obtain ⟨u, rfl, ru⟩ := vals1 r
  cases ru
  obtain ⟨its, rv, p, _⟩ := I.list ha
  obtain ⟨ys, e⟩ := (intsAre_of rv).allInts.items
  have hns : ns = ys.toList.map (·.1) := by rw [← (intsAre_of rv).numsOf, ← nums_intItems, ← e]
  have hl := p.isList
  rw [e] at hl
  refine sum_intListG (I.ok.hd hc) hl fun h' tk t' hk => ⟨.int ns.sum, H, I.kept hk, ⟨t', ?_⟩, q⟩
  rw [preSum_eq, List.take_of_length_le (by simp), ← hns]
/-! ### isinstance(x, a built-in class) -/
theorem call_isinst : CallR X (.builtin "isinstance") (fun xs H Q => ∃ (x : V) (T : String) (t : Value) (b : Bool), xs = [x, .ty T] ∧ TyOf X.K H x t ∧ PySem.W.kitOne X.K t (.type T) = some b ∧ Q (.bl b) H) := by
  intro pins s σ H xs us Q I r h
  obtain ⟨x, T, t, b, rfl, ty, e, q⟩ := h
  obtain ⟨u, w, rfl, ru, rw'⟩ := vals2 r
  cases (show w = Value.type T from rw')
  exact isinst_ok I ru ty e fun tk => ⟨.bl b, H, I.tok tk, rfl, q⟩
theorem kit_same {K : PySem.W.Frag} {t : Value} : PySem.W.kitOne K t t = some true := by unfold PySem.W.kitOne; rw [if_pos (beq_self_eq_true t)]
theorem kit_ty {K : PySem.W.Frag} {T U : String} {b : Bool} (hne : (Value.type T == Value.type U) = false) (hm : PySem.W.kitMeta U = true) (hs : (fastBuiltinMro T).map (·.contains (Value.type U)) = some b) : PySem.W.kitOne K (.type T) (.type U) = some b := by
  unfold PySem.W.kitOne
  rw [if_neg (by rw [hne]; exact Bool.false_ne_true)]
  unfold PySem.W.kitCls
  dsimp only
  rw [if_pos hm]
  exact hs
theorem kit_int_bool {K : PySem.W.Frag} : PySem.W.kitOne K (.type "int") (.type "bool") = some false := kit_ty (by decide +kernel) (by decide +kernel) (by decide +kernel)
theorem boot_bool' : bootBuiltins "bool" = some (.type "bool") := by decide +kernel
theorem boot_int' : bootBuiltins "int" = some (.type "int") := by decide +kernel
theorem boot_list' : bootBuiltins "list" = some (.type "list") := by decide +kernel
theorem boot_isinst' : bootBuiltins "isinstance" = some (.builtin "isinstance") := by decide +kernel
theorem boot_sum' : bootBuiltins "sum" = some (.builtin "sum") := by decide +kernel
theorem boot_max' : bootBuiltins "max" = some (.builtin "max") := by decide +kernel
theorem boot_min' : bootBuiltins "min" = some (.builtin "min") := by decide +kernel
/-! ### enumerate over a list, its tuples let go by the target -/
def Ite (K : PySem.W.Frag) (a : Addr) : It :=
  ⟨fun i H => ∃ xs x, SqL K H a xs ∧ xs[i]? = some x, fun i H x H' => ∃ p y, H p = none ∧ x = .ref p ∧ (∀ xs, SqL K H a xs → xs[i]? = some y) ∧ H' = upd H p (.tup [.int i, y]), fun i H => ∃ xs, SqL K H a xs ∧ xs.length ≤ i⟩
/-- records at ch turned, a tuple laid -/
theorem Inv.turnedT {pins : List (Addr × Obj)} {σ : St} {H : Hp} {s : Shared} {ch : List Addr} {h' : Heap} {t' : Nat} {p : Addr} {xs : List V} (I : Inv X pins σ H s) (hf : ∀ b ∈ ch, FpOk X pins H b)
    (k : ∀ b o, b ∉ ch → s.heap.get? b = some o → h'.get? b = some o) (hp : s.heap.objs.size ≤ p) (new : ObjOk X.prog X.w (upd H p (.tup xs)) h' p (.tup xs)) : Inv X pins σ (upd H p (.tup xs)) { s with heap := h', toks := t' } := by
  have hpn : H p = none := I.hok.fresh hp
  have nch : ∀ b o, H b = some o → b ∉ ch := fun b o e z => by rw [(hf b z).1] at e; cases e
  have up : ∀ b o, H b = some o → upd H p (.tup xs) b = some o := fun b o e => by rw [upd_ne (ne_of_none e hpn)]; exact e
  have lt : ∀ b o, s.heap.get? b = some o → b ≠ p := fun b o e => Nat.ne_of_lt (Nat.lt_of_lt_of_le (Heap.lt_size e) hp)
  refine I.step (g' := s.gens) (d' := s.drawn) (ch := ch) (fun b hb => ?_) (fun b o _ _ hc e _ => k b o hc e) (fun b o _ _ hc e _ => ⟨o.slots, k b o hc e⟩) (fun b o _ e n => by rw [upd_ne (lt b o e)]; exact n)
    (fun b o hc e => ⟨o, k b o hc e⟩) (fun b ys e => up b _ e) (fun b o u e => up b _ e) (fun b ps e => ⟨#[], by rw [up b _ e]; simp⟩) (fun m hm => ?_) (fun b u e => ?_) I.bare
  · obtain ⟨_, f1, _, f3, f4, f5⟩ := hf b hb
    exact ⟨f3, f1, f4, f5⟩
  · obtain ⟨o, es, ep, ho, r⟩ := hm
    exact ⟨o, es, ep, k _ o (fun z => (hf _ z).2.1 rfl) ho, r⟩
  · by_cases hb : b = p
    · subst hb; rw [upd_same] at e; cases e; exact new
    · rw [upd_ne hb] at e
      refine (I.hok b u e).stay (fun c v hc q => k c v ?_ q) (fun c q => up c _ q) fun c ys q => up c _ q
      rcases hc with z | z
      · rw [z]; exact nch b u e
      · exact nch c _ z
theorem turn_enum {P : Program} {w : World} {K : PySem.W.Frag} {elts : List Expr} {x1 : Nat} {tp : Pos} (a e it : Addr) (hne : e ≠ it) :
    Turn P w K (.Tuple elts x1 tp) (Ite K a) [e, it] e (fun i h => (∃ old, IsEnum h e it i old) ∧ h.IsListIter it a i) where
  mem := by simp
  obj := fun i h st b hb => by
    obtain ⟨⟨old, he⟩, ⟨o, e1, c, d⟩⟩ := st
    rcases List.mem_cons.mp hb with z | z
    · subst z; exact ⟨_, he, fun v z => by cases z⟩
    · have z : b = it := by simpa using z
      subst z; exact ⟨o, e1, fun v z => by rw [d] at z; cases z⟩
  keep := fun i h h' st k => by
    obtain ⟨⟨old, he⟩, st⟩ := st
    exact ⟨⟨old, k e (by simp) _ he⟩, st.at fun o q => k it (by simp) o q⟩
  item := by
    intro X hP hw hK hc i pins s σ H E I hf st hg
    subst hP hw hK
    obtain ⟨xs, x, hq, hx⟩ := hg
    obtain ⟨its, rv, p, hz⟩ := I.list hq
    obtain ⟨u, hu, ru⟩ := rv.get hx
    obtain ⟨⟨old, he⟩, hit⟩ := st
    refine wpAny_pyNext_enum_item he hit p.isList (x := u) (by simpa using hu) hne fun h' ho hit' ht hsz hk => ?_
    refine ⟨_, rfl, wpAny_letOwnedTupleGo_enum ho fun h2 he2 sb => ?_⟩
    have helt : e < s.heap.objs.size := Heap.lt_size he
    have hT2 : h2.get? s.heap.objs.size = some { cls := .type "tuple", data := .seq #[.int i s.toks, u] } := (sb.2 _ (Nat.ne_of_gt helt)).trans ht
    have hpn : H s.heap.objs.size = none := I.hok.fresh (Nat.le_refl _)
    refine ⟨.ref s.heap.objs.size, upd H s.heap.objs.size (.tup [.int i, x]), ?_, rfl, ⟨_, x, hpn, rfl, fun ys hy => by rw [I.list_inj hy hq]; exact hx, rfl⟩, ⟨⟨u, by simpa using he2⟩, hit'.at fun o q => (sb.2 it hne.symm).trans q⟩, fun b hb => ?_⟩
    · refine I.turnedT (ch := [e, it]) hf (fun b o hb q => ?_) (Nat.le_refl _) ⟨by show 2 ≤ sizeLine; decide, [.int i s.toks, u], .cons ⟨_, rfl⟩ (.cons ru .nil), ⟨_, hT2, rfl, _, rfl⟩⟩
      have hbe : b ≠ e := fun z => hb (by simp [z])
      have hbi : b ≠ it := fun z => hb (by simp [z])
      exact (sb.2 b hbe).trans (hk b o hbe hbi q)
    · have hbn := (hf b hb).1
      have hbl : b < s.heap.objs.size := by
        rcases List.mem_cons.mp hb with z | z
        · rw [z]; exact helt
        · have z : b = it := by simpa using z
          rw [z]; obtain ⟨o, q, _⟩ := hit; exact Heap.lt_size q
      rw [upd_ne (Nat.ne_of_lt hbl)]; exact hbn
  done := by
    intro X hP hw hK hc i pins s σ H E I hf st hg
    subst hP hw hK
    obtain ⟨xs, hq, hx⟩ := hg
    obtain ⟨its, rv, p, hz⟩ := I.list hq
    obtain ⟨⟨old, he⟩, hit⟩ := st
    obtain ⟨f0, f1, f2, f3, f4, f5⟩ := hf it (by simp)
    have hl := rv.length
    exact wpAny_pyNext_enum_end (I.ok.hd hc) he hit p.isList (by simp; omega) fun h' eb => ⟨rfl, I.turned (t' := s.toks) (fun b o hb q => eb b o hb q) f0 f1 f3 f4 f5⟩
  self := fun _ _ _ _ _ st h => by
    obtain ⟨⟨old, he⟩, _⟩ := st
    exact wpAny_pyIter_enum he h
def iEnum (K : PySem.W.Frag) (ta : TA) : TI := fun σ H R => ta σ H fun vs H1 => ∃ a, vs = [.ref a] ∧ (∃ xs, SqL K H1 a xs) ∧ R (Ite K a) H1
theorem pi_enum {e : Expr} {ta : TA} {p pos tp : Pos} {elts : List Expr} {x1 : Nat} (hg : Gl X "enumerate") (hm : X.mg "enumerate" = none) (ha : PA X [e] ta) (hs : starEach [e] X.env = [(false, eval e X.env)] := by rfl) :
    PI X (.Tuple elts x1 tp) (.Call (.Name "enumerate" p) [e] [] pos) (iEnum X.K ta) := by
  intro pins s σ H R I h
  refine Call_ (ld_blt I hg hm boot_enumerate (PyProof.Rows.callWith_type1 (thn (ha pos pins s σ H _ I h) fun us s1 ⟨vs, H1, I1, r1, q1⟩ => ?_) hs rfl))
  obtain ⟨a, e, ⟨xs, hq⟩, q⟩ := q1
  subst e
  obtain ⟨u, rfl, ru⟩ := vals1 r1
  cases ru
  obtain ⟨its, rv, pl, hz⟩ := I1.list hq
  refine call_enumerate_list pl.isList fun h' he hit hsz hk => ?_
  have I2 : Inv X pins σ H1 { s1 with heap := h' } := I1.kept (t' := s1.toks) hk
  refine wpAny_pyIter_enum he ?_
  refine ⟨_, [s1.heap.objs.size + 1, s1.heap.objs.size], _, _, H1, rfl, I2, turn_enum a _ s1.heap.objs.size (Nat.succ_ne_self _), ⟨⟨.none, he⟩, hit⟩, fun b hb => ?_, q⟩
  have hbl : s1.heap.objs.size ≤ b := by
    rcases List.mem_cons.mp hb with z | z
    · rw [z]; exact Nat.le_succ _
    · have z : b = s1.heap.objs.size := by simpa using z
      rw [z]; exact Nat.le_refl _
  exact I1.fpOk hbl (I1.hok.fresh hbl)
end
/-- over enumerate(a list that the body leaves as it is) -/
theorem for_enum {K : PySem.W.Frag} {a : Addr} {xs : List V} {g : TG} {tb : TS} {D : Ends} {σ : St} {H : Hp} (Pv : Nat → St → Hp → Prop) (h0 : Pv 0 σ H) (hl : ∀ i σ H, i ≤ xs.length → Pv i σ H → SqL K H a xs)
    (hs : ∀ i x p σ H, xs[i]? = some x → Pv i σ H → H p = none → g (.ref p) σ (upd H p (.tup [.int i, x])) fun σ2 H2 => tb { D with nx := Pv (i + 1), ct := Pv (i + 1), bk := D.nx } σ2 H2) (hd : ∀ σ H, Pv xs.length σ H → D.nx σ H) :
    ∃ W : Nat → Nat → St → Hp → Prop, (∃ m, W 0 m σ H) ∧ ∀ i m σ H, W i m σ H →
      ((Ite K a).stop i H ∧ D.nx σ H) ∨ ((Ite K a).go i H ∧ ∃ N : St → Hp → Prop, (∀ σ' H', N σ' H' → ∃ m', m' < m ∧ W (i + 1) m' σ' H') ∧ ∀ x H', (Ite K a).yld i H x H' → g x σ H' fun σ2 H2 => tb { D with nx := N, ct := N, bk := D.nx } σ2 H2) := by
  refine ⟨fun i m σ H => m = xs.length - i ∧ i ≤ xs.length ∧ Pv i σ H, ⟨xs.length, by simp, Nat.zero_le _, h0⟩, ?_⟩
  rintro i m σ H ⟨rfl, hi, p⟩
  have q := hl i σ H hi p
  by_cases hlt : i < xs.length
  · refine .inr ⟨⟨xs, xs[i], q, by simp [hlt]⟩, Pv (i + 1), fun σ' H' p' => ⟨xs.length - (i + 1), by omega, rfl, hlt, p'⟩, fun x H' y => ?_⟩
    obtain ⟨pp, z, e1, e2, e3, e4⟩ := y
    subst e2 e4
    exact hs i z pp σ _ (e3 xs q) p e1
  · have e : i = xs.length := by omega
    subst e
    exact .inl ⟨⟨xs, q, Nat.le_refl _⟩, hd σ H p⟩
end L2

set_option Elab.async false
set_option linter.all false
set_option maxRecDepth 100000
set_option maxHeartbeats 4000000
/-! list(enumerate(a list)): every pair is a tuple of its own, since the list keeps it. -/
namespace EnL
open PySem PySem.Calls PyProof.Rows PySem.Spec
section
variable {prog : Program} {w : World} {A : Around} {E : Value → Shared → Prop} {s : Shared}
end
section
variable {prog : Program} {w : World} {A : Around} {s : Shared} {R : Result → Shared → Prop} {items : Array Value}
end
section
variable {prog : Program} {w : World} {A : Around} {E : Value → Shared → Prop} {s : Shared} {items : Array Value} {e it l : Addr} {old : Value}
end
end EnL
namespace L2
open PySem PySem.Spec PyProof.Rows
section
variable {X : Cx}
end
end L2

set_option linter.all false
/-! Last and next places of a row, as plain functions. -/
namespace My
theorem getD_set_self {l : List Int} {k : Nat} {v : Int} (h : k < l.length) : (l.set k v).getD k 0 = v := by rw [List.getD_eq_getElem?_getD, List.getElem?_set_self h]; rfl
theorem getD_set_ne {l : List Int} {k r : Nat} {v : Int} (h : r ≠ k) : (l.set k v).getD r 0 = l.getD r 0 := by rw [List.getD_eq_getElem?_getD, List.getElem?_set_ne (fun z => h z.symm), ← List.getD_eq_getElem?_getD]
def lastIx (ns : List Int) (x : Int) : Nat → Int
  | 0 => -1
  | k + 1 => if ns.getD k 0 = x then (k : Int) else lastIx ns x k
def lastsM (ns : List Int) : List Int := (List.range ns.length).map fun k => lastIx ns (ns.getD k 0) k
def nextIx (ns : List Int) (x : Int) : Nat → Nat → Int
  | lo, 0 => (lo : Int)
  | lo, f + 1 => if ns.getD lo 0 = x then (lo : Int) else nextIx ns x (lo + 1) f
def nextsM (ns : List Int) : List Int := (List.range ns.length).map fun p => nextIx ns (ns.getD p 0) (p + 1) (ns.length - (p + 1))
theorem len_lasts (ns : List Int) : (lastsM ns).length = ns.length := by simp [lastsM]
theorem len_nexts (ns : List Int) : (nextsM ns).length = ns.length := by simp [nextsM]
theorem get_lasts {ns : List Int} {k : Nat} (h : k < ns.length) : (lastsM ns)[k]? = some (lastIx ns (ns.getD k 0) k) := by
  simp [lastsM, h]
theorem get_nexts {ns : List Int} {k : Nat} (h : k < ns.length) : (nextsM ns)[k]? = some (nextIx ns (ns.getD k 0) (k + 1) (ns.length - (k + 1))) := by
  simp [nextsM, h]
theorem lastIx_lt (ns : List Int) (x : Int) : ∀ k, -1 ≤ lastIx ns x k ∧ lastIx ns x k < k
  | 0 => ⟨by simp [lastIx], by simp [lastIx]⟩
  | k + 1 => by
    have ih := lastIx_lt ns x k
    unfold lastIx
    split <;> constructor <;> omega
theorem lastIx_at (ns : List Int) (x : Int) : ∀ k, 0 ≤ lastIx ns x k → ns.getD (lastIx ns x k).toNat 0 = x
  | 0, h => by simp [lastIx] at h
  | k + 1, h => by
    unfold lastIx at h ⊢
    split at h
    · rename_i e
      rw [if_pos e]
      simpa using e
    · rename_i e
      rw [if_neg e]
      exact lastIx_at ns x k h
theorem lastIx_max (ns : List Int) (x : Int) : ∀ k j, j < k → ns.getD j 0 = x → (j : Int) ≤ lastIx ns x k
  | 0, j, h, _ => by omega
  | k + 1, j, h, e => by
    unfold lastIx
    split
    · omega
    · rename_i ne
      by_cases hj : j = k
      · subst hj; exact absurd e ne
      · exact lastIx_max ns x k j (by omega) e
theorem nextIx_le (ns : List Int) (x : Int) : ∀ (f lo : Nat), (lo : Int) ≤ nextIx ns x lo f ∧ nextIx ns x lo f ≤ (lo + f : Nat)
  | 0, lo => ⟨by simp [nextIx], by simp [nextIx]⟩
  | f + 1, lo => by
    have ih := nextIx_le ns x f (lo + 1)
    unfold nextIx
    split <;> constructor <;> omega
theorem nextIx_at (ns : List Int) (x : Int) : ∀ f lo, nextIx ns x lo f < (lo + f : Nat) → ns.getD (nextIx ns x lo f).toNat 0 = x
  | 0, lo, h => by simp [nextIx] at h
  | f + 1, lo, h => by
    unfold nextIx at h ⊢
    split at h
    · rename_i e
      rw [if_pos e]
      simpa using e
    · rename_i e
      rw [if_neg e]
      exact nextIx_at ns x f (lo + 1) (by omega)
theorem nextIx_min (ns : List Int) (x : Int) : ∀ f lo j, lo ≤ j → j < lo + f → ns.getD j 0 = x → nextIx ns x lo f ≤ (j : Int)
  | 0, lo, j, h, h', _ => by omega
  | f + 1, lo, j, h, h', e => by
    unfold nextIx
    split
    · omega
    · rename_i ne
      by_cases hj : j = lo
      · subst hj; exact absurd e ne
      · exact nextIx_min ns x f (lo + 1) j (by omega) (by omega) e
theorem nextIx_unique {ns : List Int} {x M : Int} {lo n : Nat} (hn : lo ≤ n) (h1 : M = n ∨ ∃ j : Nat, lo ≤ j ∧ j < n ∧ ns.getD j 0 = x ∧ M = (j : Int)) (h2 : M ≤ n) (h3 : ∀ j : Nat, lo ≤ j → j < n → ns.getD j 0 = x → M ≤ (j : Int)) : M = nextIx ns x lo (n - lo) := by
  have l1 := nextIx_le ns x (n - lo) lo
  have ge : nextIx ns x lo (n - lo) ≤ M := by
    rcases h1 with h | ⟨j, hj, hj', e, rfl⟩
    · omega
    · exact nextIx_min ns x (n - lo) lo j hj (by omega) e
  by_cases h0 : nextIx ns x lo (n - lo) < n
  · have e := nextIx_at ns x (n - lo) lo (by omega)
    have := h3 (nextIx ns x lo (n - lo)).toNat (by omega) (by omega) e
    omega
  · omega
/-- what stands at p behind i turns: the next place so far, or the length -/
def NB (ns : List Int) (p i : Nat) (v : Int) : Prop :=
  (∃ j : Nat, p < j ∧ j < i ∧ ns.getD j 0 = ns.getD p 0 ∧ (∀ k, p < k → k < j → ns.getD k 0 ≠ ns.getD p 0) ∧ v = (j : Int)) ∨ ((∀ k, p < k → k < i → ns.getD k 0 ≠ ns.getD p 0) ∧ v = (ns.length : Int))
theorem NB.zero {ns : List Int} {p : Nat} : NB ns p 0 ns.length := .inr ⟨fun k _ h => by omega, rfl⟩
theorem NB.end_ {ns : List Int} {p : Nat} {v : Int} (hp : p < ns.length) (h : NB ns p ns.length v) : v = nextIx ns (ns.getD p 0) (p + 1) (ns.length - (p + 1)) := by
  rcases h with ⟨j, h1, h2, h3, h4, rfl⟩ | ⟨h1, rfl⟩
  · refine nextIx_unique (by omega) (.inr ⟨j, by omega, h2, h3, rfl⟩) (by omega) fun k hk hk' e => ?_
    by_cases z : k < j
    · exact absurd e (h4 k (by omega) z)
    · omega
  · exact nextIx_unique (by omega) (.inl rfl) (Int.le_refl _) fun k hk hk' e => absurd e (h1 k (by omega) hk')
/-- turn i where the number stood nowhere ahead -/
theorem NB.stay {ns : List Int} {p i : Nat} {v : Int} (hl : lastIx ns (ns.getD i 0) i = -1) (h : NB ns p i v) : NB ns p (i + 1) v := by
  have no : ∀ k, k < i → ns.getD k 0 ≠ ns.getD i 0 := fun k hk e => by have := lastIx_max ns (ns.getD i 0) i k hk e; omega
  rcases h with ⟨j, h1, h2, h3, h4, rfl⟩ | ⟨h1, rfl⟩
  · exact .inl ⟨j, h1, by omega, h3, h4, rfl⟩
  · refine .inr ⟨fun k hk hk' e => ?_, rfl⟩
    by_cases z : k < i
    · exact h1 k hk z e
    · have : k = i := by omega
      subst this
      exact no p hk e.symm
/-- turn i where it stood at l last: elsewhere -/
theorem NB.other {ns : List Int} {p i l : Nat} {v : Int} (hl : lastIx ns (ns.getD i 0) i = (l : Int)) (hp : p ≠ l) (h : NB ns p i v) : NB ns p (i + 1) v := by
  have l1 := lastIx_lt ns (ns.getD i 0) i
  have l2 := lastIx_at ns (ns.getD i 0) i (by omega)
  rw [hl] at l1 l2
  simp only [Int.toNat_natCast] at l2
  rcases h with ⟨j, h1, h2, h3, h4, rfl⟩ | ⟨h1, rfl⟩
  · exact .inl ⟨j, h1, by omega, h3, h4, rfl⟩
  · refine .inr ⟨fun k hk hk' e => ?_, rfl⟩
    by_cases z : k < i
    · exact h1 k hk z e
    · have : k = i := by omega
      subst this
      have hm := lastIx_max ns (ns.getD k 0) k p hk e.symm
      rw [hl] at hm
      exact h1 l (by omega) (by omega) (by rw [l2, e])
/-- .. there -/
theorem NB.here {ns : List Int} {i l : Nat} (hl : lastIx ns (ns.getD i 0) i = (l : Int)) : NB ns l (i + 1) i := by
  have l1 := lastIx_lt ns (ns.getD i 0) i
  have l2 := lastIx_at ns (ns.getD i 0) i (by omega)
  rw [hl] at l1 l2
  simp only [Int.toNat_natCast] at l2
  refine .inl ⟨i, by omega, by omega, l2.symm, fun k hk hk' e => ?_, rfl⟩
  have hm := lastIx_max ns (ns.getD i 0) i k hk' (by rw [e, l2])
  rw [hl] at hm
  omega
end My

set_option Elab.async false
set_option linter.all false
set_option maxRecDepth 100000
set_option maxHeartbeats 4000000
/-! Short words of our own: a def that is there, the built-ins that the text leaves alone, heaps that changed at one place. -/
namespace L2
open PySem PySem.Spec PyProof.Rows
/-- the check of a comprehension's names, to be run -/
def lcChk (sc osc : Scope) (oN own N : List Str) (ix : List Nat) : Bool :=
  sc.kind == .function && sc.names.all (fun y => match y.2 with
    | .cell => sc.names.lookup y.1 == some .cell
    | .local => sc.names.lookup y.1 == some .local
    | .free => osc.names.lookup y.1 == some .cell || osc.names.lookup y.1 == some .free
    | _ => true) && decide (N = own ++ ix.map fun i => oN.getD i "") && ix.all fun i => sc.names.lookup (oN.getD i "") == some .free
theorem LcOk.of {X : Cx} {sc : Scope} {N own : List Str} {ix : List Nat} (h : lcChk sc X.env.scope X.N own N ix = true) : LcOk X sc N own ix := by
  unfold lcChk at h
  simp only [Bool.and_eq_true, decide_eq_true_eq, List.all_eq_true] at h
  obtain ⟨⟨⟨h1, h2⟩, h3⟩, h4⟩ := h
  refine ⟨by simpa using h1, fun y hy e => ?_, fun y hy e => ?_, fun y hy e => ?_, h3, fun i hi => by simpa using h4 i hi⟩
  · have := h2 y hy; rw [e] at this; simpa using this
  · have := h2 y hy; rw [e] at this; simpa using this
  · have := h2 y hy; rw [e] at this
    simpa [Env.kindOf] using this
section
/-! the rules whose readings name the written part, with that part said by itself -/
variable {X : Cx} {K : PySem.W.Frag}
theorem ixK (e : X.K = K) : IxR X (rIxL K) := by subst e; exact ix_list
theorem ixTK (e : X.K = K) : IxR X (rIxT K) := by subst e; exact ix_tup
theorem slK (e : X.K = K) : SlR X (rSlL K) := by subst e; exact sl_list
theorem eqLK (e : X.K = K) (hu : X.A.units < cLine) : OpR X (compareOp .Eq) (rEqL K false) := by subst e; exact op_eqL hu
theorem neLK (e : X.K = K) (hu : X.A.units < cLine) : OpR X (compareOp .NotEq) (rEqL K true) := by subst e; exact op_neL hu
theorem ninLK (e : X.K = K) : OpR X (compareOp .NotIn) (rIn K true) := by subst e; exact op_notIn_seq
theorem lenK (e : X.K = K) : CallR X (.builtin "len") (fun xs H Q => ∃ p ys, xs = [.ref p] ∧ (SqL K H p ys ∨ SqT K H p ys) ∧ Q (.int ys.length) H) := by subst e; exact call_len_seq
theorem listK (e : X.K = K) : CallR X (.type "list") (fun xs H Q => ∃ p ys, xs = [.ref p] ∧ (SqL K H p ys ∨ SqT K H p ys) ∧ ∀ l, H l = none → Q (.ref l) (upd H l (.lst ys))) := by subst e; exact call_list_of
theorem sumK (e : X.K = K) (hc : X.calm = true) : CallR X (.builtin "sum") (fun xs H Q => ∃ (a : Addr) (ns : List Int), xs = [.ref a] ∧ SqL K H a (ns.map V.int) ∧ Q (.int ns.sum) H) := by subst e; exact call_sum hc
theorem isiK (e : X.K = K) : CallR X (.builtin "isinstance") (fun xs H Q => ∃ (x : V) (T : String) (t : Value) (b : Bool), xs = [x, .ty T] ∧ TyOf K H x t ∧ PySem.W.kitOne K t (.type T) = some b ∧ Q (.bl b) H) := by subst e; exact call_isinst
theorem piK {tg l : Expr} {tl : TE} (e : X.K = K) (hl : PE X l tl) : PI X tg l (iList K tl) := by subst e; exact pi_list hl
theorem pieK {a : Expr} {ta : TA} {p pos tp : Pos} {elts : List Expr} {x1 : Nat} (e : X.K = K) (hg : Gl X "enumerate") (hm : X.mg "enumerate" = none) (ha : PA X [a] ta) (hs : starEach [a] X.env = [(false, eval a X.env)] := by rfl) :
    PI X (.Tuple elts x1 tp) (.Call (.Name "enumerate" p) [a] [] pos) (iEnum K ta) := by subst e; exact pi_enum hg hm ha hs
theorem pgtK {es : List Expr} {k : Nat} {t : TGs} {n : Nat} {pos : Pos} (e : X.K = K) (hc : X.calm = true) (h : PGs X es t) (hn : (assignEach es X.env).length = n := by rfl) (hst : (assignEach es X.env).findIdx? (·.1) = none := by rfl) : PG X (.Tuple es k pos) (gTup K n t) := by subst e; exact pg_tup hc h hn hst
end
/-- the built-ins stand as Python has them -/
structure Blt (mg : Str → Option Value) : Prop where
  len : mg "len" = none
  range : mg "range" = none
  enumerate : mg "enumerate" = none
  list : mg "list" = none
  int : mg "int" = none
  bool : mg "bool" = none
  sum : mg "sum" = none
  max : mg "max" = none
  min : mg "min" = none
  isinstance : mg "isinstance" = none
  set : mg "set" = none
  sorted : mg "sorted" = none
  tuple : mg "tuple" = none
  dict : mg "dict" = none
  abs : mg "abs" = none
  reversed : mg "reversed" = none
  repr : mg "repr" = none
  all : mg "all" = none
  any : mg "any" = none
  zip : mg "zip" = none
/-- a def that is there and keeps its promise -/
structure Has (P : Program) (w : World) (K : PySem.W.Frag) (mg : Str → Option Value) (base : Heap) (x : Str) (k : Nat) (ps : List Str) (sp : Sp) : Prop where
  ex : ∃ f fd, FnOk P w K mg base CX0 k f fd ps sp ∧ mg x = some (.ref f) ∧ PySem.W.keepIn K (.ref f) = true ∧ Binds K fd ps []
theorem pe_callH {X : Cx} {k : Nat} {ps : List Str} {sp : Sp} {x : Str} {p pos : Pos} {e : Expr} {es : List Expr} {t : TA} (h : Has X.prog X.w X.K X.mg X.base x k ps sp) (hr : Room k X.A) (hg : Gl X x) (ha : PA X (e :: es) t)
    (hdb : (x == ("__debug__" : Str)) = false := by decide) (he : starEach (e :: es) X.env = (false, eval e X.env) :: starEach es X.env := by rfl) (hpl : (backTo pos (starEach es X.env)).any (·.1) = false := by rfl) :
    PE X (.Call (.Name x p) (e :: es) [] pos) (tCall sp [] E0 t) := by
  obtain ⟨f, fd, F, hm, hk, hb⟩ := h.ex
  exact pe_call F hr hg hm hk hb .nil pass0 ha hdb he hpl
/-- all but what stands at h is as it was -/
def SameX (h : Addr) (H H' : Hp) : Prop := ∀ b o, b ≠ h → H b = some o → H' b = some o
theorem SameX.trans {h : Addr} {H H1 H2 : Hp} (a : SameX h H H1) (b : SameX h H1 H2) : SameX h H H2 := fun c o n e => b c o n (a c o n e)
theorem Same.x {h : Addr} {H H1 : Hp} (a : Same H H1) : SameX h H H1 := fun c o _ e => a c o e
theorem Same.fresh {H H1 : Hp} {p : Addr} {o : HO} (a : Same H H1) (hp : H p = none) : Same H (upd H1 p o) := fun c u e => by
  rw [upd_ne (ne_of_none e hp)]; exact a c u e
theorem Same.new {H : Hp} {p : Addr} {o : HO} (hp : H p = none) : Same H (upd H p o) := (Same.refl H).fresh hp
theorem SameX.free {h : Addr} {H H' : Hp} (e : SameX h H H') {l : Addr} (n : l ≠ h) (q : H' l = none) : H l = none := by
  cases z : H l with
  | none => rfl
  | some o => rw [e l o n z] at q; cases q
theorem atI_int {ns : List Int} {r : Int} (h0 : 0 ≤ r) (h1 : r < ns.length) : atI (ns.map V.int) r = some (.int (ns.getD r.toNat 0)) := by
  have e : r = (r.toNat : Int) := by omega
  have hl : r.toNat < ns.length := by omega
  have : atI (ns.map V.int) (r.toNat : Int) = some (.int (ns.getD r.toNat 0)) := atI_nat (by rw [List.getElem?_map, List.getElem?_eq_getElem hl, List.getD_eq_getElem?_getD, List.getElem?_eq_getElem hl]; rfl)
  rw [← e] at this; exact this
theorem ixN_int {n : Nat} {r : Int} (h0 : 0 ≤ r) (h1 : r < n) : ixN n r = some r.toNat := by unfold ixN; rw [if_pos h0, if_pos h1]
theorem cutV_drop (xs : List V) (m : Nat) : cutV xs (some (m : Int)) none = xs.drop m := by
  unfold cutV
  rw [HT.sIx_nat, HT.sIx_none]
  by_cases h : m ≤ xs.length
  · rw [Nat.min_eq_left h, List.take_of_length_le (by rw [List.length_drop]; omega)]
  · rw [Nat.min_eq_right (by omega), Nat.sub_self, List.take_zero, List.drop_of_length_le (by omega)]
theorem SameX.put {h : Addr} {H H1 : Hp} {p : Addr} {o : HO} (a : SameX h H H1) (hp : H p = none) : SameX h H (upd H1 p o) := fun c u n e => by
  rw [upd_ne (ne_of_none e hp)]; exact a c u n e
theorem getD_all {α : Type} {l : List α} {i : Nat} {d : α} {R : α → Prop} (h : ∀ x ∈ l, R x) (hi : i < l.length) : R (l.getD i d) := by
  rw [List.getD_eq_getElem?_getD, List.getElem?_eq_getElem hi]; exact h _ (List.getElem_mem hi)
theorem SameX.of_upd {h : Addr} {H : Hp} {o : HO} : SameX h H (upd H h o) := fun c u n e => by rw [upd_ne n]; exact e
theorem rep_one {α : Type} (x : α) (k : Nat) : (List.replicate k [x]).flatten = List.replicate k x := by
  induction k with
  | zero => rfl
  | succ k ih => rw [List.replicate_succ, List.flatten_cons, ih, List.replicate_succ]; rfl
/-- a list of ints in, a new one out -/
def spList (K : PySem.W.Frag) (f : List Int → List Int) : Sp := fun vs H Q _ => ∃ (a : Addr) (ns : List Int), vs = [.ref a] ∧ SqL K H a (ns.map V.int) ∧ ns.length ≤ 1000 ∧ ∀ (l : Addr) (H' : Hp), H l = none → Same H H' → H' l = some (.lst ((f ns).map V.int)) → Q (.ref l) H'
theorem int_at {ns : List Int} {i : Nat} {x : V} (h : (ns.map V.int)[i]? = some x) : i < ns.length ∧ x = .int (ns.getD i 0) := by
  rw [List.getElem?_map] at h
  cases e : ns[i]? with
  | none => rw [e] at h; cases h
  | some z =>
    rw [e] at h
    refine ⟨(List.getElem?_eq_some_iff.mp e).1, ?_⟩
    rw [List.getD_eq_getElem?_getD, e]
    exact (Option.some.inj h).symm
theorem len_int {ns : List Int} : (ns.map V.int).length = ns.length := List.length_map _
theorem take_snoc {α : Type} {l : List α} {i : Nat} {x : α} (h : l[i]? = some x) : l.take (i + 1) = l.take i ++ [x] := by rw [List.take_add_one, h]; rfl
theorem atI_at {ns : List Int} {j : Nat} (h : j < ns.length) : atI (ns.map V.int) (j : Int) = some (.int (ns.getD j 0)) := atI_nat (by rw [List.getElem?_map, List.getElem?_eq_getElem h, List.getD_eq_getElem?_getD, List.getElem?_eq_getElem h]; rfl)
theorem atV {xs : List V} {i : Nat} {v : V} (h : xs[i]? = some v) : atI xs (i : Int) = some v := atI_nat h
end L2

set_option Elab.async false
set_option linter.all false
set_option maxRecDepth 100000
set_option maxHeartbeats 4000000
/-! Sets of ints, list.index, is True, other slices. -/
namespace L2
open PySem PySem.Spec PyProof.Rows
/-- the unlike numbers of a list, in the order in which they are met -/
def dd (ns : List Int) : List Int := ns.foldl (fun acc x => if acc.any (· == x) then acc else acc ++ [x]) []
theorem dd_first (ns : List Int) : firstMet (fun i => ns.getD i 0) ns.length = dd ns := by
  unfold firstMet dd
  have : (List.range ns.length).map (fun i => ns.getD i 0) = ns := by
    refine List.ext_getElem (by simp) fun j h1 h2 => ?_
    rw [List.getElem_map, List.getElem_range, List.getD_eq_getElem?_getD, List.getElem?_eq_getElem h2]; rfl
  rw [this]; rfl
section
variable {X : Cx} {K : PySem.W.Frag}
theorem call_set_ints (e : X.K = K) (hc : X.calm = true) : CallR X (.type "set") (fun xs H Q => ∃ (a : Addr) (ns : List Int), xs = [.ref a] ∧ SqL K H a (ns.map V.int) ∧ ns.length ≤ 4000 ∧ ∀ p, H p = none → Q (.ref p) (upd H p (.set (fun k => (dd ns).any (· == k)) (dd ns).length))) := by
  subst e
  intro pins s σ H xs us Q I r h
  obtain ⟨a, ns, rfl, ha, hl, q⟩ := h
  obtain ⟨u, rfl, ru⟩ := vals1 r
  cases ru
  obtain ⟨its, rv, p, _⟩ := I.list ha
  have hlen : its.length = ns.length := by have := rv.length; rw [List.length_map] at this; exact this.symm
  refine PySem.call_set_list (ns := ns) (I.ok.hd hc) p.isList (by simpa using intsAre_of rv) (by rw [List.size_toArray, hlen]; unfold scanBound; omega) fun h' tk hS hk => ?_
  have hsz : its.toArray.size = ns.length := by rw [List.size_toArray, hlen]
  rw [hsz, dd_first] at hS
  exact ⟨.ref s.heap.objs.size, _, I.laid (o := .set (fun k => (dd ns).any (· == k)) (dd ns).length) (fun b o z => hk b o (Heap.lt_size z) z) (Nat.le_refl _) hS, rfl, q _ (I.hok.fresh (Nat.le_refl _))⟩
theorem call_len_setO : CallR X (.builtin "len") (fun xs H Q => ∃ (a : Addr) (S : Int → Bool) (n : Nat), xs = [.ref a] ∧ H a = some (.set S n) ∧ Q (.int n) H) := by
  intro pins s σ H xs us Q I r h
  obtain ⟨a, S, n, rfl, ha, q⟩ := h
  obtain ⟨u, rfl, ru⟩ := vals1 r
  cases ru
  obtain ⟨o, es, ep, t, ho, hex, hd, _, _, hsb, hf, hn⟩ := (show s.heap.SetOf (intKind X.prog X.w) a S n from I.hok a _ ha)
  subst hn
  exact call_len_set ho hex hd hf (by unfold scanBound at hsb; omega) ⟨.int _, H, I.tok _, ⟨_, rfl⟩, q⟩
theorem boot_set' : bootBuiltins "set" = some (.type "set") := by decide +kernel
end
end L2

set_option linter.all false
set_option maxHeartbeats 4000000
/-! Windows: first places, how many unlike numbers; and the wrappers for a class. -/
namespace My
open L2
theorem dd_snoc (l : List Int) (x : Int) : dd (l ++ [x]) = if (dd l).any (· == x) then dd l else dd l ++ [x] := by
  unfold dd; rw [List.foldl_append]; rfl
theorem dd_go (x : Int) : ∀ (l acc : List Int), x ∈ l.foldl (fun acc x => if acc.any (· == x) then acc else acc ++ [x]) acc ↔ x ∈ acc ∨ x ∈ l
  | [], acc => by simp
  | y :: r, acc => by
    rw [List.foldl_cons, dd_go x r]
    by_cases h : acc.any (· == y) = true
    · rw [if_pos h]
      obtain ⟨w, hw, e⟩ := List.any_eq_true.mp h
      have e : w = y := by simpa using e
      subst e
      constructor
      · rintro (z | z)
        · exact .inl z
        · exact .inr (List.mem_cons_of_mem _ z)
      · rintro (z | z)
        · exact .inl z
        · rcases List.mem_cons.mp z with q | q
          · subst q; exact .inl hw
          · exact .inr q
    · rw [if_neg h]
      simp only [List.mem_append, List.mem_cons, List.not_mem_nil, or_false]
      constructor
      · rintro ((z | z) | z)
        · exact .inl z
        · exact .inr (.inl z)
        · exact .inr (.inr z)
      · rintro (z | (z | z))
        · exact .inl (.inl z)
        · exact .inl (.inr z)
        · exact .inr z
theorem dd_mem (x : Int) (l : List Int) : x ∈ dd l ↔ x ∈ l := by
  unfold dd
  rw [dd_go]
  simp
theorem dd_any (x : Int) (l : List Int) : (dd l).any (· == x) = decide (x ∈ l) := by
  by_cases h : x ∈ l
  · rw [decide_eq_true h, List.any_eq_true]; exact ⟨x, (dd_mem x l).mpr h, by simp⟩
  · rw [decide_eq_false h, Bool.eq_false_iff]
    intro q
    obtain ⟨w, hw, e⟩ := List.any_eq_true.mp q
    have : w = x := by simpa using e
    rw [this] at hw
    exact h ((dd_mem x l).mp hw)
theorem dd_len_snoc (l : List Int) (x : Int) : (dd (l ++ [x])).length = (dd l).length + if x ∈ l then 0 else 1 := by
  rw [dd_snoc, dd_any]
  by_cases h : x ∈ l
  · rw [if_pos h, decide_eq_true h]; rfl
  · rw [if_neg h, decide_eq_false h]; simp
/-- the window's numbers -/
def win (ns : List Int) (f b : Nat) : List Int := (ns.drop f).take (b - f)
theorem win_self (ns : List Int) (f : Nat) : win ns f f = [] := by unfold win; rw [Nat.sub_self, List.take_zero]
theorem win_snoc {ns : List Int} {f b : Nat} (hf : f ≤ b) (hb : b < ns.length) : win ns f (b + 1) = win ns f b ++ [ns.getD b 0] := by
  unfold win
  rw [show b + 1 - f = (b - f) + 1 by omega, List.take_add_one, List.getElem?_drop, show f + (b - f) = b by omega, List.getElem?_eq_getElem hb, List.getD_eq_getElem?_getD, List.getElem?_eq_getElem hb]
  rfl
theorem win_mem {ns : List Int} {f b : Nat} {x : Int} (hb : b ≤ ns.length) : x ∈ win ns f b ↔ ∃ j, f ≤ j ∧ j < b ∧ ns.getD j 0 = x := by
  unfold win
  constructor
  · intro h
    obtain ⟨i, hi, e⟩ := List.mem_iff_getElem.mp h
    rw [List.getElem_take, List.getElem_drop] at e
    have hi' := hi
    rw [List.length_take, List.length_drop] at hi'
    refine ⟨f + i, by omega, by omega, ?_⟩
    rw [List.getD_eq_getElem?_getD, List.getElem?_eq_getElem (by omega)]
    exact e
  · rintro ⟨j, h1, h2, e⟩
    refine List.mem_iff_getElem.mpr ⟨j - f, by rw [List.length_take, List.length_drop]; omega, ?_⟩
    rw [List.getElem_take, List.getElem_drop]
    rw [List.getD_eq_getElem?_getD, List.getElem?_eq_getElem (by omega)] at e
    rw [← e]
    simp only [Option.getD_some]
    congr 1
    omega
theorem last_win {ns : List Int} {f b : Nat} (hb : b < ns.length) : lastIx ns (ns.getD b 0) b < (f : Int) ↔ ns.getD b 0 ∉ win ns f b := by
  rw [win_mem (Nat.le_of_lt hb)]
  constructor
  · rintro h ⟨j, h1, h2, e⟩
    have := lastIx_max ns (ns.getD b 0) b j h2 e
    omega
  · intro h
    by_cases h0 : 0 ≤ lastIx ns (ns.getD b 0) b
    · have e := lastIx_at ns (ns.getD b 0) b h0
      have l := lastIx_lt ns (ns.getD b 0) b
      by_cases hf : lastIx ns (ns.getD b 0) b < f
      · exact hf
      · exact absurd ⟨(lastIx ns (ns.getD b 0) b).toNat, by omega, by omega, e⟩ h
    · omega
/-- the first places of a window -/
def firstsM (ns : List Int) (f b : Nat) : List Int := ((List.range (b - f)).filter fun i => decide (lastIx ns (ns.getD (f + i) 0) (f + i) < (f : Int))).map fun i => ((f + i : Nat) : Int)
def cnt (ns : List Int) (f b : Nat) : Nat := (firstsM ns f b).length
theorem firsts_self (ns : List Int) (f : Nat) : firstsM ns f f = [] := by unfold firstsM; rw [Nat.sub_self]; rfl
theorem firsts_snoc {ns : List Int} {f b : Nat} (hf : f ≤ b) : firstsM ns f (b + 1) = firstsM ns f b ++ (if lastIx ns (ns.getD b 0) b < (f : Int) then [(b : Int)] else []) := by
  unfold firstsM
  rw [show b + 1 - f = (b - f) + 1 by omega, List.range_succ, filter_snoc, List.map_append, show f + (b - f) = b by omega]
  congr 1
  by_cases h : lastIx ns (ns.getD b 0) b < (f : Int)
  · rw [if_pos h, if_pos (decide_eq_true h)]
    show [((f + (b - f) : Nat) : Int)] = _
    rw [show f + (b - f) = b by omega]
  · rw [if_neg h, if_neg (by rw [decide_eq_false h]; exact Bool.false_ne_true)]; rfl
theorem cnt_self (ns : List Int) (f : Nat) : cnt ns f f = 0 := by unfold cnt; rw [firsts_self]; rfl
theorem cnt_snoc {ns : List Int} {f b : Nat} (hf : f ≤ b) : cnt ns f (b + 1) = cnt ns f b + if lastIx ns (ns.getD b 0) b < (f : Int) then 1 else 0 := by
  unfold cnt; rw [firsts_snoc hf, List.length_append]; split <;> rfl
theorem cnt_dd {ns : List Int} {f : Nat} : ∀ {b : Nat}, f ≤ b → b ≤ ns.length → (dd (win ns f b)).length = cnt ns f b := by
  intro b
  induction b with
  | zero =>
    intro h _
    have : f = 0 := by omega
    subst this
    rw [win_self, cnt_self]; rfl
  | succ b ih =>
    intro h hb
    by_cases e : f = b + 1
    · subst e; rw [win_self, cnt_self]; rfl
    · have hf : f ≤ b := by omega
      rw [win_snoc hf (by omega), dd_len_snoc, cnt_snoc hf, ih hf (by omega)]
      have := last_win (f := f) (show b < ns.length by omega)
      by_cases z : ns.getD b 0 ∈ win ns f b
      · rw [if_pos z, if_neg (fun q => this.mp q z)]
      · rw [if_neg z, if_pos (this.mpr z)]
theorem cnt_le (ns : List Int) (f b : Nat) : cnt ns f b ≤ b - f := by
  unfold cnt firstsM
  rw [List.length_map]
  have := List.length_filter_le (fun i => decide (lastIx ns (ns.getD (f + i) 0) (f + i) < (f : Int))) (List.range (b - f))
  rw [List.length_range] at this; exact this
end My
namespace L2
open PySem PySem.Spec PyProof.Rows
/-! ### a class's methods -/
structure HasM (P : Program) (w : World) (K : PySem.W.Frag) (mg : Str → Option Value) (base : Heap) (C : Addr) (m : Str) (k : Nat) (ps : List Str) (sp : Sp) : Prop where
  ex : ∃ f fd, FnOk P w K mg base CX0 k f fd ps sp ∧ Meth K C m f ∧ Binds K fd ps []
structure HasC (P : Program) (w : World) (K : PySem.W.Frag) (mg : Str → Option Value) (base : Heap) (x : Str) (C : Addr) (k : Nat) (ps : List Str) (sp : Sp) : Prop where
  ex : ∃ f fd, Mk K C f ∧ FnOk P w K mg base CX0 k f fd ps sp ∧ mg x = some (.ref C) ∧ Binds K fd ps []
section
variable {X : Cx} {K : PySem.W.Frag} {C : Addr} {k : Nat} {ps : List Str} {sp : Sp} {x m : Str} {p pos apos : Pos} {o e : Expr} {es : List Expr} {t : TA} {ta : TE}
theorem pe_methH {pl : Sem Bool} (h : HasM X.prog X.w X.K X.mg X.base C m k ps sp) (c : Cls X.K C) (hr : Room k X.A) (he : PE X o ta) (ha : PA X (e :: es) t)
    (hst : starEach (e :: es) X.env = (false, eval e X.env) :: starEach es X.env := by rfl) (hpl : (backTo pos (starEach es X.env)).any (·.1) = false := by rfl)
    (ht : eval (.Call (.Attribute o m apos) (e :: es) [] pos) X.env = (do
      let ov ← eval o X.env
      standAt apos.atName
      let (f, first) ← holding [ov] (getMethod ov m pl)
      callWith pos f first (backTo pos (starEach (e :: es) X.env)) (backToKw pos (keywordEach [] X.env))) := by rfl) :
    PE X (.Call (.Attribute o m apos) (e :: es) [] pos) (tMeth C m sp [] E0 ta t) := by
  obtain ⟨f, fd, F, hm, hb⟩ := h.ex
  exact pe_meth he c hm F hr hb .nil pass0 ha hst hpl ht
theorem pe_makeH (h : HasC X.prog X.w X.K X.mg X.base x C k ps sp) (hr : Room (k + 1) X.A) (hg : Gl X x) (ha : PA X (e :: es) t)
    (hdb : (x == ("__debug__" : Str)) = false := by decide) (he : starEach (e :: es) X.env = (false, eval e X.env) :: starEach es X.env := by rfl) (hpl : (backTo pos (starEach es X.env)).any (·.1) = false := by rfl) :
    PE X (.Call (.Name x p) (e :: es) [] pos) (tMake C sp [] E0 t) := by
  obtain ⟨f, fd, M, F, hm, hb⟩ := h.ex
  exact pe_make M F hr hg hm hb .nil pass0 ha hdb he hpl
theorem fldK {f : Str} (eK : X.K = K) (he : PE X e ta) (hb : attributeBase e f X.env (eval e X.env) = eval e X.env) : PE X (.Attribute e f pos) (tFld K ta f) := by subst eK; exact pe_fld he hb
theorem iteNB {c : Bool} {A B : Prop} (h : c = true) (k : B) : if (!c) = true then A else B := by subst h; exact k
end
/-! ### a row made ready -/
theorem kc_ln : ¬ (("lasts" : Str) = "nexts") := by decide +kernel
def flds (l n : Addr) : List (Str × V) := putF "nexts" (.ref n) (putF "lasts" (.ref l) [])
theorem flds_l (l n : Addr) : (flds l n).lookup ("lasts" : Str) = some (.ref l) := by unfold flds; rw [lookup_putF, if_neg kc_ln, lookup_putF, if_pos rfl]
theorem flds_no (l n : Addr) {m : Str} (h1 : ¬ m = "nexts") (h2 : ¬ m = "lasts") : (flds l n).lookup m = none := by
  unfold flds; rw [lookup_putF, if_neg h1, lookup_putF, if_neg h2]; rfl
structure RdAt (C : Addr) (H : Hp) (p : Addr) (ns : List Int) : Prop where
  ex : ∃ dx l n, H p = some (.ins C dx (flds l n)) ∧ H l = some (.lst ((My.lastsM ns).map V.int)) ∧ H n = some (.lst ((My.nextsM ns).map V.int))
theorem RdAt.same {C : Addr} {H H' : Hp} {p : Addr} {ns : List Int} (x : RdAt C H p ns) (s : Same H H') : RdAt C H' p ns := let ⟨dx, l, n, e1, e2, e3⟩ := x.ex; ⟨dx, l, n, s _ _ e1, s _ _ e2, s _ _ e3⟩
structure RdTxt (K : PySem.W.Frag) (C : Addr) : Prop where
  cl : Cls K C
  nL : NoAttr K C "lasts"
  nN : NoAttr K C "nexts"
def spRInit (K : PySem.W.Frag) (C : Addr) : Sp := fun vs H Q _ => ∃ (p a dx : Addr) (ns : List Int), vs = [.ref p, .ref a] ∧ H p = some (.ins C dx []) ∧ SqL K H a (ns.map V.int) ∧ ns.length ≤ 1000 ∧ ∀ H', RdAt C H' p ns → (∀ b o, b ≠ p → H b = some o → H' b = some o) → Q .non H'
def spRUnlike (C : Addr) : Sp := fun vs H Q _ => ∃ (p : Addr) (ns : List Int) (f b : Nat), vs = [.ref p, .int f, .int b] ∧ RdAt C H p ns ∧ f ≤ b ∧ b ≤ ns.length ∧ ns.length ≤ 1000 ∧ ∀ H', Same H H' → Q (.int (My.cnt ns f b)) H'
def spRFirsts (C : Addr) : Sp := fun vs H Q _ => ∃ (p : Addr) (ns : List Int) (f b : Nat), vs = [.ref p, .int f, .int b] ∧ RdAt C H p ns ∧ f ≤ b ∧ b ≤ ns.length ∧ ns.length ≤ 1000 ∧ ∀ l H', H l = none → Same H H' → H' l = some (.lst ((My.firstsM ns f b).map V.int)) → Q (.ref l) H'
def spWhole : Sp := fun vs H Q _ => ∃ t : Int, vs = [.int t] ∧ Q (.bl true) H
def spPlace : Sp := fun vs H Q _ => ∃ t g : Int, vs = [.int t, .int g] ∧ Q (.bl (decide (0 ≤ t) && decide (t ≤ g))) H
end L2

set_option linter.all false
set_option maxHeartbeats 4000000
/-! Plain rows, and rows of last places. -/
namespace My
open L2
theorem getD_app_l {l r : List Int} {j : Nat} (h : j < l.length) : (l ++ r).getD j 0 = l.getD j 0 := by
  rw [List.getD_eq_getElem?_getD, List.getElem?_append_left h, ← List.getD_eq_getElem?_getD]
theorem getD_app_at {l : List Int} {x : Int} {i : Nat} (h : l.length = i) : (l ++ [x]).getD i 0 = x := by
  subst h
  rw [List.getD_eq_getElem?_getD, List.getElem?_append_right (Nat.le_refl _), Nat.sub_self]; rfl
theorem ext_getD {a b : List Int} (hl : a.length = b.length) (h : ∀ j, j < a.length → a.getD j 0 = b.getD j 0) : a = b := by
  refine List.ext_getElem hl fun j h1 h2 => ?_
  have := h j h1
  rw [List.getD_eq_getElem?_getD, List.getD_eq_getElem?_getD, List.getElem?_eq_getElem h1, List.getElem?_eq_getElem h2] at this
  exact this
end My
namespace L2
open PySem
end L2

set_option linter.all false
set_option maxHeartbeats 4000000
/-! Sums over all windows. -/
namespace My
open L2
def sumR : Nat → (Nat → Int) → Int
  | 0, _ => 0
  | k + 1, g => sumR k g + g k
theorem sumR_succ (k : Nat) (g : Nat → Int) : sumR (k + 1) g = sumR k g + g k := rfl
theorem sumR_congr {k : Nat} {g h : Nat → Int} (e : ∀ i, i < k → g i = h i) : sumR k g = sumR k h := by
  induction k with
  | zero => rfl
  | succ k ih => unfold sumR; rw [ih fun i hi => e i (by omega), e k (by omega)]
theorem sumR_add (k : Nat) (g h : Nat → Int) : sumR k (fun i => g i + h i) = sumR k g + sumR k h := by
  induction k with
  | zero => rfl
  | succ k ih => rw [sumR_succ, sumR_succ, sumR_succ, ih]; omega
theorem sumR_zero (k : Nat) : sumR k (fun _ => 0) = 0 := by
  induction k with
  | zero => rfl
  | succ k ih => unfold sumR; rw [ih]; rfl
theorem sumR_swap (a b : Nat) (h : Nat → Nat → Int) : sumR a (fun i => sumR b (fun j => h i j)) = sumR b (fun j => sumR a (fun i => h i j)) := by
  induction a with
  | zero => exact (sumR_zero b).symm
  | succ a ih =>
    show sumR a _ + sumR b _ = sumR b (fun j => sumR a (fun i => h i j) + h a j)
    rw [ih, sumR_add]
theorem sum_map (k : Nat) (g : Nat → Int) : ((List.range k).map g).sum = sumR k g := by
  induction k with
  | zero => rfl
  | succ k ih => rw [List.range_succ, List.map_append, List.sum_append, ih]; simp [sumR]
theorem sum_filter (k : Nat) (p : Nat → Bool) (g : Nat → Int) : (((List.range k).filter p).map g).sum = sumR k (fun i => if p i = true then g i else 0) := by
  induction k with
  | zero => rfl
  | succ k ih =>
    rw [List.range_succ, filter_snoc, List.map_append, List.sum_append, ih]
    rw [sumR_succ]
    by_cases h : p k = true
    · rw [if_pos h, if_pos h]; simp
    · rw [if_neg h, if_neg h]; simp
/-! from the left -/
theorem cnt_cons {ns : List Int} {f : Nat} : ∀ {b : Nat}, f < b → b ≤ ns.length → cnt ns f b = cnt ns (f + 1) b + if ns.getD f 0 ∈ win ns (f + 1) b then 0 else 1 := by
  intro b
  induction b with
  | zero => intro h; omega
  | succ b ih =>
    intro h hb
    by_cases e : f = b
    · subst e
      rw [cnt_snoc (Nat.le_refl _), cnt_self, cnt_self, win_self, if_pos (lastIx_lt ns _ f).2]; rfl
    · have hf : f < b := by omega
      rw [cnt_snoc (by omega), cnt_snoc (by omega), ih hf (by omega)]
      have w1 := last_win (f := f) (show b < ns.length by omega)
      have w2 := last_win (f := f + 1) (show b < ns.length by omega)
      have m1 := win_mem (ns := ns) (f := f) (b := b) (x := ns.getD b 0) (by omega)
      have m2 := win_mem (ns := ns) (f := f + 1) (b := b) (x := ns.getD b 0) (by omega)
      have m3 := win_mem (ns := ns) (f := f + 1) (b := b) (x := ns.getD f 0) (by omega)
      have m4 := win_mem (ns := ns) (f := f + 1) (b := b + 1) (x := ns.getD f 0) hb
      by_cases A : ns.getD b 0 ∈ win ns (f + 1) b
      · have A1 : ns.getD b 0 ∈ win ns f b := m1.mpr (by obtain ⟨j, a, c, d⟩ := m2.mp A; exact ⟨j, by omega, c, d⟩)
        rw [if_neg (fun q => w1.mp q A1), if_neg (fun q => w2.mp q A)]
        by_cases Bq : ns.getD f 0 ∈ win ns (f + 1) b
        · rw [if_pos Bq, if_pos (m4.mpr (by obtain ⟨j, a, c, d⟩ := m3.mp Bq; exact ⟨j, a, by omega, d⟩))]
        · have : ns.getD f 0 ∉ win ns (f + 1) (b + 1) := fun q => by
            obtain ⟨j, a, c, d⟩ := m4.mp q
            by_cases z : j = b
            · subst z; exact Bq (by rw [← d]; exact A)
            · exact Bq (m3.mpr ⟨j, a, by omega, d⟩)
          rw [if_neg Bq, if_neg this]
      · rw [if_pos (w2.mpr A)]
        by_cases E : ns.getD b 0 = ns.getD f 0
        · have A1 : ns.getD b 0 ∈ win ns f b := m1.mpr ⟨f, Nat.le_refl _, hf, E.symm⟩
          have Bq : ns.getD f 0 ∉ win ns (f + 1) b := by rw [← E]; exact A
          have C1 : ns.getD f 0 ∈ win ns (f + 1) (b + 1) := m4.mpr ⟨b, by omega, by omega, E⟩
          rw [if_neg (fun q => w1.mp q A1), if_neg Bq, if_pos C1]
        · have A1 : ns.getD b 0 ∉ win ns f b := fun q => by
            obtain ⟨j, a, c, d⟩ := m1.mp q
            by_cases z : j = f
            · subst z; exact E d.symm
            · exact A (m2.mpr ⟨j, by omega, c, d⟩)
          rw [if_pos (w1.mpr A1)]
          have iff1 : ns.getD f 0 ∈ win ns (f + 1) (b + 1) ↔ ns.getD f 0 ∈ win ns (f + 1) b := by
            rw [m3, m4]
            constructor
            · rintro ⟨j, a, c, d⟩
              by_cases z : j = b
              · subst z; exact absurd d E
              · exact ⟨j, a, by omega, d⟩
            · rintro ⟨j, a, c, d⟩; exact ⟨j, a, by omega, d⟩
          by_cases Bq : ns.getD f 0 ∈ win ns (f + 1) b
          · rw [if_pos Bq, if_pos (iff1.mpr Bq)]
          · rw [if_neg Bq, if_neg (fun q => Bq (iff1.mp q))]
end My

set_option Elab.async false
set_option linter.all false
set_option maxRecDepth 100000
set_option maxHeartbeats 4000000
/-! xs[::c] of a list, list(range(..)) -/
namespace L2
open PySem PySem.Spec PyProof.Rows
theorem vals_pick {xs : List V} {us : List Value} (r : Vals xs us) : ∀ is : List Nat, Vals (is.filterMap (xs[·]?)) (is.filterMap (us[·]?))
  | [] => .nil
  | i :: is => by
    rw [List.filterMap_cons, List.filterMap_cons]
    cases h : xs[i]? with
    | none => rw [r.none_of h]; exact vals_pick r is
    | some x =>
      obtain ⟨u, e, q⟩ := r.get h
      rw [e]
      exact .cons q (vals_pick r is)
section
variable {X : Cx} {K : PySem.W.Frag} {e es : Expr} {te ts : TE} {pos p2 : Pos}
end
end L2

set_option Elab.async false
set_option linter.all false
set_option maxRecDepth 100000
set_option maxHeartbeats 4000000
/-! A row made ready that outlasts changes elsewhere. -/
namespace L2
open PySem PySem.Spec PyProof.Rows
/-- all but what S holds stays -/
def SameP (S : Addr → Prop) (H H' : Hp) : Prop := ∀ b o, ¬ S b → H b = some o → H' b = some o
theorem Same.p {S : Addr → Prop} {H H1 : Hp} (a : Same H H1) : SameP S H H1 := fun c o _ e => a c o e
theorem SameX.p' {h : Addr} {H H1 : Hp} (a : SameX h H H1) : SameP (fun b => b = h) H H1 := a
structure RdFr (C : Addr) (H H' : Hp) (p : Addr) (ns : List Int) : Prop where
  ex : ∃ dx l n, H' p = some (.ins C dx (flds l n)) ∧ H' l = some (.lst ((My.lastsM ns).map V.int)) ∧ H' n = some (.lst ((My.nextsM ns).map V.int)) ∧ H l = none ∧ H n = none
structure RdX (C : Addr) (S : Addr → Prop) (H : Hp) (p : Addr) (ns : List Int) : Prop where
  ex : ∃ dx l n, H p = some (.ins C dx (flds l n)) ∧ H l = some (.lst ((My.lastsM ns).map V.int)) ∧ H n = some (.lst ((My.nextsM ns).map V.int)) ∧ ¬ S p ∧ ¬ S l ∧ ¬ S n
theorem RdX.rd {C : Addr} {S : Addr → Prop} {H : Hp} {p : Addr} {ns : List Int} (x : RdX C S H p ns) : RdAt C H p ns := let ⟨dx, l, n, e1, e2, e3, _⟩ := x.ex; ⟨dx, l, n, e1, e2, e3⟩
theorem RdX.p {C : Addr} {S : Addr → Prop} {H H' : Hp} {p : Addr} {ns : List Int} (x : RdX C S H p ns) (s : SameP S H H') : RdX C S H' p ns :=
  let ⟨dx, l, n, e1, e2, e3, n1, n2, n3⟩ := x.ex; ⟨dx, l, n, s _ _ n1 e1, s _ _ n2 e2, s _ _ n3 e3, n1, n2, n3⟩
theorem RdFr.x {C : Addr} {S : Addr → Prop} {H H' : Hp} {p : Addr} {ns : List Int} (x : RdFr C H H' p ns) (hp : H p = none) (hs : ∀ b, S b → ∃ o, H b = some o) : RdX C S H' p ns := by
  obtain ⟨dx, l, n, e1, e2, e3, n1, n2⟩ := x.ex
  have k : ∀ a, H a = none → ¬ S a := fun a e z => by obtain ⟨o, q⟩ := hs a z; rw [e] at q; cases q
  exact ⟨dx, l, n, e1, e2, e3, k p hp, k l n1, k n n2⟩
def spRInitF (K : PySem.W.Frag) (C : Addr) : Sp := fun vs H Q _ => ∃ (p a dx : Addr) (ns : List Int), vs = [.ref p, .ref a] ∧ H p = some (.ins C dx []) ∧ SqL K H a (ns.map V.int) ∧ ns.length ≤ 1000 ∧ ∀ H', RdFr C H H' p ns → (∀ b o, b ≠ p → H b = some o → H' b = some o) → Q .non H'
theorem make_rdF {K : PySem.W.Frag} {C a : Addr} {H : Hp} {Q : Addr → Hp → Prop} {ns : List Int} (hq : SqL K H a (ns.map V.int)) (hl : ns.length ≤ 1000) (k : ∀ p H', H p = none → Same H H' → RdFr C H H' p ns → Q p H') :
    ∀ x dx, H x = none → H dx = none → dx ≠ x → spRInitF K C (.ref x :: ([.ref a] ++ [])) (upd (upd H dx (.own x)) x (.ins C dx [])) (fun v H2 => v = .non ∧ Q x H2) E0 := fun x dx hx hdx hne => by
  have s0 : Same H (upd (upd H dx (.own x)) x (.ins C dx [])) := fun b o e => by rw [upd_ne (ne_of_none e hx), upd_ne (ne_of_none e hdx)]; exact e
  refine ⟨x, a, dx, ns, rfl, upd_same, s0.seq hq, hl, fun H' r s => ⟨rfl, k x H' hx (fun b o e => s b o (ne_of_none e hx) (s0 b o e)) ?_⟩⟩
  obtain ⟨d, l, n, e1, e2, e3, n1, n2⟩ := r.ex
  refine ⟨d, l, n, e1, e2, e3, ?_, ?_⟩
  · cases z : H l with
    | none => rfl
    | some o => rw [s0 _ _ z] at n1; cases n1
  · cases z : H n with
    | none => rfl
    | some o => rw [s0 _ _ z] at n2; cases n2
end L2

set_option Elab.async false
set_option linter.all false
set_option maxRecDepth 100000
set_option maxHeartbeats 4000000
/-! Ends and begins. -/
namespace My
open L2
theorem cnt_mono_r {ns : List Int} {f b : Nat} (hf : f ≤ b) : ∀ k, cnt ns f b ≤ cnt ns f (b + k)
  | 0 => Nat.le_refl _
  | k + 1 => by
    have h := cnt_mono_r hf k (ns := ns)
    have e := cnt_snoc (ns := ns) (f := f) (b := b + k) (by omega)
    rw [show b + (k + 1) = b + k + 1 by omega, e]; omega
theorem cnt_up {ns : List Int} {f b c : Nat} (hf : f ≤ b) (hb : b ≤ c) : cnt ns f b ≤ cnt ns f c := by
  have := cnt_mono_r (ns := ns) hf (c - b)
  rw [show b + (c - b) = c by omega] at this; exact this
theorem cnt_mono_l {ns : List Int} {b : Nat} (hb : b ≤ ns.length) : ∀ k f, f + k ≤ b → cnt ns (f + k) b ≤ cnt ns f b
  | 0, f, _ => Nat.le_refl _
  | k + 1, f, h => by
    have h1 := cnt_mono_l hb k (f + 1) (by omega)
    have e := cnt_cons (ns := ns) (f := f) (b := b) (by omega) hb
    rw [show f + (k + 1) = f + 1 + k by omega]; omega
theorem cnt_dn {ns : List Int} {f g b : Nat} (hb : b ≤ ns.length) (h : f ≤ g) (hg : g ≤ b) : cnt ns g b ≤ cnt ns f b := by
  have := cnt_mono_l hb (g - f) f (by omega)
  rw [show f + (g - f) = g by omega] at this; exact this
theorem firsts_at {ns : List Int} {f : Nat} : ∀ {b : Nat}, f ≤ b → ∀ j, j < cnt ns f b → ∃ g, f ≤ g ∧ g < b ∧ cnt ns f g = j ∧ cnt ns f (g + 1) = j + 1 ∧ (firstsM ns f b)[j]? = some (g : Int) := by
  intro b
  induction b with
  | zero => intro h j hj; have := cnt_le ns f 0; omega
  | succ b ih =>
    intro h j hj
    by_cases e : f = b + 1
    · subst e; rw [cnt_self] at hj; omega
    · have hf : f ≤ b := by omega
      have ec := cnt_snoc (ns := ns) hf
      rw [firsts_snoc hf]
      by_cases hjb : j < cnt ns f b
      · obtain ⟨g, h1, h2, h3, h4, h5⟩ := ih hf j hjb
        exact ⟨g, h1, by omega, h3, h4, by rw [List.getElem?_append_left (by exact hjb)]; exact h5⟩
      · by_cases z : lastIx ns (ns.getD b 0) b < (f : Int)
        · rw [if_pos z] at ec
          have hj' : j = cnt ns f b := by omega
          refine ⟨b, hf, by omega, hj'.symm, by omega, ?_⟩
          rw [if_pos z, List.getElem?_append_right (by show (firstsM ns f b).length ≤ j; exact Nat.le_of_not_lt hjb)]
          rw [show j - (firstsM ns f b).length = 0 by show j - cnt ns f b = 0; omega]
          rfl
        · rw [if_neg z] at ec; omega
def endV (ns : List Int) (f m : Nat) : V := if m = 0 then .int f else if m ≤ cnt ns f ns.length then .int ((firstsM ns f ns.length).getD (m - 1) 0 + 1) else .non
theorem end_0 (ns : List Int) (f : Nat) : endV ns f 0 = .int f := if_pos rfl
theorem end_spec {ns : List Int} {f m : Nat} (hf : f ≤ ns.length) (hm : 0 < m) : (cnt ns f ns.length < m ∧ endV ns f m = .non) ∨ ∃ e, f ≤ e ∧ e < ns.length ∧ endV ns f m = .int ((e + 1 : Nat) : Int) ∧ cnt ns f (e + 1) = m ∧ cnt ns f e + 1 = m := by
  unfold endV
  rw [if_neg (by omega)]
  by_cases h : m ≤ cnt ns f ns.length
  · obtain ⟨g, h1, h2, h3, h4, h5⟩ := firsts_at (ns := ns) hf (m - 1) (by omega)
    refine .inr ⟨g, h1, h2, ?_, by omega, by omega⟩
    rw [if_pos h, List.getD_eq_getElem?_getD, h5]; rfl
  · exact .inl ⟨by omega, if_neg h⟩
theorem end_unique {ns : List Int} {f m e : Nat} (hf : f ≤ e) (he : e < ns.length) (hm : 0 < m) (h1 : cnt ns f (e + 1) = m) (h2 : cnt ns f e + 1 = m) : endV ns f m = .int ((e + 1 : Nat) : Int) := by
  rcases end_spec (ns := ns) (f := f) (by omega) hm with ⟨z, _⟩ | ⟨e', q1, q2, q3, q4, q5⟩
  · have := cnt_up (ns := ns) (f := f) (b := e + 1) (c := ns.length) (by omega) (by omega); omega
  · rw [q3]
    have : e' = e := by
      rcases Nat.lt_trichotomy e' e with z | z | z
      · have := cnt_up (ns := ns) (f := f) (b := e' + 1) (c := e) (by omega) (by omega); omega
      · exact z
      · have := cnt_up (ns := ns) (f := f) (b := e + 1) (c := e') (by omega) (by omega); omega
    rw [this]
end My
namespace L2
open PySem PySem.Spec PyProof.Rows
def spREnd (C : Addr) : Sp := fun vs H Q _ => ∃ (p : Addr) (ns : List Int) (f m : Nat), vs = [.ref p, .int f, .int m] ∧ RdAt C H p ns ∧ f ≤ ns.length ∧ ns.length ≤ 1000 ∧ ∀ H', Same H H' → Q (My.endV ns f m) H'
end L2

set_option Elab.async false
set_option linter.all false
set_option maxRecDepth 100000
set_option maxHeartbeats 4000000
/-! list(range(n)) -/
namespace L2
open PySem PySem.Spec PyProof.Rows
theorem vals_of_get : ∀ {xs : List V} {us : List Value}, xs.length = us.length → (∀ (i : Nat) (x : V) (u : Value), xs[i]? = some x → us[i]? = some u → RelV x u) → Vals xs us
  | [], [], _, _ => .nil
  | x :: xs, u :: us, h, k => .cons (k 0 x u rfl rfl) (vals_of_get (by simpa using h) fun i y v h1 h2 => k (i + 1) y v (by simpa using h1) (by simpa using h2))
  | [], _ :: _, h, _ => by simp at h
  | _ :: _, [], h, _ => by simp at h
section
variable {X : Cx}
end
end L2

set_option Elab.async false
set_option linter.all false
set_option maxRecDepth 100000
set_option maxHeartbeats 4000000
/-! in / not in of ints; a row turned about. -/
namespace L2
open PySem PySem.Spec PyProof.Rows
end L2
namespace My
open L2
theorem end_non {ns : List Int} {f m : Nat} (hm : cnt ns f ns.length < m) : endV ns f m = .non := by unfold endV; rw [if_neg (by omega), if_neg (by omega)]
end My

set_option Elab.async false
set_option linter.all false
set_option maxRecDepth 100000
set_option maxHeartbeats 4000000
/-! Lists of last places, there and back. -/
namespace My
open L2
theorem drop_at (ns : List Int) (a j : Nat) : (ns.drop a).getD j 0 = ns.getD (a + j) 0 := by rw [List.getD_eq_getElem?_getD, List.getElem?_drop, ← List.getD_eq_getElem?_getD]
end My
namespace L2
open PySem PySem.Spec PyProof.Rows
section
variable {X : Cx}
end
end L2

set_option Elab.async false
set_option linter.all false
set_option maxRecDepth 100000
set_option maxHeartbeats 4000000
/-! l[:0] = w -/
namespace L2
open PySem PySem.Spec PyProof.Rows
section
variable {prog : Program} {w : World} {A : Around} {E : Value → Shared → Prop} {s : Shared}
end
section
variable {X : Cx} {o e0 : Expr} {to t0 : TE} {pos p2 : Pos}
end
end L2

set_option Elab.async false
set_option linter.all false
set_option maxRecDepth 100000
set_option maxHeartbeats 4000000
/-! lists put together, either of two readings, first and last of the places found. -/
namespace L2
open PySem PySem.Spec PyProof.Rows
section
variable {X : Cx} {K : PySem.W.Frag}
end
end L2
namespace My
open L2
end My

set_option Elab.async false
set_option linter.all false
set_option maxRecDepth 100000
set_option maxHeartbeats 4000000
/-! dict(enumerate(a list)): the places as keys. -/
namespace EnD
open PySem PySem.Calls PyProof.Rows PySem.Spec L2
section
variable {prog : Program} {w : World} {A : Around} {E : Value → Shared → Prop} {s : Shared}
end
end EnD
namespace L2
open PySem PySem.Spec PyProof.Rows
section
variable {X : Cx}
end
end L2

set_option Elab.async false
set_option linter.all false
set_option maxRecDepth 100000
set_option maxHeartbeats 4000000
/-! things of any kind; what are last places, of any list -/
namespace L2
open PySem PySem.Spec PyProof.Rows
section
variable {X : Cx} {k : Nat} {sp : Sp} {x : Str} {p pos : Pos}
end
/-! the judgements, closed: a long display is not opened again at each node -/
section
variable {X : Cx} {e c : Expr} {es : List Expr} {te : TE} {t : TA} {pos : Pos} {st : Stmt} {rest a b : List Stmt} {ts us : TS} {tc : TT}
@[irreducible] def QA (X : Cx) (es : List Expr) (t : TA) : Prop := PA X es t
@[irreducible] def QE (X : Cx) (e : Expr) (t : TE) : Prop := PE X e t
theorem QA.un (h : QA X es t) : PA X es t := by unfold QA at h; exact h
theorem QA.mk (h : PA X es t) : QA X es t := by unfold QA; exact h
theorem QE.un (h : QE X e te) : PE X e te := by unfold QE at h; exact h
theorem QE.mk (h : PE X e te) : QE X e te := by unfold QE; exact h
theorem qa_nil : QA X [] tNil := .mk pa_nil
theorem qa_cons (ha : PE X e te) (hr : QA X es t) (hs : starEach (e :: es) X.env = (false, eval e X.env) :: starEach es X.env := by rfl) : QA X (e :: es) (tCons te t) := .mk (pa_cons ha hr.un hs)
theorem qe_lst (h : QA X es t) : QE X (.List es pos) (tLst t) := .mk (pe_lst h.un)
end
end L2
namespace My
open PySem L2
theorem ints_of : ∀ {ys : List V}, (∀ y ∈ ys, ∃ m, y = V.int m) → ∃ ms : List Int, ys = ms.map V.int
  | [], _ => ⟨[], rfl⟩
  | y :: r, h => by
    obtain ⟨m, rfl⟩ := h y (List.mem_cons_self ..)
    obtain ⟨ms, rfl⟩ := ints_of (ys := r) fun z hz => h z (List.mem_cons_of_mem _ hz)
    exact ⟨m :: ms, rfl⟩
end My

set_option Elab.async false
set_option linter.all false
set_option maxRecDepth 100000
set_option maxHeartbeats 4000000
/-! list(reversed(l)), a[i:j:c], l.count(k), abs. -/
namespace RvL
open PySem PySem.Spec PyProof.Rows
theorem nolen : typeLookup (.type "list_reverseiterator") "__len__" = pure none := by rw [typeLookup_type, builtinLookup_eq_fast]; kernel_rfl
theorem hint : typeLookup (.type "list_reverseiterator") "__length_hint__" = pure (some (.builtin "list_reverseiterator.__length_hint__")) := by rw [typeLookup_type, builtinLookup_eq_fast]; kernel_rfl
section
variable {prog : Program} {w : World} {A : Around} {E : Value → Shared → Prop} {s : Shared} {items : Array Value} {it l : Addr}
theorem extend {R : Result → Shared → Prop} (hh : A.handled = none) (hit : s.heap.IsRevIter it l ((items.size : Int) - 1)) (hl : s.heap.IsList l items) (hne : l ≠ it) (S : Addr) (hSi : S ≠ it) (hSl : S ≠ l) (res : Value) (c0 : Nat)
    (hS : s.heap.get? S = some { cls := .type "list", data := .seq #[] c0 }) (hn : items.size ≤ sizeLine)
    (hR : ∀ h' tk acc c, (∀ b o, b ≠ S → b ≠ it → s.heap.get? b = some o → h'.get? b = some o) → h'.get? S = some { cls := .type "list", dict := none, data := .seq acc c, slots := #[] } → ItemsOf (fun i v => items[items.size - 1 - i]? = some v) acc items.size → R (.ok (.ret res)) { s with heap := h', toks := tk }) :
    wpAny (model prog w) A.in1 (Builtin.List.listExtendWith (.ref S) (.ref it) res)
      (fun fin s' => match fin with | .done f => R (.ok f) s' | .again c' => c'.quiet = true ∧ codeAny (model prog w) A c' R s') (fun x s' => R (.error x) s') s := by
  have hT := hit.typeIs
  have W := (Walks.listRev (prog := prog) (w := w) (A := A.in1) hh it l hne items).toS
  have h1 : Builtin.List.listSameRef (.ref S) (.ref it) = false := by simp [Builtin.List.listSameRef, hSi]
  have hSf : S ∉ [it, l] := fun h => by
    rcases List.mem_cons.mp h with z | z
    · exact hSi z
    · exact hSl (by simpa using z)
  unfold Builtin.List.listExtendWith
  refine wpAny_bind (wpAny_typeOf (T := "list_reverseiterator") hT ?_)
  rw [if_neg (by rw [h1]; decide)]
  refine wpAny_bind (wpAny_pyIter_revIter hit ?_)
  refine wpAny_bind (wpAny_holding ?_)
  unfold Builtin.List.listLengthHint
  refine wpAny_bind (wpAny_specialOf hT nolen ?_)
  show wpAny _ A.in1 (specialOf (Value.ref it) (Str.ofString "__length_hint__") >>= _) _ _ _
  refine wpAny_bind (wpAny_specialOf hT hint ?_)
  (generalize hid : ("list_reverseiterator.__length_hint__" : String) = id0; (fail_if_success (clear hid id0)); wp_delta; rw [show splitId id0 = some ("list_reverseiterator", "__length_hint__") from by subst hid; decide +kernel]; subst hid)
  refine wpAny_bind (wpAny_isInstance (b := true) hT (by rw [isSubtype_type]; kernel_rfl) ?_)
  refine wpAny_pure ?_
  rw [if_neg (by decide)]
  refine wpAny_pure ⟨plainId_quiet PySem.F.plain_extend_loop _, codeAny_extend_loopS W hn S hSf res items.size 0 _ #[] _ rfl (Nat.zero_le _) ⟨Nat.zero_le _, ?_, hl⟩ hS (ItemsOf.nil _) fun s' acc' c' hm hS' hacc => ?_⟩
  · have e : (items.size : Int) - 1 - ((0 : Nat) : Int) = (items.size : Int) - 1 := by omega
    rw [e]; exact hit
  · rw [Moved.eq_with hm]
    refine hR s'.heap s'.toks acc' c' (fun b o hb hi e => hm.heap b o (fun hmem => ?_) e) hS' hacc
    rcases List.mem_cons.mp hmem with e' | hmem
    · exact hb e'
    · exact hi (List.mem_singleton.mp hmem)
theorem call {Q : Value → Shared → Prop} (hh : A.handled = none) (hit : s.heap.IsRevIter it l ((items.size : Int) - 1)) (hl : s.heap.IsList l items) (hne : l ≠ it) (hn : items.size ≤ sizeLine)
    (hQ : ∀ h' tk acc c, (∀ b o, b ≠ it → s.heap.get? b = some o → h'.get? b = some o) → h'.get? s.heap.objs.size = some { cls := .type "list", dict := none, data := .seq acc c, slots := #[] } → ItemsOf (fun i v => items[items.size - 1 - i]? = some v) acc items.size → Q (.ref s.heap.objs.size) { s with heap := h', toks := tk }) :
    wpAny (model prog w) A (PySem.call (.type "list") [.ref it]) Q E s := by
  refine callType_codes (Q₁ := fun obj s₁ => obj = .ref s.heap.objs.size ∧ s₁ = { s with heap := s.heap.push { cls := .type "list", data := .seq #[] } }) PySem.F.called_list (PySem.F.typeCall_list_1 _) PySem.F.entry_list_init (code_list_new _ ⟨rfl, rfl⟩) fun obj s1 h1 => ?_
  obtain ⟨rfl, rfl⟩ := h1
  have hS : (s.heap.push { cls := .type "list", data := .seq #[] }).get? s.heap.objs.size = some { cls := .type "list", data := .seq #[] } := Heap.get?_push_size _ rfl
  have li : it < s.heap.objs.size := by obtain ⟨_, q, _⟩ := hit; exact Heap.lt_size q
  have ll : l < s.heap.objs.size := by obtain ⟨_, q, _⟩ := hl; exact Heap.lt_size q
  refine ⟨⟨_, hS, rfl⟩, PySem.F.args_list_init_2 _ _, ?_⟩
  show wpAny _ _ (do let old ← Builtin.List.listItems (.ref s.heap.objs.size); Builtin.List.listUpdate (.ref s.heap.objs.size) (fun _ => #[]); letGo old.toList.reverse; Builtin.List.listExtendWith (.ref s.heap.objs.size) (.ref it) .none) _ _ _
  refine wpAny_bind ?_
  unfold Builtin.List.listItems
  refine wpAny_bind (wpAny_seqItems hS rfl (wpAny_pure ?_))
  show wpAny _ _ (updateSeq s.heap.objs.size (fun _ => #[]) >>= fun _ => letGo (#[] : Array Value).toList.reverse >>= fun _ => Builtin.List.listExtendWith (.ref s.heap.objs.size) (.ref it) .none) _ _ _
  refine wpAny_bind (wpAny_updateSeq hS rfl ?_)
  have hS2 := Heap.get?_update_self (Obj.mapSeq (fun _ => (#[] : Array Value))) hS rfl
  have oth : ∀ b o, s.heap.get? b = some o → ((s.heap.push { cls := .type "list", data := .seq #[] }).update s.heap.objs.size (Obj.mapSeq (fun _ => (#[] : Array Value)))).get? b = some o :=
    fun b o q => (Heap.get?_update_other _ _ (Nat.ne_of_gt (Heap.lt_size q))).trans (Heap.get?_push_of_some _ q)
  refine wpAny_bind (wpAny_letGo ?_)
  refine extend (A := A.in1) (items := items) (l := l) (it := it) hh (hit.at fun o q => oth it o q) (hl.at fun o q => oth l o q) hne _ (Nat.ne_of_gt li) (Nat.ne_of_gt ll) .none _ hS2 hn fun h' tk acc c hk hS' hacc => ?_
  exact ⟨rfl, hQ h' tk acc c (fun b o h1 q => hk b o (Nat.ne_of_lt (Heap.lt_size q)) h1 (oth b o q)) hS' hacc⟩
end
end RvL
namespace L2
open PySem PySem.Spec PyProof.Rows
theorem boot_reversed' : bootBuiltins "reversed" = some (.type "reversed") := by decide +kernel
theorem boot_abs' : bootBuiltins "abs" = some (.builtin "abs") := by decide +kernel
section
variable {X : Cx} {K : PySem.W.Frag}
def tListRev (K : PySem.W.Frag) (ta : TA) : TE := fun σ H Q => ta σ H fun vs H1 => ∃ a xs, vs = [.ref a] ∧ SqL K H1 a xs ∧ ∀ l, H1 l = none → Q (.ref l) (upd H1 l (.lst xs.reverse))
theorem pe_listRev {e : Expr} {ta : TA} {p p2 pos pos2 : Pos} (eK : X.K = K) (hc : X.calm = true) (hg : Gl X "reversed") (hm : X.mg "reversed" = none) (hg2 : Gl X "list") (hm2 : X.mg "list" = none) (ha : PA X [e] ta) (hs : starEach [e] X.env = [(false, eval e X.env)] := by rfl)
    (hs2 : starEach [.Call (.Name "reversed" p2) [e] [] pos2] X.env = [(false, eval (.Call (.Name "reversed" p2) [e] [] pos2) X.env)] := by rfl) :
    PE X (.Call (.Name "list" p) [.Call (.Name "reversed" p2) [e] [] pos2] [] pos) (tListRev K ta) := by
  subst eK
  intro pins s σ H Q I h
  refine wpAny_Call_Name_kw (ld_blt I hg2 hm2 boot_list' ?_)
  refine PyProof.Rows.callWith_type1 (?_) hs2 rfl
  rw [hs2]
  refine Calls.spliced_cons ?_
  refine Call_ (ld_blt I hg hm boot_reversed' (PyProof.Rows.callWith_type1 (thn (ha pos2 pins s σ H _ I h) fun us s1 ⟨vs, H1, I1, r1, q1⟩ => ?_) hs rfl))
  obtain ⟨a, xs, e1, hq, q⟩ := q1
  subst e1
  obtain ⟨u, rfl, ru⟩ := vals1 r1
  cases ru
  obtain ⟨its, rv, pl, hz⟩ := I1.list hq
  refine call_reversed_list pl.isList ?_
  refine Calls.spliced_nil ?_
  have hlen := rv.length
  have I2 : Inv X pins σ H1 { s1 with heap := s1.heap.push (revObj a ((its.toArray.size : Int) - 1)) } := I1.kept (t' := s1.toks) fun b o e => Heap.get?_push_of_some _ e
  have hal : a < s1.heap.objs.size := by obtain ⟨o, q, _⟩ := pl.isList; exact Heap.lt_size q
  refine RvL.call (s := { s1 with heap := s1.heap.push (revObj a ((its.toArray.size : Int) - 1)) }) (items := its.toArray) (l := a) (it := s1.heap.objs.size) (I2.ok.hd hc) ⟨_, Heap.get?_push_size _ rfl, rfl, rfl⟩ (pl.isList.at fun o z => Heap.get?_push_of_some _ z) (Nat.ne_of_lt hal) (by rw [List.size_toArray, ← hlen]; exact hz) fun h2 tk acc c hk2 hS2 hI => ?_
  dsimp only at hk2 hS2 ⊢
  obtain ⟨hsz, hit⟩ := hI
  have hsp : (s1.heap.push (revObj a ((its.toArray.size : Int) - 1))).objs.size = s1.heap.objs.size + 1 := Heap.size_push ..
  have hle : s1.heap.objs.size ≤ (s1.heap.push (revObj a ((its.toArray.size : Int) - 1))).objs.size := by rw [hsp]; exact Nat.le_succ _
  refine ⟨.ref _, _, I1.laid (t' := tk) (o := .lst xs.reverse) (fun b o z => hk2 b o (Nat.ne_of_lt (Heap.lt_size z)) (Heap.get?_push_of_some _ z)) hle ?_, rfl, q _ (I1.hok.fresh hle)⟩
  refine ⟨by rw [List.length_reverse]; exact hz, acc.toList, c, vals_of_get (by rw [List.length_reverse, hlen]; exact ((Array.length_toList (xs := acc)).trans (hsz.trans List.size_toArray)).symm) fun i x u h1 h2 => ?_, hS2⟩
  have hi : i < xs.length := by
    have := (List.getElem?_eq_some_iff.mp h1).1
    rw [List.length_reverse] at this; exact this
  have e2 := hit i u (by rw [← Array.getElem?_toList]; exact h2)
  rw [List.getElem?_reverse hi] at h1
  obtain ⟨u', eu, ru⟩ := rv.get h1
  rw [List.getElem?_toArray, List.size_toArray, ← hlen, eu] at e2
  cases e2
  exact ru
/-- the items of xs[i:j:c] -/
def pick3 (xs : List V) (i j c : Int) : List V := (sliceRange (sliceBounds (some i) (some j) (some c) xs.length).1 (sliceBounds (some i) (some j) (some c) xs.length).2.1 (sliceBounds (some i) (some j) (some c) xs.length).2.2).filterMap (xs[·]?)
theorem pick3_le {xs : List V} {us : List Value} (r : Vals xs us) (i j c : Int) : (pick3 xs i j c).length ≤ xs.length := by
  have h1 := slicePick_size_le us.toArray (some i) (some j) (some c)
  have h2 := (vals_pick r (sliceRange (sliceBounds (some i) (some j) (some c) xs.length).1 (sliceBounds (some i) (some j) (some c) xs.length).2.1 (sliceBounds (some i) (some j) (some c) xs.length).2.2)).length
  unfold slicePick at h1
  rw [List.size_toArray, List.size_toArray, ← r.length] at h1
  unfold pick3
  rw [h2]
  refine Nat.le_trans (Nat.le_of_eq ?_) h1
  congr 2
  funext i
  rw [List.getElem?_toArray]
theorem pick3_mem {xs : List V} {i j c : Int} {x : V} (h : x ∈ pick3 xs i j c) : x ∈ xs := by
  unfold pick3 at h
  obtain ⟨i, _, e⟩ := List.mem_filterMap.mp h
  exact List.mem_of_getElem? e
variable {e el eh es : Expr} {te tl th ts : TE} {pos p2 : Pos}
def tSl3 (K : PySem.W.Frag) (te tl th ts : TE) : TE := fun σ H Q => te σ H fun x H1 => tl σ H1 fun y1 H2 => ∃ i, y1 = .int i ∧ th σ H2 fun y2 H3 => ∃ j, y2 = .int j ∧ ts σ H3 fun y H4 => ∃ c a xs, y = .int c ∧ c ≠ 0 ∧ x = .ref a ∧ SqL K H4 a xs ∧ ∀ p, H4 p = none → (pick3 xs i j c).length ≤ xs.length → Q (.ref p) (upd H4 p (.lst (pick3 xs i j c)))
/-- a[i:j:c] -/
theorem pe_slice3 (eK : X.K = K) (he : PE X e te) (hl : PE X el tl) (hh : PE X eh th) (hs : PE X es ts) : PE X (.Subscript e (.Slice (some el) (some eh) (some es) p2) pos) (tSl3 K te tl th ts) := by
  subst eK
  intro pins s σ H Q I h
  refine Subscript_ (thn (he pins s σ H _ I h) fun v s1 ⟨x, H1, I1, r1, q1⟩ => ?_)
  refine wpAny_Slice ?_
  rw [evalPart_some]
  refine thn (hl pins s1 σ H1 _ I1 q1) fun v1 s2 ⟨y1, H2, I2, ry1, q2⟩ => ?_
  obtain ⟨i, rfl, q2⟩ := q2
  obtain ⟨t1, rfl⟩ := ry1
  rw [evalPart_some]
  refine thn (hh pins s2 σ H2 _ I2 q2) fun v2 s3 ⟨y2, H3, I3, ry2, q3⟩ => ?_
  obtain ⟨j, rfl, q3⟩ := q3
  obtain ⟨t2, rfl⟩ := ry2
  rw [evalPart_some]
  refine thn (hs pins s3 σ H3 _ I3 q3) fun vs s4 ⟨y, H4, I4, ry, q4⟩ => ?_
  obtain ⟨c, a, xs, rfl, hc, rfl, hx, q⟩ := q4
  obtain ⟨t, rfl⟩ := ry
  cases r1
  have I5 : Inv X pins σ H4 { s4 with heap := s4.heap.push { cls := .type "slice", data := .fields #[.int i t1, .int j t2, .int c t] } } := I4.kept (t' := s4.toks) fun b ob q => Heap.get?_push_of_some _ q
  obtain ⟨its, r, ht, hz⟩ := I5.list hx
  have hlen := r.length
  show wpAny (model X.prog X.w) X.A (subscriptTail e (.Slice (some el) (some eh) (some es) p2) (.ref a) (.ref s4.heap.objs.size)) (EP X pins σ Q) X.xe { s4 with heap := s4.heap.push { cls := .type "slice", data := .fields #[.int i t1, .int j t2, .int c t] } }
  refine tail_any (ops := [.ref a, .ref s4.heap.objs.size]) ht.isList.typeIs slot_list_getitem.lookup ?_ (by with_unfolding_all rfl)
  refine wpAny_getItem_list_slice ht.isList (Heap.IsSliceOf.new ..) (.int i t1) (.int j t2) (.int c t) (by simpa using hc) ?_ (by rw [List.size_toArray] <;> omega)
  refine ⟨.ref _, _, I5.laid (t' := s4.toks) (o := .lst (pick3 xs i j c)) (fun b ob q => Heap.get?_push_of_some _ q) (Nat.le_refl _) ?_, rfl, q _ (I5.hok.fresh (Nat.le_refl _)) (pick3_le r i j c)⟩
  refine ⟨Nat.le_trans (pick3_le r i j c) hz, (slicePick its.toArray (some i) (some j) (some c)).toList, 0, ?_, Heap.get?_push_size _ rfl⟩
  have := vals_pick r (sliceRange (sliceBounds (some i) (some j) (some c) xs.length).1 (sliceBounds (some i) (some j) (some c) xs.length).2.1 (sliceBounds (some i) (some j) (some c) xs.length).2.2)
  unfold slicePick
  rw [List.size_toArray, ← hlen]
  unfold pick3
  rw [show (fun x : Nat => its.toArray[x]?) = (fun x => its[x]?) from funext fun i => List.getElem?_toArray ..]
  exact this
/-- l[i], by values (i from 0) -/
def rGetL (K : PySem.W.Frag) : V → V → Hp → VK → Prop := fun o i H Q => ∃ (p : Addr) (xs : List V) (k : Int) (v : V), o = .ref p ∧ i = .int k ∧ SqL K H p xs ∧ 0 ≤ k ∧ xs[k.toNat]? = some v ∧ Q v H
theorem get_listK (eK : X.K = K) : PGet X (rGetL K) := by
  subst eK
  intro pins s σ H o i ov iv Q I ro ri h
  obtain ⟨p, xs, k, v, rfl, rfl, hq, h0, he, q⟩ := h
  cases ro
  obtain ⟨t, rfl⟩ := ri
  obtain ⟨its, r, pl, hz⟩ := I.list hq
  obtain ⟨w, ew, rw'⟩ := r.get he
  have hl := r.length
  have hlt : k.toNat < xs.length := (List.getElem?_eq_some_iff.mp he).1
  have hs : sizeLine = 16777216 := sizeLine_eq
  exact wpAny_getItem_list pl.isList h0 (by omega) (by simpa using ew) ⟨v, H, I, rw', q⟩
end
end L2

set_option Elab.async false
set_option linter.all false
set_option maxRecDepth 100000
set_option maxHeartbeats 4000000
/-! The windows of a width, their sums; a purse of numbers to draw from. -/
namespace My
open L2
/-- a list of a range, one place set -/
theorem set_range {m j : Nat} {v : Int} {g g' : Nat → Int} (hv : g' j = v) (ho : ∀ w, w ≠ j → w < m → g' w = g w) : ((List.range m).map g).set j v = (List.range m).map g' := by
  refine List.ext_getElem (by simp) fun i h1 h2 => ?_
  have hi : i < m := by simpa using h2
  rw [List.getElem_set]
  split
  · rename_i e; subst e; simp [hv]
  · rename_i e; simp [ho i (fun z => e z.symm) hi]
end My
namespace L2
open PySem PySem.Spec PyProof.Rows
/-- a purse: numbers from 0, to be drawn from behind -/
def PurseAt (H : Hp) (p : Addr) : Prop := ∃ ps : List Int, H p = some (.lst (ps.map V.int)) ∧ ps.length ≤ 120 ∧ ∀ x ∈ ps, 0 ≤ x
theorem PurseAt.same {H H' : Hp} {h : Addr} (x : PurseAt H h) (s : Same H H') : PurseAt H' h := let ⟨a, e, r⟩ := x; ⟨a, s h _ e, r⟩
theorem PurseAt.obj {H : Hp} {h : Addr} (x : PurseAt H h) : ∃ o, H h = some o := let ⟨_, e, _⟩ := x; ⟨_, e⟩
theorem PurseAt.new {H : Hp} {h p : Addr} {o : HO} (x : PurseAt H h) (hp : H p = none) : PurseAt (upd H p o) h := x.same (Same.new hp)
theorem PurseAt.ne {H : Hp} {h p : Addr} (x : PurseAt H h) (hp : H p = none) : p ≠ h := fun e => by obtain ⟨o, q⟩ := x.obj; rw [e, q] at hp; cases hp
theorem PurseAt.put {H : Hp} {h p : Addr} {o : HO} (x : PurseAt H h) (hp : p ≠ h) : PurseAt (upd H p o) h := let ⟨a, e, r⟩ := x; ⟨a, by rw [upd_ne hp.symm]; exact e, r⟩
def spMixed : Sp := fun vs H Q _ => ∃ c k : Int, vs = [.int c, .int k] ∧ ∀ r : Int, 0 ≤ r → Q (.int r) H
def spPurse (K : PySem.W.Frag) : Sp := fun vs H Q _ => ∃ (a : Addr) (ns : List Int) (i c : Int) (m : Nat), vs = [.ref a, .int i, .int c, .int m] ∧ SqL K H a (ns.map V.int) ∧ ns.length ≤ 63 ∧ c ≠ 0 ∧ m ≤ 120 ∧ ∀ (l : Addr) (H' : Hp), H l = none → Same H H' → PurseAt H' l → Q (.ref l) H'
def spNext : Sp := fun vs H Q _ => ∃ p : Addr, vs = [.ref p] ∧ PurseAt H p ∧ ∀ (r : Int) (H' : Hp), 0 ≤ r → PurseAt H' p → SameX p H H' → Q (.int r) H'
def valM (w a : Int) : Int := if w = 0 then a else if w = 1 then 10 ^ 20 - a else if w = 2 then [-1, 1].getD (a % 2).toNat 0 * (10 ^ 18 + a) else if w = 3 then a - 20 else 977 * a - 10 ^ 20
def spValue : Sp := fun vs H Q _ => ∃ w a : Int, vs = [.int w, .int a] ∧ ∀ H', Same H H' → Q (.int (valM w a)) H'
def spRowP : Sp := fun vs H Q _ => ∃ (p : Addr) (m : Nat), vs = [.ref p, .int m] ∧ PurseAt H p ∧ m ≤ 300 ∧ ∀ (l : Addr) (ns : List Int) (H' : Hp), H l = none → H' l = some (.lst (ns.map V.int)) → ns.length ≤ 300 → PurseAt H' p → SameX p H H' → Q (.ref l) H'
theorem neNil {K : PySem.W.Frag} {H : Hp} {Q : VK} {a b : Addr} {xs : List V} (ha : SqL K H a xs) (hb : SqL K H b []) (q : Q (.bl (!decide (xs = []))) H) : rEqL K true (.ref a) (.ref b) H Q := by
  refine ⟨a, b, _, _, rfl, rfl, ha, hb, fun h => ?_, ?_⟩
  · have : xs = [] := List.length_eq_zero_iff.mp h
    subst this; exact ⟨rfl, rfl⟩
  · have e : eqVs xs [] = decide (xs = []) := by
      cases xs with
      | nil => rfl
      | cons x r => rfl
    rw [e]; exact q
end L2

set_option Elab.async false
set_option linter.all false
set_option maxRecDepth 100000
set_option maxHeartbeats 4000000
/-! Windows with so many: gains, reaches, stretches, counts. -/
namespace My
open L2
theorem sumR_nil {k : Nat} {g : Nat → Int} (h : ∀ i, i < k → g i = 0) : sumR k g = 0 := (sumR_congr h).trans (sumR_zero k)
/-- the place of the j-th gain from f on -/
def gAt (ns : List Int) (f j : Nat) : Nat := ((firstsM ns f ns.length).getD j 0).toNat
theorem gAt_spec {ns : List Int} {f j : Nat} (hf : f ≤ ns.length) (hj : j < cnt ns f ns.length) : f ≤ gAt ns f j ∧ gAt ns f j < ns.length ∧ cnt ns f (gAt ns f j) = j ∧ cnt ns f (gAt ns f j + 1) = j + 1 ∧ (firstsM ns f ns.length).getD j 0 = (gAt ns f j : Int) := by
  obtain ⟨g, h1, h2, h3, h4, h5⟩ := firsts_at hf j hj
  have e : (firstsM ns f ns.length).getD j 0 = (g : Int) := by rw [List.getD_eq_getElem?_getD, h5]; rfl
  have eg : gAt ns f j = g := by unfold gAt; rw [e]; omega
  rw [eg]
  exact ⟨h1, h2, h3, h4, e⟩
/-- the greatest behind from f on with at most m -/
def reach (ns : List Int) (f m : Nat) : Nat := if m < cnt ns f ns.length then gAt ns f m else ns.length
theorem reach_le {ns : List Int} {f m : Nat} (hf : f ≤ ns.length) : f ≤ reach ns f m ∧ reach ns f m ≤ ns.length := by
  unfold reach
  split
  · rename_i h; have := gAt_spec hf h; omega
  · omega
theorem cnt_le_iff {ns : List Int} {f m b : Nat} (hf : f ≤ b) (hb : b ≤ ns.length) : cnt ns f b ≤ m ↔ b ≤ reach ns f m := by
  unfold reach
  split
  · rename_i h
    obtain ⟨h1, h2, h3, h4, _⟩ := gAt_spec (Nat.le_trans hf hb) h
    constructor
    · intro z
      refine Nat.le_of_not_lt fun y => ?_
      have := cnt_up (ns := ns) (f := f) (b := gAt ns f m + 1) (c := b) (by omega) y
      omega
    · intro z
      have := cnt_up (ns := ns) (f := f) (b := b) (c := gAt ns f m) hf z
      omega
  · rename_i h
    have := cnt_up (ns := ns) (f := f) (b := b) (c := ns.length) hf hb
    constructor
    · intro _; exact hb
    · intro _; omega
theorem cnt_eq_iff {ns : List Int} {f m b : Nat} (hf : f ≤ b) (hb : b ≤ ns.length) (hm : 0 < m) (hc : m ≤ cnt ns f ns.length) : cnt ns f b = m ↔ gAt ns f (m - 1) < b ∧ b ≤ reach ns f m := by
  have h1 := cnt_le_iff (ns := ns) (f := f) (m := m) hf hb
  have h2 := cnt_le_iff (ns := ns) (f := f) (m := m - 1) hf hb
  have e : reach ns f (m - 1) = gAt ns f (m - 1) := by unfold reach; rw [if_pos (by omega)]
  rw [e] at h2
  constructor
  · intro z
    refine ⟨Nat.lt_of_not_le fun y => ?_, h1.mp (by omega)⟩
    have := h2.mpr y
    omega
  · rintro ⟨z1, z2⟩
    have := h1.mpr z2
    have : ¬ cnt ns f b ≤ m - 1 := fun y => by have := h2.mp y; omega
    omega
theorem cnt_pos {ns : List Int} {f b : Nat} (hf : f < b) : 0 < cnt ns f b := by
  have h1 := cnt_snoc (ns := ns) (f := f) (b := f) (Nat.le_refl _)
  have h2 := (lastIx_lt ns (ns.getD f 0) f).2
  rw [if_pos h2] at h1
  have := cnt_up (ns := ns) (f := f) (b := f + 1) (c := b) (Nat.le_succ _) hf
  omega
/-- the stretches -/
def stretchP (ns : List Int) (m k : Nat) : List (List Int) := ((List.range k).filter fun f => decide (m ≤ cnt ns f ns.length)).map fun (f : Nat) => [(f : Int), (gAt ns f (m - 1) : Int) + 1, (reach ns f m : Int)]
def stretchM (ns : List Int) (m : Nat) : List (List Int) := if m = 0 then [] else stretchP ns m ns.length
theorem stretchP_le (ns : List Int) (m k : Nat) : (stretchP ns m k).length ≤ k := by
  unfold stretchP
  rw [List.length_map]
  have := List.length_filter_le (fun f => decide (m ≤ cnt ns f ns.length)) (List.range k)
  rw [List.length_range] at this; exact this
theorem stretchP_yes {ns : List Int} {m k : Nat} (h : m ≤ cnt ns k ns.length) : stretchP ns m (k + 1) = stretchP ns m k ++ [[(k : Int), (gAt ns k (m - 1) : Int) + 1, (reach ns k m : Int)]] := by
  unfold stretchP
  rw [List.range_succ, List.filter_append, List.map_append, List.filter_cons_of_pos (by simpa using h)]; rfl
theorem stretchP_no {ns : List Int} {m k : Nat} (h : ¬ m ≤ cnt ns k ns.length) : stretchP ns m (k + 1) = stretchP ns m k := by
  unfold stretchP
  rw [List.range_succ, List.filter_append, List.map_append, List.filter_cons_of_neg (by simpa using h), List.filter_nil, List.map_nil, List.append_nil]
theorem stretch3 {ns : List Int} {m : Nat} {xs : List Int} (h : xs ∈ stretchM ns m) : ∃ x0 x1 x2, xs = [x0, x1, x2] := by
  unfold stretchM stretchP at h
  split at h
  · simp at h
  · obtain ⟨f, _, rfl⟩ := List.mem_map.mp h
    exact ⟨_, _, _, rfl⟩
theorem stretch_le (ns : List Int) (m : Nat) : (stretchM ns m).length ≤ ns.length := by
  unfold stretchM
  split
  · exact Nat.zero_le _
  · exact stretchP_le _ _ _
/-- how many windows from f on have just c -/
theorem sumR_between (p : Nat → Prop) [DecidablePred p] (lo hi : Nat) : ∀ n, hi ≤ n → lo ≤ hi → (∀ i, i < n → (p i ↔ lo ≤ i ∧ i < hi)) → sumR n (fun i => if p i then 1 else 0) = ((hi : Int) - (lo : Int)) := by
  intro n
  induction n generalizing hi with
  | zero => intro h1 h2 _; have : lo = 0 := by omega
            have : hi = 0 := by omega
            subst_vars; rfl
  | succ n ih =>
    intro h1 h2 h3
    rw [sumR_succ]
    by_cases hh : hi = n + 1
    · by_cases hl : lo = n + 1
      · have e : sumR n (fun i => if p i then (1 : Int) else 0) = 0 := sumR_nil fun i hi' => if_neg fun z => by have := (h3 i (by omega)).mp z; omega
        rw [e, if_neg (fun z => by have := (h3 n (by omega)).mp z; omega)]
        omega
      · rw [ih n (Nat.le_refl _) (by omega) (fun i hi' => ⟨fun z => by have := (h3 i (by omega)).mp z; omega, fun z => (h3 i (by omega)).mpr (by omega)⟩), if_pos ((h3 n (by omega)).mpr (by omega))]
        omega
    · rw [ih hi (by omega) h2 (fun i hi' => h3 i (by omega)), if_neg (fun z => by have := (h3 n (by omega)).mp z; omega)]
      omega
def manyAt (ns : List Int) (f c : Nat) : Int := sumR (ns.length - f) fun i => if cnt ns f (f + (1 + i)) = c then 1 else 0
theorem many_at {ns : List Int} {f c : Nat} (hf : f ≤ ns.length) (hc : 0 < c) (hm : c ≤ cnt ns f ns.length) : manyAt ns f c = (reach ns f c : Int) - ((gAt ns f (c - 1) : Int) + 1) + 1 := by
  obtain ⟨h1, h2, h3, h4, _⟩ := gAt_spec (ns := ns) (f := f) (j := c - 1) hf (by omega)
  have hr := reach_le (ns := ns) (f := f) (m := c) hf
  have hg : gAt ns f (c - 1) < reach ns f c := by
    have := (cnt_eq_iff (ns := ns) (f := f) (m := c) (b := gAt ns f (c - 1) + 1) (by omega) (by omega) hc hm).mp (by omega)
    omega
  unfold manyAt
  rw [sumR_between (fun i => cnt ns f (f + (1 + i)) = c) (gAt ns f (c - 1) - f) (reach ns f c - f) _ (by omega) (by omega) fun i hi => ?_]
  · omega
  · rw [cnt_eq_iff (by omega) (by omega) hc hm]; omega
theorem many_no {ns : List Int} {f c : Nat} (hf : f ≤ ns.length) (h : c = 0 ∨ cnt ns f ns.length < c) : manyAt ns f c = 0 := by
  unfold manyAt
  refine sumR_nil fun i hi => if_neg fun z => ?_
  have h1 := cnt_up (ns := ns) (f := f) (b := f + (1 + i)) (c := ns.length) (by omega) (by omega)
  have h2 := cnt_pos (ns := ns) (f := f) (b := f + (1 + i)) (by omega)
  omega
def countAt (ns : List Int) (k c : Nat) : Int := sumR k fun f => manyAt ns f c
def countsM (ns : List Int) : List Int := (List.range (cnt ns 0 ns.length + 1)).map (countAt ns ns.length)
theorem many_sum (ns : List Int) (m : Nat) : ((stretchM ns m).map fun t => t.getD 2 0 - t.getD 1 0 + 1).sum = countAt ns ns.length m := by
  unfold stretchM stretchP countAt
  split
  · rename_i h
    subst h
    simp only [List.map_nil, List.sum_nil]
    exact (sumR_nil fun f hf => many_no (by omega) (.inl rfl)).symm
  · rename_i h
    rw [List.map_map]
    show (List.map (fun f : Nat => (reach ns f m : Int) - ((gAt ns f (m - 1) : Int) + 1) + 1) _).sum = _
    rw [sum_filter]
    refine sumR_congr fun f hf => ?_
    by_cases z : m ≤ cnt ns f ns.length
    · rw [if_pos (decide_eq_true z), many_at (by omega) (by omega) z]
    · rw [if_neg (by rw [decide_eq_false z]; exact Bool.false_ne_true), many_no (by omega) (.inr (by omega))]
theorem count_zero {ns : List Int} {c k : Nat} (hk : k ≤ ns.length) (h : c = 0 ∨ cnt ns 0 ns.length < c) : countAt ns k c = 0 := by
  unfold countAt
  refine sumR_nil fun f hf => many_no (by omega) ?_
  have := cnt_dn (ns := ns) (f := 0) (g := f) (b := ns.length) (Nat.le_refl _) (Nat.zero_le _) (by omega)
  omega
end My
namespace L2
open PySem PySem.Spec PyProof.Rows
/-- tuples of ints that stand as told -/
def TupsAt (H : Hp) (ts : List Addr) (xss : List (List Int)) : Prop := ts.length = xss.length ∧ ∀ (i : Nat) (t : Addr) (xs : List Int), ts[i]? = some t → xss[i]? = some xs → H t = some (.tup (xs.map V.int))
theorem TupsAt.same {H H' : Hp} {ts : List Addr} {xss : List (List Int)} (x : TupsAt H ts xss) (s : Same H H') : TupsAt H' ts xss := ⟨x.1, fun i t xs h1 h2 => s _ _ (x.2 i t xs h1 h2)⟩
theorem TupsAt.snoc {H : Hp} {ts : List Addr} {xss : List (List Int)} {t : Addr} {xs : List Int} (x : TupsAt H ts xss) (e : H t = some (.tup (xs.map V.int))) : TupsAt H (ts ++ [t]) (xss ++ [xs]) := by
  refine ⟨by rw [List.length_append, List.length_append, x.1]; rfl, fun i t' xs' h1 h2 => ?_⟩
  by_cases hi : i < ts.length
  · rw [List.getElem?_append_left hi] at h1
    rw [List.getElem?_append_left (by rw [← x.1]; exact hi)] at h2
    exact x.2 i t' xs' h1 h2
  · have hi' : i = ts.length := by
      have := (List.getElem?_eq_some_iff.mp h1).1
      rw [List.length_append, List.length_singleton] at this; omega
    subst hi'
    rw [List.getElem?_append_right (Nat.le_refl _), Nat.sub_self] at h1
    rw [x.1, List.getElem?_append_right (Nat.le_refl _), Nat.sub_self] at h2
    have e1 : t = t' := by simpa using h1
    have e2 : xs = xs' := by simpa using h2
    subst e1 e2
    exact e
theorem make_rdA {K : PySem.W.Frag} {C a : Addr} {H : Hp} {Q : Addr → Hp → Prop} {ns : List Int} (hq : SqL K H a (ns.map V.int)) (hl : ns.length ≤ 1000) (k : ∀ p H', H p = none → Same H H' → RdAt C H' p ns → Q p H') :
    ∀ x dx, H x = none → H dx = none → dx ≠ x → spRInit K C (.ref x :: ([.ref a] ++ [])) (upd (upd H dx (.own x)) x (.ins C dx [])) (fun v H2 => v = .non ∧ Q x H2) E0 := fun x dx hx hdx hne => by
  have s0 : Same H (upd (upd H dx (.own x)) x (.ins C dx [])) := fun b o e => by rw [upd_ne (ne_of_none e hx), upd_ne (ne_of_none e hdx)]; exact e
  exact ⟨x, a, dx, ns, rfl, upd_same, s0.seq hq, hl, fun H' r s => ⟨rfl, k x H' hx (fun b o e => s b o (ne_of_none e hx) (s0 b o e)) r⟩⟩
def spReach (C : Addr) : Sp := fun vs H Q _ => ∃ (p : Addr) (ns : List Int) (f m : Nat), vs = [.ref p, .int ns.length, .int f, .int m] ∧ RdAt C H p ns ∧ f ≤ ns.length ∧ ns.length ≤ 1000 ∧ ∀ H', Same H H' → Q (.int (My.reach ns f m)) H'
def spStretch (K : PySem.W.Frag) : Sp := fun vs H Q _ => ∃ (a : Addr) (ns : List Int) (m : Nat), vs = [.ref a, .int m] ∧ SqL K H a (ns.map V.int) ∧ ns.length ≤ 900 ∧ ∀ (l : Addr) (ts : List Addr) (H' : Hp), H l = none → (∀ t ∈ ts, H t = none) → Same H H' → H' l = some (.lst (ts.map V.ref)) → TupsAt H' ts (My.stretchM ns m) → Q (.ref l) H'
def spMany (K : PySem.W.Frag) : Sp := fun vs H Q _ => ∃ (a : Addr) (ns : List Int) (m : Nat), vs = [.ref a, .int m] ∧ SqL K H a (ns.map V.int) ∧ ns.length ≤ 900 ∧ ∀ (H' : Hp), Same H H' → Q (.int (My.countAt ns ns.length m)) H'
def spCounts (K : PySem.W.Frag) : Sp := fun vs H Q _ => ∃ (a : Addr) (ns : List Int), vs = [.ref a] ∧ SqL K H a (ns.map V.int) ∧ ns.length ≤ 900 ∧ ∀ (l : Addr) (H' : Hp), H l = none → Same H H' → H' l = some (.lst ((My.countsM ns).map V.int)) → Q (.ref l) H'
end L2

set_option Elab.async false
set_option linter.all false
set_option maxRecDepth 100000
set_option maxHeartbeats 4000000
/-! max and min of a list by a key and with a default. -/
namespace L2
open PySem PySem.Spec PyProof.Rows
section
variable {X : Cx} {pins : List (Addr × Obj)} {σ : St} {H : Hp} {s : Shared}
/-- the same context within a built-in, no exception wanted -/
abbrev Cx.inn (X : Cx) : Cx := { X with A := X.A.in1, xe := fun _ _ => False }
theorem Inv.inn (I : Inv X pins σ H s) : Inv X.inn pins σ H s :=
  ⟨⟨I.ok.mod, I.ok.kind, I.ok.glob, I.ok.blt, I.ok.above, I.ok.inj, I.ok.has, I.ok.cab, I.ok.hd, I.ok.frames, I.ok.stk, I.ok.exf, I.ok.bs, I.ok.bsz, I.ok.noex, I.ok.exfs, I.ok.funs, I.ok.frf⟩, I.os, I.bare, I.base, I.loc, I.cell, I.free, I.freeC, I.pin, I.hok, I.len⟩
theorem Inv.outn (o : X.Ok) (I : Inv X.inn pins σ H s) : Inv X pins σ H s := ⟨o, I.os, I.bare, I.base, I.loc, I.cell, I.free, I.freeC, I.pin, I.hok, I.len⟩
/-- a def called by a built-in, some records of the built-in's own kept -/
theorem key_call {k : Nat} {f : Addr} {fd : FuncData} {ps : List Str} {sp : Sp} {x : V} {u : Value} {n : Int} {fp : List Addr} (F : FnOk X.prog X.w X.K X.mg X.base CX0 k f fd ps sp) (hr : Room (k + 1) X.A) (hb : Binds X.K fd ps []) (I : Inv X pins σ H s) (hf : ∀ b ∈ fp, FpOk X pins H b)
    (ho : ∀ b ∈ fp, ∃ o, s.heap.get? b = some o ∧ ∀ v, o.data ≠ .cell v) (rx : RelV x u) (h : sp [x] H (fun y H'' => y = .int n ∧ Same H H'') E0) :
    wpAny (model X.prog X.w) X.A.in1 (call (.ref f) [u]) (fun v s' => ∃ t H', v = .int n t ∧ Inv X pins σ H' s' ∧ Same H H' ∧ ∀ b ∈ fp, ∀ o, s.heap.get? b = some o → s'.heap.get? b = some o ∧ H' b = none) (fun _ _ => False) s := by
  have I' := I.pinned hf ho
  refine thn (run_fn (X := X.inn) (E := E0) F hr.in1 hb .nil pass0 I'.inn (.cons rx .nil) h) fun v s' ⟨y, H', I2, r, e, sm⟩ => ?_
  subst e
  obtain ⟨t, rfl⟩ := r
  have I3 := I2.outn I.ok
  refine ⟨t, H', rfl, I3.unpinned, sm, fun b hb' o e => ?_⟩
  have := I3.pin (b, o) (List.mem_append_right _ (List.mem_append_right _ (mem_pinsAt hb' e)))
  exact ⟨this.1, this.2.1⟩
/-- between two turns: j items are seen, the i-th is the best -/
def MxAt (X : Cx) (pins : List (Addr × Obj)) (σ : St) (H2 : Hp) (l S It : Addr) (xs : List V) (ge gt : Int → Int → Prop) (kf : Nat → Int) (j : Nat) (s : Shared) : Prop :=
  ∃ (H : Hp) (i : Nat) (vb : Value) (x : V) (tb : Tok) (c : Nat), Inv X pins σ H s ∧ Same H2 H ∧ SqL X.K H l xs ∧ s.heap.IsListIter It l j ∧ s.heap.get? S = some (seqObj "list" #[vb, .int (kf i) tb] c) ∧ FpOk X pins H S ∧ FpOk X pins H It ∧ S ≠ It ∧
    xs[i]? = some x ∧ RelV x vb ∧ i < j ∧ ∀ j', j' < j → ge (kf i) (kf j') ∧ (j' < i → gt (kf i) (kf j'))
end

theorem max_dflt (a v d : Value) : argsOk "max" ⟨[a], [(Str.ofString "key", v), (Str.ofString "default", d)]⟩ := by unfold argsOk; kernel_rfl
section
variable {X : Cx} {pins : List (Addr × Obj)} {σ : St} {H2 : Hp} {k : Nat} {f l S It : Addr} {fd : FuncData} {ps : List Str} {sp : Sp} {xs : List V} {kf : Nat → Int}
theorem max_loop (F : FnOk X.prog X.w X.K X.mg X.base CX0 k f fd ps sp) (hr : Room (k + 1) X.A) (hb : Binds X.K fd ps []) (hc : X.calm = true) (hsp : ∀ i x H', xs[i]? = some x → Same H2 H' → sp [x] H' (fun y H'' => y = .int (kf i) ∧ Same H' H'') E0)
    (dk : List (Str × Value)) (R : Result → Shared → Prop) (hR : ∀ i x u s' H', xs[i]? = some x → RelV x u → (∀ j, j < xs.length → kf i ≥ kf j ∧ (j < i → kf i > kf j)) → Inv X pins σ H' s' → Same H2 H' → R (.ok (.ret u)) s') :
    ∀ (r j : Nat) (s : Shared), xs.length - j = r → j ≤ xs.length → MxAt X pins σ H2 l S It xs (fun a b => a ≥ b) (fun a b => a > b) kf j s → codeAny (model X.prog X.w) X.A (.builtin "max.loop" ⟨[.ref It, .ref f, .ref S], dk⟩) R s := by
  have hname : (toString "max" ++ toString ".loop" : String) = "max.loop" := by decide
  intro r
  induction r with
  | zero =>
    intro j s hr' hj ⟨H, i, vb, x, tb, c, I, sm, hl, hit, hS, fS, fI, nSI, hx, rx, hij, hbest⟩
    obtain ⟨its, rv, p, hz⟩ := I.list hl
    have hlen := rv.length
    refine codeAny_builtin PySem.F.entry_max_loop ?_
    rw [Around.under_plainId PySem.F.plain_max_loop _]
    show wpAny _ X.A.in1 (seqItems? (.ref S) >>= _) _ _ _
    refine wpAny_bind (wpAny_seqItems hS rfl ?_)
    show wpAny _ X.A.in1 (tryCatch (pyNext (.ref It)) _ >>= _) _ _ _
    refine wpAny_bind (wpAny_tryCatch (wpAny_pyNext_list_end (show X.A.in1.handled = none from I.ok.hd hc) hit p.isList (by simp; omega) fun h' eb => ?_))
    obtain ⟨f0, f1, f2, f3, f4, f5⟩ := fI
    have I1 : Inv X pins σ H { s with heap := h' } := I.turned (t' := s.toks) (fun b o hb e => eb b o hb e) f0 f1 f3 f4 f5
    have hS' : h'.get? S = some (seqObj "list" #[vb, .int (kf i) tb] c) := eb S _ nSI hS
    have sb := Heap.SameBut.update h' S (Obj.mapSeq fun _ => (#[] : Array Value))
    obtain ⟨g0, g1, g2, g3, g4, g5⟩ := fS
    show wpAny _ X.A.in1 (updateSeq S (fun _ => #[]) >>= _) _ _ _
    refine wpAny_bind ?_
    refine wpAny_updateSeq hS' rfl (wpAny_bind (wpAny_letGo (wpAny_pure ?_)))
    exact hR i x vb _ H hx rx (fun j' hj' => hbest j' (by omega)) (I1.turned (t' := s.toks) (fun b o hb e => (sb.2 b hb).trans e) g0 g1 g3 g4 g5) sm
  | succ r ih =>
    intro j s hr' hj ⟨H, i, vb, x, tb, c, I, sm, hl, hit, hS, fS, fI, nSI, hx, rx, hij, hbest⟩
    have hjl : j < xs.length := by omega
    obtain ⟨its, rv, p, hz⟩ := I.list hl
    have hxj : xs[j]? = some (xs[j]) := List.getElem?_eq_getElem hjl
    obtain ⟨u, hu, ru⟩ := rv.get hxj
    refine codeAny_builtin PySem.F.entry_max_loop ?_
    rw [Around.under_plainId PySem.F.plain_max_loop _]
    show wpAny _ X.A.in1 (seqItems? (.ref S) >>= _) _ _ _
    refine wpAny_bind (wpAny_seqItems hS rfl ?_)
    show wpAny _ X.A.in1 (tryCatch (pyNext (.ref It)) _ >>= _) _ _ _
    refine wpAny_bind (wpAny_tryCatch (wpAny_pyNext_list_item hit p.isList (x := u) (by simpa using hu) fun h' hit' sb => ?_))
    obtain ⟨f0, f1, f2, f3, f4, f5⟩ := id fI
    have I1 : Inv X pins σ H { s with heap := h' } := I.turned (t' := s.toks) (fun b o hb e => (sb.2 b hb).trans e) f0 f1 f3 f4 f5
    have hS1 : h'.get? S = some (seqObj "list" #[vb, .int (kf i) tb] c) := (sb.2 S nSI).trans hS
    obtain ⟨oI, hoI, hoc, hod⟩ := id hit'
    show wpAny _ X.A.in1 (tryCatch (holding [u] (call (.ref f) [u])) _ >>= _) _ _ _
    refine wpAny_bind (wpAny_tryCatch (wpAny_holding (wpAny_mono (key_call (fp := [S, It]) F hr hb I1 (by
      intro b hb'
      rcases List.mem_cons.mp hb' with z | z
      · rw [z]; exact fS
      · rw [List.mem_singleton.mp z]; exact fI) (by
      intro b hb'
      rcases List.mem_cons.mp hb' with z | z
      · rw [z]; exact ⟨_, hS1, fun v z => by cases z⟩
      · rw [List.mem_singleton.mp z]; exact ⟨_, hoI, fun v z => by rw [hod] at z; cases z⟩) ru (hsp j _ H hxj sm)) (fun v s2 he => ?_) fun _ _ hF => hF.elim)))
    obtain ⟨t2, H3, rfl, I3, sm3, hpin⟩ := he
    obtain ⟨hS3, nS3⟩ := hpin S (by simp) _ hS1
    obtain ⟨hI3, nI3⟩ := hpin It (by simp) _ hoI
    have fS3 : FpOk X pins H3 S := ⟨nS3, fS.2⟩
    have fI3 : FpOk X pins H3 It := ⟨nI3, fI.2⟩
    have hit3 : s2.heap.IsListIter It l (j + 1) := ⟨oI, hI3, hoc, hod⟩
    show wpAny _ X.A.in1 (tryCatch (holding [u, .int (kf j) t2] (richCompare .Gt (.int (kf j) t2) (.int (kf i) tb) >>= _)) _ >>= _) _ _ _
    refine wpAny_bind (wpAny_tryCatch (wpAny_holding (wpAny_bind (CmpOf.ints_gt (prog := X.prog) (w := X.w) (A := X.A.in1) (P := fun i v => ∃ t, v = .int (kf i) t) kf (fun i v h => h) j i _ _ _ _ _ ⟨t2, rfl⟩ ⟨tb, rfl⟩ ?_))))
    refine wpAny_bind (wpAny_holding (wpAny_truthy_bool ?_))
    refine wpAny_bind (wpAny_letGo (wpAny_pure ?_))
    by_cases hb' : kf j > kf i
    · have s1 := Heap.SameBut.update s2.heap S (Obj.mapSeq fun _ => #[u, .int (kf j) t2])
      obtain ⟨c2, hc2⟩ : ∃ c2, (s2.heap.update S (Obj.mapSeq fun _ => #[u, .int (kf j) t2])).get? S = some (seqObj "list" #[u, .int (kf j) t2] c2) := ⟨_, get?_update_seq hS3 fun _ => #[u, .int (kf j) t2]⟩
      simp only [hb', decide_true, if_true]
      refine wpAny_bind ?_
      refine wpAny_updateSeq hS3 rfl (wpAny_bind (wpAny_letGo ?_))
      rw [hname]
      obtain ⟨g0, g1, g2, g3, g4, g5⟩ := id fS3
      refine wpAny_pure ⟨plainId_quiet PySem.F.plain_max_loop _, ih (j + 1) _ (by omega) hjl ⟨H3, j, u, _, t2, c2, I3.turned (t' := s2.toks) (fun b o hb e => (s1.2 b hb).trans e) g0 g1 g3 g4 g5, sm.trans sm3, sm3.seq hl, hit3.at fun o e => (s1.2 It nSI.symm).trans e, hc2, fS3, fI3, nSI, hxj, ru, Nat.lt_succ_self _, fun j' hj' => ?_⟩⟩
      by_cases e : j' = j
      · subst e
        exact ⟨by omega, fun z => by omega⟩
      · obtain ⟨h1, h2⟩ := hbest j' (by omega)
        exact ⟨by omega, fun z => by omega⟩
    · simp only [hb', decide_false, Bool.false_eq_true, if_false]
      refine wpAny_bind (wpAny_letGo ?_)
      rw [hname]
      refine wpAny_pure ⟨plainId_quiet PySem.F.plain_max_loop _, ih (j + 1) _ (by omega) hjl ⟨H3, i, vb, x, tb, c, I3, sm.trans sm3, sm3.seq hl, hit3, hS3, fS3, fI3, nSI, hx, rx, by omega, fun j' hj' => ?_⟩⟩
      by_cases e : j' = j
      · subst e
        exact ⟨by omega, fun z => by omega⟩
      · exact hbest j' (by omega)
theorem max_key (F : FnOk X.prog X.w X.K X.mg X.base CX0 k f fd ps sp) (hr : Room (k + 1) X.A) (hb : Binds X.K fd ps []) (hc : X.calm = true) {s : Shared} {Q : Value → Shared → Prop} {E : Value → Shared → Prop} (d : Value) (I : Inv X pins σ H2 s) (hl : SqL X.K H2 l xs)
    (hsp : ∀ i x H', xs[i]? = some x → Same H2 H' → sp [x] H' (fun y H'' => y = .int (kf i) ∧ Same H' H'') E0)
    (h0 : xs = [] → ∀ s' H', Inv X pins σ H' s' → Same H2 H' → Q d s')
    (hQ : ∀ i x u s' H', xs[i]? = some x → RelV x u → (∀ j, j < xs.length → kf i ≥ kf j ∧ (j < i → kf i > kf j)) → Inv X pins σ H' s' → Same H2 H' → Q u s') :
    wpAny (model X.prog X.w) X.A (call (.builtin "max") [.ref l] [(Str.ofString "key", .ref f), (Str.ofString "default", d)]) Q E s := by
  have hname : (toString "max" ++ toString ".loop" : String) = "max.loop" := by decide
  obtain ⟨its, rv, p, hz⟩ := I.list hl
  have hlen := rv.length
  refine kmk_tree PySem.F.kind_max PySem.F.plain_max PySem.F.entry_max (max_dflt _ _ _) ?_
  show wpAny _ X.A.in1 (Builtin.Builtins.bindParams "max" ["key", "default"] 0 ⟨[], [(Str.ofString "key", .ref f), (Str.ofString "default", d)]⟩ >>= _) _ _ s
  refine wpAny_bind (wpAny_of_eq (show Builtin.Builtins.bindParams "max" ["key", "default"] 0 ⟨[], [(Str.ofString "key", .ref f), (Str.ofString "default", d)]⟩ = pure [some (.ref f), some d] from rfl) ?_)
  refine wpAny_bind (wpAny_pure ?_)
  refine wpAny_bind (wpAny_pyIter_list p.isList ?_)
  refine wpAny_bind (wpAny_newList ?_ (Nat.zero_le _))
  rw [hname]
  have hS : (s.heap.push { cls := .type "list_iterator", data := .fields #[.ref l, .int 0 0] }).objs.size = s.heap.objs.size + 1 := Heap.size_push ..
  refine wpAny_pure ⟨plainId_quiet PySem.F.plain_max_loop _, ?_⟩
  have gI : ((s.heap.push { cls := .type "list_iterator", data := .fields #[.ref l, .int 0 0] }).push (seqObj "list" #[] 0)).get? s.heap.objs.size = some { cls := .type "list_iterator", data := .fields #[.ref l, .int 0 0] } :=
    Heap.get?_push_of_some _ (Heap.get?_push_size _ rfl)
  have gS : ((s.heap.push { cls := .type "list_iterator", data := .fields #[.ref l, .int 0 0] }).push (seqObj "list" #[] 0)).get? (s.heap.push { cls := .type "list_iterator", data := .fields #[.ref l, .int 0 0] }).objs.size = some (seqObj "list" #[] 0) := Heap.get?_push_size _ rfl
  have I0 : Inv X pins σ H2 { s with heap := (s.heap.push { cls := .type "list_iterator", data := .fields #[.ref l, .int 0 0] }).push (seqObj "list" #[] 0) } := I.kept (t' := s.toks) fun b o e => Heap.get?_push_of_some _ (Heap.get?_push_of_some _ e)
  have fI : FpOk X pins H2 s.heap.objs.size := I.fpOk (Nat.le_refl _) (I.hok.fresh (Nat.le_refl _))
  have fS : FpOk X pins H2 (s.heap.push { cls := .type "list_iterator", data := .fields #[.ref l, .int 0 0] }).objs.size := I.fpOk (by rw [hS]; exact Nat.le_succ _) (I.hok.fresh (by rw [hS]; exact Nat.le_succ _))
  have nSI : (s.heap.push { cls := .type "list_iterator", data := .fields #[.ref l, .int 0 0] }).objs.size ≠ s.heap.objs.size := by rw [hS]; exact Nat.succ_ne_self _
  have hit : ((s.heap.push { cls := .type "list_iterator", data := .fields #[.ref l, .int 0 0] }).push (seqObj "list" #[] 0)).IsListIter s.heap.objs.size l 0 := ⟨_, gI, rfl, rfl⟩
  have pl0 : ((s.heap.push { cls := .type "list_iterator", data := .fields #[.ref l, .int 0 0] }).push (seqObj "list" #[] 0)).IsList l its.toArray := p.isList.at fun o e => Heap.get?_push_of_some _ (Heap.get?_push_of_some _ e)
  generalize (s.heap.push { cls := .type "list_iterator", data := .fields #[.ref l, .int 0 0] }).objs.size = S at gS fS nSI ⊢
  generalize (s.heap.push { cls := .type "list_iterator", data := .fields #[.ref l, .int 0 0] }).push (seqObj "list" #[] 0) = h0' at gI gS I0 hit pl0 ⊢
  generalize s.heap.objs.size = It at gI fI nSI hit ⊢
  refine codeAny_builtin PySem.F.entry_max_loop ?_
  rw [Around.under_plainId PySem.F.plain_max_loop _]
  show wpAny _ X.A.in1 (seqItems? (.ref S) >>= _) _ _ _
  refine wpAny_bind (wpAny_seqItems gS rfl ?_)
  show wpAny _ X.A.in1 (tryCatch (pyNext (.ref It)) _ >>= _) _ _ _
  by_cases he : xs = []
  · refine wpAny_bind (wpAny_tryCatch (wpAny_pyNext_list_end (show X.A.in1.handled = none from I.ok.hd hc) hit pl0 (by subst he; simp at hlen; simp [hlen]) fun h' eb => ?_))
    obtain ⟨f0, f1, f2, f3, f4, f5⟩ := fI
    show wpAny _ X.A.in1 (rule _ >>= _) _ _ _
    refine wpAny_bind (wpAny_rule (wpAny_pure ?_))
    exact h0 he _ H2 (I0.turned (t' := s.toks) (fun b o hb e => eb b o hb e) f0 f1 f3 f4 f5) (Same.refl _)
  · have hpos : 0 < xs.length := List.length_pos_iff.mpr he
    have hx0 : xs[0]? = some (xs[0]) := List.getElem?_eq_getElem hpos
    obtain ⟨u, hu, ru⟩ := rv.get hx0
    refine wpAny_bind (wpAny_tryCatch (wpAny_pyNext_list_item hit pl0 (x := u) (by simpa using hu) fun h' hit' sb => ?_))
    obtain ⟨f0, f1, f2, f3, f4, f5⟩ := id fI
    have I1 : Inv X pins σ H2 { s with heap := h' } := I0.turned (t' := s.toks) (fun b o hb e => (sb.2 b hb).trans e) f0 f1 f3 f4 f5
    have hS1 : h'.get? S = some (seqObj "list" #[] 0) := (sb.2 S nSI).trans gS
    obtain ⟨oI, hoI, hoc, hod⟩ := id hit'
    show wpAny _ X.A.in1 (tryCatch (holding [u] (call (.ref f) [u])) _ >>= _) _ _ _
    refine wpAny_bind (wpAny_tryCatch (wpAny_holding (wpAny_mono (key_call (fp := [S, It]) F hr hb I1 (by
      intro b hb'
      rcases List.mem_cons.mp hb' with z | z
      · rw [z]; exact fS
      · rw [List.mem_singleton.mp z]; exact fI) (by
      intro b hb'
      rcases List.mem_cons.mp hb' with z | z
      · rw [z]; exact ⟨_, hS1, fun v z => by cases z⟩
      · rw [List.mem_singleton.mp z]; exact ⟨_, hoI, fun v z => by rw [hod] at z; cases z⟩) ru (hsp 0 _ H2 hx0 (Same.refl _))) (fun v s2 he => ?_) fun _ _ hF => hF.elim)))
    obtain ⟨t2, H3, rfl, I3, sm3, hpin⟩ := he
    obtain ⟨hS3, nS3⟩ := hpin S (by simp) _ hS1
    obtain ⟨hI3, nI3⟩ := hpin It (by simp) _ hoI
    have fS3 : FpOk X pins H3 S := ⟨nS3, fS.2⟩
    have fI3 : FpOk X pins H3 It := ⟨nI3, fI.2⟩
    have hit3 : s2.heap.IsListIter It l (0 + 1) := ⟨oI, hI3, hoc, hod⟩
    have s1 := Heap.SameBut.update s2.heap S (Obj.mapSeq fun _ => #[u, .int (kf 0) t2])
    obtain ⟨c2, hc2⟩ : ∃ c2, (s2.heap.update S (Obj.mapSeq fun _ => #[u, .int (kf 0) t2])).get? S = some (seqObj "list" #[u, .int (kf 0) t2] c2) := ⟨_, get?_update_seq hS3 fun _ => #[u, .int (kf 0) t2]⟩
    show wpAny _ X.A.in1 (updateSeq S (fun _ => #[u, .int (kf 0) t2]) >>= _) _ _ _
    refine wpAny_bind ?_
    refine wpAny_updateSeq hS3 rfl ?_
    rw [hname]
    obtain ⟨g0, g1, g2, g3, g4, g5⟩ := id fS3
    refine wpAny_pure ⟨plainId_quiet PySem.F.plain_max_loop _, max_loop F hr hb hc hsp _ _ (fun i x u s' H' a b c d e => hQ i x u s' H' a b c d e) _ 1 _ rfl hpos ⟨H3, 0, u, _, t2, c2, I3.turned (t' := s2.toks) (fun b o hb e => (s1.2 b hb).trans e) g0 g1 g3 g4 g5, sm3, sm3.seq hl, hit3.at fun o e => (s1.2 It nSI.symm).trans e, hc2, fS3, fI3, nSI, hx0, ru, Nat.zero_lt_one, fun j' hj' => ?_⟩⟩
    have e : j' = 0 := by omega
    subst e
    exact ⟨by omega, fun z => by omega⟩
end

theorem min_dflt (a v d : Value) : argsOk "min" ⟨[a], [(Str.ofString "key", v), (Str.ofString "default", d)]⟩ := by unfold argsOk; kernel_rfl
section
variable {X : Cx} {pins : List (Addr × Obj)} {σ : St} {H2 : Hp} {k : Nat} {f l S It : Addr} {fd : FuncData} {ps : List Str} {sp : Sp} {xs : List V} {kf : Nat → Int}
theorem min_loop (F : FnOk X.prog X.w X.K X.mg X.base CX0 k f fd ps sp) (hr : Room (k + 1) X.A) (hb : Binds X.K fd ps []) (hc : X.calm = true) (hsp : ∀ i x H', xs[i]? = some x → Same H2 H' → sp [x] H' (fun y H'' => y = .int (kf i) ∧ Same H' H'') E0)
    (dk : List (Str × Value)) (R : Result → Shared → Prop) (hR : ∀ i x u s' H', xs[i]? = some x → RelV x u → (∀ j, j < xs.length → kf i ≤ kf j ∧ (j < i → kf i < kf j)) → Inv X pins σ H' s' → Same H2 H' → R (.ok (.ret u)) s') :
    ∀ (r j : Nat) (s : Shared), xs.length - j = r → j ≤ xs.length → MxAt X pins σ H2 l S It xs (fun a b => a ≤ b) (fun a b => a < b) kf j s → codeAny (model X.prog X.w) X.A (.builtin "min.loop" ⟨[.ref It, .ref f, .ref S], dk⟩) R s := by
  have hname : (toString "min" ++ toString ".loop" : String) = "min.loop" := by decide
  intro r
  induction r with
  | zero =>
    intro j s hr' hj ⟨H, i, vb, x, tb, c, I, sm, hl, hit, hS, fS, fI, nSI, hx, rx, hij, hbest⟩
    obtain ⟨its, rv, p, hz⟩ := I.list hl
    have hlen := rv.length
    refine codeAny_builtin PySem.F.entry_min_loop ?_
    rw [Around.under_plainId PySem.F.plain_min_loop _]
    show wpAny _ X.A.in1 (seqItems? (.ref S) >>= _) _ _ _
    refine wpAny_bind (wpAny_seqItems hS rfl ?_)
    show wpAny _ X.A.in1 (tryCatch (pyNext (.ref It)) _ >>= _) _ _ _
    refine wpAny_bind (wpAny_tryCatch (wpAny_pyNext_list_end (show X.A.in1.handled = none from I.ok.hd hc) hit p.isList (by simp; omega) fun h' eb => ?_))
    obtain ⟨f0, f1, f2, f3, f4, f5⟩ := fI
    have I1 : Inv X pins σ H { s with heap := h' } := I.turned (t' := s.toks) (fun b o hb e => eb b o hb e) f0 f1 f3 f4 f5
    have hS' : h'.get? S = some (seqObj "list" #[vb, .int (kf i) tb] c) := eb S _ nSI hS
    have sb := Heap.SameBut.update h' S (Obj.mapSeq fun _ => (#[] : Array Value))
    obtain ⟨g0, g1, g2, g3, g4, g5⟩ := fS
    show wpAny _ X.A.in1 (updateSeq S (fun _ => #[]) >>= _) _ _ _
    refine wpAny_bind ?_
    refine wpAny_updateSeq hS' rfl (wpAny_bind (wpAny_letGo (wpAny_pure ?_)))
    exact hR i x vb _ H hx rx (fun j' hj' => hbest j' (by omega)) (I1.turned (t' := s.toks) (fun b o hb e => (sb.2 b hb).trans e) g0 g1 g3 g4 g5) sm
  | succ r ih =>
    intro j s hr' hj ⟨H, i, vb, x, tb, c, I, sm, hl, hit, hS, fS, fI, nSI, hx, rx, hij, hbest⟩
    have hjl : j < xs.length := by omega
    obtain ⟨its, rv, p, hz⟩ := I.list hl
    have hxj : xs[j]? = some (xs[j]) := List.getElem?_eq_getElem hjl
    obtain ⟨u, hu, ru⟩ := rv.get hxj
    refine codeAny_builtin PySem.F.entry_min_loop ?_
    rw [Around.under_plainId PySem.F.plain_min_loop _]
    show wpAny _ X.A.in1 (seqItems? (.ref S) >>= _) _ _ _
    refine wpAny_bind (wpAny_seqItems hS rfl ?_)
    show wpAny _ X.A.in1 (tryCatch (pyNext (.ref It)) _ >>= _) _ _ _
    refine wpAny_bind (wpAny_tryCatch (wpAny_pyNext_list_item hit p.isList (x := u) (by simpa using hu) fun h' hit' sb => ?_))
    obtain ⟨f0, f1, f2, f3, f4, f5⟩ := id fI
    have I1 : Inv X pins σ H { s with heap := h' } := I.turned (t' := s.toks) (fun b o hb e => (sb.2 b hb).trans e) f0 f1 f3 f4 f5
    have hS1 : h'.get? S = some (seqObj "list" #[vb, .int (kf i) tb] c) := (sb.2 S nSI).trans hS
    obtain ⟨oI, hoI, hoc, hod⟩ := id hit'
    show wpAny _ X.A.in1 (tryCatch (holding [u] (call (.ref f) [u])) _ >>= _) _ _ _
    refine wpAny_bind (wpAny_tryCatch (wpAny_holding (wpAny_mono (key_call (fp := [S, It]) F hr hb I1 (by
      intro b hb'
      rcases List.mem_cons.mp hb' with z | z
      · rw [z]; exact fS
      · rw [List.mem_singleton.mp z]; exact fI) (by
      intro b hb'
      rcases List.mem_cons.mp hb' with z | z
      · rw [z]; exact ⟨_, hS1, fun v z => by cases z⟩
      · rw [List.mem_singleton.mp z]; exact ⟨_, hoI, fun v z => by rw [hod] at z; cases z⟩) ru (hsp j _ H hxj sm)) (fun v s2 he => ?_) fun _ _ hF => hF.elim)))
    obtain ⟨t2, H3, rfl, I3, sm3, hpin⟩ := he
    obtain ⟨hS3, nS3⟩ := hpin S (by simp) _ hS1
    obtain ⟨hI3, nI3⟩ := hpin It (by simp) _ hoI
    have fS3 : FpOk X pins H3 S := ⟨nS3, fS.2⟩
    have fI3 : FpOk X pins H3 It := ⟨nI3, fI.2⟩
    have hit3 : s2.heap.IsListIter It l (j + 1) := ⟨oI, hI3, hoc, hod⟩
    show wpAny _ X.A.in1 (tryCatch (holding [u, .int (kf j) t2] (richCompare .Lt (.int (kf j) t2) (.int (kf i) tb) >>= _)) _ >>= _) _ _ _
    refine wpAny_bind (wpAny_tryCatch (wpAny_holding (wpAny_bind (CmpOf.ints_lt (prog := X.prog) (w := X.w) (A := X.A.in1) (P := fun i v => ∃ t, v = .int (kf i) t) kf (fun i v h => h) j i _ _ _ _ _ ⟨t2, rfl⟩ ⟨tb, rfl⟩ ?_))))
    refine wpAny_bind (wpAny_holding (wpAny_truthy_bool ?_))
    refine wpAny_bind (wpAny_letGo (wpAny_pure ?_))
    by_cases hb' : kf j < kf i
    · have s1 := Heap.SameBut.update s2.heap S (Obj.mapSeq fun _ => #[u, .int (kf j) t2])
      obtain ⟨c2, hc2⟩ : ∃ c2, (s2.heap.update S (Obj.mapSeq fun _ => #[u, .int (kf j) t2])).get? S = some (seqObj "list" #[u, .int (kf j) t2] c2) := ⟨_, get?_update_seq hS3 fun _ => #[u, .int (kf j) t2]⟩
      simp only [hb', decide_true, if_true]
      refine wpAny_bind ?_
      refine wpAny_updateSeq hS3 rfl (wpAny_bind (wpAny_letGo ?_))
      rw [hname]
      obtain ⟨g0, g1, g2, g3, g4, g5⟩ := id fS3
      refine wpAny_pure ⟨plainId_quiet PySem.F.plain_min_loop _, ih (j + 1) _ (by omega) hjl ⟨H3, j, u, _, t2, c2, I3.turned (t' := s2.toks) (fun b o hb e => (s1.2 b hb).trans e) g0 g1 g3 g4 g5, sm.trans sm3, sm3.seq hl, hit3.at fun o e => (s1.2 It nSI.symm).trans e, hc2, fS3, fI3, nSI, hxj, ru, Nat.lt_succ_self _, fun j' hj' => ?_⟩⟩
      by_cases e : j' = j
      · subst e
        exact ⟨by omega, fun z => by omega⟩
      · obtain ⟨h1, h2⟩ := hbest j' (by omega)
        exact ⟨by omega, fun z => by omega⟩
    · simp only [hb', decide_false, Bool.false_eq_true, if_false]
      refine wpAny_bind (wpAny_letGo ?_)
      rw [hname]
      refine wpAny_pure ⟨plainId_quiet PySem.F.plain_min_loop _, ih (j + 1) _ (by omega) hjl ⟨H3, i, vb, x, tb, c, I3, sm.trans sm3, sm3.seq hl, hit3, hS3, fS3, fI3, nSI, hx, rx, by omega, fun j' hj' => ?_⟩⟩
      by_cases e : j' = j
      · subst e
        exact ⟨by omega, fun z => by omega⟩
      · exact hbest j' (by omega)
theorem min_key (F : FnOk X.prog X.w X.K X.mg X.base CX0 k f fd ps sp) (hr : Room (k + 1) X.A) (hb : Binds X.K fd ps []) (hc : X.calm = true) {s : Shared} {Q : Value → Shared → Prop} {E : Value → Shared → Prop} (d : Value) (I : Inv X pins σ H2 s) (hl : SqL X.K H2 l xs)
    (hsp : ∀ i x H', xs[i]? = some x → Same H2 H' → sp [x] H' (fun y H'' => y = .int (kf i) ∧ Same H' H'') E0)
    (h0 : xs = [] → ∀ s' H', Inv X pins σ H' s' → Same H2 H' → Q d s')
    (hQ : ∀ i x u s' H', xs[i]? = some x → RelV x u → (∀ j, j < xs.length → kf i ≤ kf j ∧ (j < i → kf i < kf j)) → Inv X pins σ H' s' → Same H2 H' → Q u s') :
    wpAny (model X.prog X.w) X.A (call (.builtin "min") [.ref l] [(Str.ofString "key", .ref f), (Str.ofString "default", d)]) Q E s := by
  have hname : (toString "min" ++ toString ".loop" : String) = "min.loop" := by decide
  obtain ⟨its, rv, p, hz⟩ := I.list hl
  have hlen := rv.length
  refine kmk_tree PySem.F.kind_min PySem.F.plain_min PySem.F.entry_min (min_dflt _ _ _) ?_
  show wpAny _ X.A.in1 (Builtin.Builtins.bindParams "min" ["key", "default"] 0 ⟨[], [(Str.ofString "key", .ref f), (Str.ofString "default", d)]⟩ >>= _) _ _ s
  refine wpAny_bind (wpAny_of_eq (show Builtin.Builtins.bindParams "min" ["key", "default"] 0 ⟨[], [(Str.ofString "key", .ref f), (Str.ofString "default", d)]⟩ = pure [some (.ref f), some d] from rfl) ?_)
  refine wpAny_bind (wpAny_pure ?_)
  refine wpAny_bind (wpAny_pyIter_list p.isList ?_)
  refine wpAny_bind (wpAny_newList ?_ (Nat.zero_le _))
  rw [hname]
  have hS : (s.heap.push { cls := .type "list_iterator", data := .fields #[.ref l, .int 0 0] }).objs.size = s.heap.objs.size + 1 := Heap.size_push ..
  refine wpAny_pure ⟨plainId_quiet PySem.F.plain_min_loop _, ?_⟩
  have gI : ((s.heap.push { cls := .type "list_iterator", data := .fields #[.ref l, .int 0 0] }).push (seqObj "list" #[] 0)).get? s.heap.objs.size = some { cls := .type "list_iterator", data := .fields #[.ref l, .int 0 0] } :=
    Heap.get?_push_of_some _ (Heap.get?_push_size _ rfl)
  have gS : ((s.heap.push { cls := .type "list_iterator", data := .fields #[.ref l, .int 0 0] }).push (seqObj "list" #[] 0)).get? (s.heap.push { cls := .type "list_iterator", data := .fields #[.ref l, .int 0 0] }).objs.size = some (seqObj "list" #[] 0) := Heap.get?_push_size _ rfl
  have I0 : Inv X pins σ H2 { s with heap := (s.heap.push { cls := .type "list_iterator", data := .fields #[.ref l, .int 0 0] }).push (seqObj "list" #[] 0) } := I.kept (t' := s.toks) fun b o e => Heap.get?_push_of_some _ (Heap.get?_push_of_some _ e)
  have fI : FpOk X pins H2 s.heap.objs.size := I.fpOk (Nat.le_refl _) (I.hok.fresh (Nat.le_refl _))
  have fS : FpOk X pins H2 (s.heap.push { cls := .type "list_iterator", data := .fields #[.ref l, .int 0 0] }).objs.size := I.fpOk (by rw [hS]; exact Nat.le_succ _) (I.hok.fresh (by rw [hS]; exact Nat.le_succ _))
  have nSI : (s.heap.push { cls := .type "list_iterator", data := .fields #[.ref l, .int 0 0] }).objs.size ≠ s.heap.objs.size := by rw [hS]; exact Nat.succ_ne_self _
  have hit : ((s.heap.push { cls := .type "list_iterator", data := .fields #[.ref l, .int 0 0] }).push (seqObj "list" #[] 0)).IsListIter s.heap.objs.size l 0 := ⟨_, gI, rfl, rfl⟩
  have pl0 : ((s.heap.push { cls := .type "list_iterator", data := .fields #[.ref l, .int 0 0] }).push (seqObj "list" #[] 0)).IsList l its.toArray := p.isList.at fun o e => Heap.get?_push_of_some _ (Heap.get?_push_of_some _ e)
  generalize (s.heap.push { cls := .type "list_iterator", data := .fields #[.ref l, .int 0 0] }).objs.size = S at gS fS nSI ⊢
  generalize (s.heap.push { cls := .type "list_iterator", data := .fields #[.ref l, .int 0 0] }).push (seqObj "list" #[] 0) = h0' at gI gS I0 hit pl0 ⊢
  generalize s.heap.objs.size = It at gI fI nSI hit ⊢
  refine codeAny_builtin PySem.F.entry_min_loop ?_
  rw [Around.under_plainId PySem.F.plain_min_loop _]
  show wpAny _ X.A.in1 (seqItems? (.ref S) >>= _) _ _ _
  refine wpAny_bind (wpAny_seqItems gS rfl ?_)
  show wpAny _ X.A.in1 (tryCatch (pyNext (.ref It)) _ >>= _) _ _ _
  by_cases he : xs = []
  · refine wpAny_bind (wpAny_tryCatch (wpAny_pyNext_list_end (show X.A.in1.handled = none from I.ok.hd hc) hit pl0 (by subst he; simp at hlen; simp [hlen]) fun h' eb => ?_))
    obtain ⟨f0, f1, f2, f3, f4, f5⟩ := fI
    show wpAny _ X.A.in1 (rule _ >>= _) _ _ _
    refine wpAny_bind (wpAny_rule (wpAny_pure ?_))
    exact h0 he _ H2 (I0.turned (t' := s.toks) (fun b o hb e => eb b o hb e) f0 f1 f3 f4 f5) (Same.refl _)
  · have hpos : 0 < xs.length := List.length_pos_iff.mpr he
    have hx0 : xs[0]? = some (xs[0]) := List.getElem?_eq_getElem hpos
    obtain ⟨u, hu, ru⟩ := rv.get hx0
    refine wpAny_bind (wpAny_tryCatch (wpAny_pyNext_list_item hit pl0 (x := u) (by simpa using hu) fun h' hit' sb => ?_))
    obtain ⟨f0, f1, f2, f3, f4, f5⟩ := id fI
    have I1 : Inv X pins σ H2 { s with heap := h' } := I0.turned (t' := s.toks) (fun b o hb e => (sb.2 b hb).trans e) f0 f1 f3 f4 f5
    have hS1 : h'.get? S = some (seqObj "list" #[] 0) := (sb.2 S nSI).trans gS
    obtain ⟨oI, hoI, hoc, hod⟩ := id hit'
    show wpAny _ X.A.in1 (tryCatch (holding [u] (call (.ref f) [u])) _ >>= _) _ _ _
    refine wpAny_bind (wpAny_tryCatch (wpAny_holding (wpAny_mono (key_call (fp := [S, It]) F hr hb I1 (by
      intro b hb'
      rcases List.mem_cons.mp hb' with z | z
      · rw [z]; exact fS
      · rw [List.mem_singleton.mp z]; exact fI) (by
      intro b hb'
      rcases List.mem_cons.mp hb' with z | z
      · rw [z]; exact ⟨_, hS1, fun v z => by cases z⟩
      · rw [List.mem_singleton.mp z]; exact ⟨_, hoI, fun v z => by rw [hod] at z; cases z⟩) ru (hsp 0 _ H2 hx0 (Same.refl _))) (fun v s2 he => ?_) fun _ _ hF => hF.elim)))
    obtain ⟨t2, H3, rfl, I3, sm3, hpin⟩ := he
    obtain ⟨hS3, nS3⟩ := hpin S (by simp) _ hS1
    obtain ⟨hI3, nI3⟩ := hpin It (by simp) _ hoI
    have fS3 : FpOk X pins H3 S := ⟨nS3, fS.2⟩
    have fI3 : FpOk X pins H3 It := ⟨nI3, fI.2⟩
    have hit3 : s2.heap.IsListIter It l (0 + 1) := ⟨oI, hI3, hoc, hod⟩
    have s1 := Heap.SameBut.update s2.heap S (Obj.mapSeq fun _ => #[u, .int (kf 0) t2])
    obtain ⟨c2, hc2⟩ : ∃ c2, (s2.heap.update S (Obj.mapSeq fun _ => #[u, .int (kf 0) t2])).get? S = some (seqObj "list" #[u, .int (kf 0) t2] c2) := ⟨_, get?_update_seq hS3 fun _ => #[u, .int (kf 0) t2]⟩
    show wpAny _ X.A.in1 (updateSeq S (fun _ => #[u, .int (kf 0) t2]) >>= _) _ _ _
    refine wpAny_bind ?_
    refine wpAny_updateSeq hS3 rfl ?_
    rw [hname]
    obtain ⟨g0, g1, g2, g3, g4, g5⟩ := id fS3
    refine wpAny_pure ⟨plainId_quiet PySem.F.plain_min_loop _, min_loop F hr hb hc hsp _ _ (fun i x u s' H' a b c d e => hQ i x u s' H' a b c d e) _ 1 _ rfl hpos ⟨H3, 0, u, _, t2, c2, I3.turned (t' := s2.toks) (fun b o hb e => (s1.2 b hb).trans e) g0 g1 g3 g4 g5, sm3, sm3.seq hl, hit3.at fun o e => (s1.2 It nSI.symm).trans e, hc2, fS3, fI3, nSI, hx0, ru, Nat.zero_lt_one, fun j' hj' => ?_⟩⟩
    have e : j' = 0 := by omega
    subst e
    exact ⟨by omega, fun z => by omega⟩
end

section
variable {X : Cx} {K : PySem.W.Frag} {x : Str} {k : Nat} {ps : List Str} {sp : Sp} {e d : Expr} {te td : TE} {p pk pos k1 k2 : Pos}
/-- max(e, key=x, default=d) -/
def tMaxK (K : PySem.W.Frag) (sp : Sp) (te td : TE) : TE := fun σ H Q => te σ H fun v H1 => td σ H1 fun dv H2 => ∃ (a : Addr) (xs : List V) (kf : Nat → Int), v = .ref a ∧ SqL K H2 a xs ∧ (∀ i y H', xs[i]? = some y → Same H2 H' → sp [y] H' (fun z H'' => z = .int (kf i) ∧ Same H' H'') E0) ∧
  (xs = [] → ∀ H', Same H2 H' → Q dv H') ∧ ∀ i y H', xs[i]? = some y → (∀ j, j < xs.length → kf i ≥ kf j ∧ (j < i → kf i > kf j)) → Same H2 H' → Q y H'
def tMinK (K : PySem.W.Frag) (sp : Sp) (te td : TE) : TE := fun σ H Q => te σ H fun v H1 => td σ H1 fun dv H2 => ∃ (a : Addr) (xs : List V) (kf : Nat → Int), v = .ref a ∧ SqL K H2 a xs ∧ (∀ i y H', xs[i]? = some y → Same H2 H' → sp [y] H' (fun z H'' => z = .int (kf i) ∧ Same H' H'') E0) ∧
  (xs = [] → ∀ H', Same H2 H' → Q dv H') ∧ ∀ i y H', xs[i]? = some y → (∀ j, j < xs.length → kf i ≤ kf j ∧ (j < i → kf i < kf j)) → Same H2 H' → Q y H'
theorem pe_maxK (eK : X.K = K) (hc : X.calm = true) (h : Has X.prog X.w X.K X.mg X.base x k ps sp) (hr : Room (k + 1) X.A) (hg : Gl X x) (hgm : Gl X "max") (hm : X.mg "max" = none) (he : PE X e te) (hd : PE X d td)
    (hdb : (x == ("__debug__" : Str)) = false := by decide) (hs : starEach [e] X.env = [(false, eval e X.env)] := by rfl) :
    PE X (.Call (.Name "max" p) [e] [⟨some "key", .Name x pk, k1⟩, ⟨some "default", d, k2⟩] pos) (tMaxK K sp te td) := by
  subst eK
  obtain ⟨f, fd, F, hmf, hkf, hb⟩ := h.ex
  intro pins s σ H Q I q
  refine wpAny_Call_Name_kw (ld_blt I hgm hm boot_max' ?_)
  refine callWith_kw ?_ (he := by rw [hs]; rfl) (hplain := by rw [hs]; rfl)
  rw [hs]
  refine Calls.spliced_cons (thn (he pins s σ H _ I q) fun v s1 ⟨y1, H1, I1, r1, q1⟩ => ?_)
  refine Calls.spliced_nil ?_
  refine kws_cons (ld_glob I1 hg hmf ?_ hdb)
  refine kws_cons (thn (hd pins s1 σ H1 _ I1 q1) fun dv s2 ⟨y2, H2, I2, r2, q2⟩ => ?_)
  refine kws_nil ?_
  obtain ⟨a, xs, kf, rfl, hl, hsp, h0, hQ⟩ := q2
  cases r1
  exact max_key F hr hb hc dv I2 hl hsp (fun e s' H' I' sm => ⟨y2, H', I', r2, h0 e H' sm⟩) fun i y u s' H' hy ry hbest I' sm => ⟨y, H', I', ry, hQ i y H' hy hbest sm⟩
theorem pe_minK (eK : X.K = K) (hc : X.calm = true) (h : Has X.prog X.w X.K X.mg X.base x k ps sp) (hr : Room (k + 1) X.A) (hg : Gl X x) (hgm : Gl X "min") (hm : X.mg "min" = none) (he : PE X e te) (hd : PE X d td)
    (hdb : (x == ("__debug__" : Str)) = false := by decide) (hs : starEach [e] X.env = [(false, eval e X.env)] := by rfl) :
    PE X (.Call (.Name "min" p) [e] [⟨some "key", .Name x pk, k1⟩, ⟨some "default", d, k2⟩] pos) (tMinK K sp te td) := by
  subst eK
  obtain ⟨f, fd, F, hmf, hkf, hb⟩ := h.ex
  intro pins s σ H Q I q
  refine wpAny_Call_Name_kw (ld_blt I hgm hm boot_min' ?_)
  refine callWith_kw ?_ (he := by rw [hs]; rfl) (hplain := by rw [hs]; rfl)
  rw [hs]
  refine Calls.spliced_cons (thn (he pins s σ H _ I q) fun v s1 ⟨y1, H1, I1, r1, q1⟩ => ?_)
  refine Calls.spliced_nil ?_
  refine kws_cons (ld_glob I1 hg hmf ?_ hdb)
  refine kws_cons (thn (hd pins s1 σ H1 _ I1 q1) fun dv s2 ⟨y2, H2, I2, r2, q2⟩ => ?_)
  refine kws_nil ?_
  obtain ⟨a, xs, kf, rfl, hl, hsp, h0, hQ⟩ := q2
  cases r1
  exact min_key F hr hb hc dv I2 hl hsp (fun e s' H' I' sm => ⟨y2, H', I', r2, h0 e H' sm⟩) fun i y u s' H' hy ry hbest I' sm => ⟨y, H', I', ry, hQ i y H' hy hbest sm⟩
end
end L2

set_option Elab.async false
set_option linter.all false
set_option maxRecDepth 100000
set_option maxHeartbeats 4000000
/-! repr of a tuple of small ints, of a list of such. -/
namespace L2
open PySem PySem.Spec PyProof.Rows
section
variable {X : Cx} {pins : List (Addr × Obj)} {σ : St} {H : Hp} {s : Shared}
end
end L2

set_option Elab.async false
set_option linter.all false
set_option maxRecDepth 100000
set_option maxHeartbeats 4000000
/-! == of tuples of ints, of None, of lists of tuples. -/
namespace L2
open PySem PySem.Spec PyProof.Rows
theorem all_eq {ns ms : List Int} : ((List.range (min ns.length ms.length)).all (fun j => ns.getD j 0 == ms.getD j 0) && ns.length == ms.length) = decide (ns = ms) := by
  by_cases h : ns = ms
  · subst h
    rw [decide_eq_true rfl]
    simp
  · rw [decide_eq_false h]
    by_cases hl : ns.length = ms.length
    · have : ¬ ∀ j, j < ns.length → ns.getD j 0 = ms.getD j 0 := fun z => h (My.ext_getD hl z)
      rw [Bool.and_eq_false_iff]
      refine .inl ?_
      rw [← Bool.not_eq_true, List.all_eq_true]
      intro z
      refine this fun j hj => ?_
      have := z j (List.mem_range.mpr (by omega))
      simpa using this
    · rw [Bool.and_eq_false_iff]
      exact .inr (by simpa using hl)
section
variable {X : Cx} {K : PySem.W.Frag} {pins : List (Addr × Obj)} {σ : St} {H : Hp} {s : Shared}
theorem ints_eqAt {A : Around} {ns ms : List Int} {us ws : List Value} (r : Vals (ns.map V.int) us) (q : Vals (ms.map V.int) ws) (j : Nat) (h1 : j < us.toArray.size) (h2 : j < ws.toArray.size) : SeqAt.EqAt A s us.toArray[j] ws.toArray[j] (ns.getD j 0 == ms.getD j 0) := by
  have := eqL_go (A := A) (s := s) r q (flat_ints ns) (flat_ints ms) j h1 h2
  have hx : j < ns.length := by have := r.length; rw [List.length_map] at this; simp at h1; omega
  have hy : j < ms.length := by have := q.length; rw [List.length_map] at this; simp at h2; omega
  have e1 : (ns.map V.int).getD j .non = .int (ns.getD j 0) := by rw [List.getD_eq_getElem?_getD, List.getElem?_map, List.getElem?_eq_getElem hx, List.getD_eq_getElem?_getD, List.getElem?_eq_getElem hx]; rfl
  have e2 : (ms.map V.int).getD j .non = .int (ms.getD j 0) := by rw [List.getD_eq_getElem?_getD, List.getElem?_map, List.getElem?_eq_getElem hy, List.getD_eq_getElem?_getD, List.getElem?_eq_getElem hy]; rfl
  rw [e1, e2] at this
  exact this
theorem rc_tup {A : Around} {t t' : Addr} {ns ms : List Int} (I : Inv X pins σ H s) (e1 : SqT X.K H t (ns.map V.int)) (e2 : SqT X.K H t' (ms.map V.int)) (hu : A.units < cLine) : SeqAt.RcAt A s (.ref t) (.ref t') (decide (ns = ms)) := by
  obtain ⟨us, r1, p1, _⟩ := I.tuple e1
  obtain ⟨ws, r2, p2, _⟩ := I.tuple e2
  have := SeqAt.RcAt.tuples (A := A) (show s.heap.IsTuple t us.toArray from p1) (show s.heap.IsTuple t' ws.toArray from p2) hu (e := fun j => ns.getD j 0 == ms.getD j 0) fun j h1 h2 => ints_eqAt r1 r2 j h1 h2
  have l1 := r1.length
  have l2 := r2.length
  rw [List.length_map] at l1 l2
  rw [List.size_toArray, List.size_toArray, ← l1, ← l2, all_eq] at this
  exact this
/-- None, or a tuple of ints -/
def TupN (K : PySem.W.Frag) (H : Hp) (v : V) (o : Option (List Int)) : Prop := (v = .non ∧ o = none) ∨ ∃ t ns, v = .ref t ∧ o = some ns ∧ SqT K H t (ns.map V.int)
def rEqT (K : PySem.W.Frag) (neg : Bool) : R2 := fun x y H Q => ∃ o p, TupN K H x o ∧ TupN K H y p ∧ Q (.bl (if neg then !decide (o = p) else decide (o = p))) H
theorem op_eqT (e : X.K = K) (hu : X.A.units < cLine) : OpR X (compareOp .Eq) (rEqT K false) := by
  subst e
  intro pins s σ H x y v u Q I rx ry h
  obtain ⟨o, p, hx, hy, q⟩ := h
  rcases hx with ⟨rfl, rfl⟩ | ⟨t, ns, rfl, rfl, e1⟩
  · cases rx
    rcases hy with ⟨rfl, rfl⟩ | ⟨t', ms, rfl, rfl, e2⟩
    · cases ry
      exact SeqAt.RcAt.none_none _ _ _ _ ⟨.bl _, H, I, rfl, q⟩
    · cases ry
      obtain ⟨ws, r2, p2, _⟩ := I.tuple e2
      exact SeqAt.RcAt.none_tuple (show s.heap.IsTuple t' ws.toArray from p2) hu _ _ _ _ ⟨.bl _, H, I, rfl, q⟩
  · cases rx
    rcases hy with ⟨rfl, rfl⟩ | ⟨t', ms, rfl, rfl, e2⟩
    · cases ry
      obtain ⟨us, r1, p1, _⟩ := I.tuple e1
      exact SeqAt.RcAt.tuple_none (show s.heap.IsTuple t us.toArray from p1) hu _ _ _ _ ⟨.bl _, H, I, rfl, q⟩
    · cases ry
      refine rc_tup I e1 e2 hu _ _ _ _ ⟨.bl _, H, I, rfl, ?_⟩
      have : decide (some ns = some ms) = decide (ns = ms) := by simp
      rw [← this]; exact q
/-- lists of tuples of ints -/
def rEqLT (K : PySem.W.Frag) (neg : Bool) : R2 := fun x y H Q => ∃ a b ts us xss yss, x = .ref a ∧ y = .ref b ∧ SqL K H a (ts.map V.ref) ∧ SqL K H b (us.map V.ref) ∧ TupsAt H ts xss ∧ TupsAt H us yss ∧ Q (.bl (if neg then !decide (xss = yss) else decide (xss = yss))) H
theorem refs_at {ts : List Addr} {us : List Value} (r : Vals (ts.map V.ref) us) {j : Nat} (h : j < us.toArray.size) : ∃ t, ts[j]? = some t ∧ us.toArray[j] = .ref t := by
  have hl := r.length
  rw [List.length_map] at hl
  have hj : j < ts.length := by simp at h; omega
  obtain ⟨u, eu, ru⟩ := r.get (i := j) (x := .ref ts[j]) (by rw [List.getElem?_map, List.getElem?_eq_getElem hj]; rfl)
  cases ru
  refine ⟨ts[j], List.getElem?_eq_getElem hj, ?_⟩
  have := List.getElem?_eq_getElem (l := us) (i := j) (by simpa using h)
  rw [eu] at this
  simpa using (Option.some.inj this).symm
theorem tups_eqAt {A : Around} {ts us : List Addr} {xss yss : List (List Int)} {vs ws : List Value} (I : Inv X pins σ H s) (r : Vals (ts.map V.ref) vs) (q : Vals (us.map V.ref) ws) (hx : TupsAt H ts xss) (hy : TupsAt H us yss) (hu : A.units < cLine) (j : Nat) (h1 : j < vs.toArray.size) (h2 : j < ws.toArray.size) :
    SeqAt.EqAt A s vs.toArray[j] ws.toArray[j] (xss.getD j [] == yss.getD j []) := by
  obtain ⟨t, et, ev⟩ := refs_at r h1
  obtain ⟨t', et', ev'⟩ := refs_at q h2
  have hjx : j < xss.length := by rw [← hx.1]; exact (List.getElem?_eq_some_iff.mp et).1
  have hjy : j < yss.length := by rw [← hy.1]; exact (List.getElem?_eq_some_iff.mp et').1
  have ex := hx.2 j t _ et (List.getElem?_eq_getElem hjx)
  have ey := hy.2 j t' _ et' (List.getElem?_eq_getElem hjy)
  rw [ev, ev', List.getD_eq_getElem?_getD, List.getElem?_eq_getElem hjx, List.getD_eq_getElem?_getD, List.getElem?_eq_getElem hjy, Option.getD_some, Option.getD_some]
  by_cases z : t = t'
  · subst z
    rw [ex] at ey
    have : xss[j].map V.int = yss[j].map V.int := by injection ey with y; injection y
    have e : xss[j] = yss[j] := (List.map_inj_right (fun a b h => by injection h)).mp this
    rw [e, beq_self_eq_true]
    exact SeqAt.EqAt.same _
  · have := SeqAt.EqAt.of_refs z (rc_tup (A := A) I (SqT.of ex) (SqT.of ey) hu)
    have e : decide (xss[j] = yss[j]) = (xss[j] == yss[j]) := by
      by_cases y : xss[j] = yss[j]
      · rw [decide_eq_true y, y, beq_self_eq_true]
      · rw [decide_eq_false y]; exact (beq_eq_false_iff_ne.mpr y).symm
    rw [← e]; exact this
theorem all_eqL {xss yss : List (List Int)} (hl : xss.length = yss.length) : (List.range xss.length).all (fun j => xss.getD j [] == yss.getD j []) = decide (xss = yss) := by
  by_cases h : xss = yss
  · subst h; simp
  · rw [decide_eq_false h, ← Bool.not_eq_true, List.all_eq_true]
    intro z
    refine h (List.ext_getElem hl fun j h1 h2 => ?_)
    have := z j (List.mem_range.mpr h1)
    rw [List.getD_eq_getElem?_getD, List.getElem?_eq_getElem h1, List.getD_eq_getElem?_getD, List.getElem?_eq_getElem h2] at this
    simpa using this
theorem op_eqLT (e : X.K = K) (hu : X.A.units + 1 < cLine) : OpR X (compareOp .Eq) (rEqLT K false) := by
  subst e
  intro pins s σ H x y v u Q I rx ry h
  obtain ⟨a, b, ts, us, xss, yss, rfl, rfl, ha, hb, hx, hy, q⟩ := h
  cases rx
  cases ry
  obtain ⟨vs, r1, p1, _⟩ := I.list ha
  obtain ⟨ws, r2, p2, _⟩ := I.list hb
  have l1 := r1.length
  have l2 := r2.length
  rw [List.length_map, hx.1] at l1
  rw [List.length_map, hy.1] at l2
  by_cases hl : xss.length = yss.length
  · refine SeqAt.eq_listAt (e := fun j => xss.getD j [] == yss.getD j []) p1.isList p2.isList (by simp only [List.size_toArray]; omega) (by omega) (fun j h1 h2 => tups_eqAt (A := X.A.in1) I r1 r2 hx hy hu j h1 h2) ⟨.bl _, H, I, rfl, ?_⟩
    rw [List.size_toArray, ← l1, all_eqL hl]; exact q
  · refine SeqAt.eq_list_lengthsAt p1.isList p2.isList (by simp only [List.size_toArray, bne_iff_ne, ne_eq]; omega) (by omega) ⟨.bl _, H, I, rfl, ?_⟩
    have e : decide (xss = yss) = false := decide_eq_false fun z => hl (by rw [z])
    rw [e] at q; exact q
end
theorem TupsAt.sx {H H' : Hp} {hl : Addr} {ts : List Addr} {xss : List (List Int)} {qs : List V} (x : TupsAt H ts xss) (e : H hl = some (.lst qs)) (s : SameX hl H H') : TupsAt H' ts xss :=
  ⟨x.1, fun i t xs h1 h2 => s _ _ (ne_of (x.2 i t xs h1 h2) e (by intro z; cases z)) (x.2 i t xs h1 h2)⟩
end L2

set_option Elab.async false
set_option linter.all false
set_option maxRecDepth 100000
set_option maxHeartbeats 4000000
/-! Widths of like rows, of rows from behind; totals; the longest window within. -/
namespace My
open L2
/-- the longest window with at most m, the least first of several -/
def WithinP (ns : List Int) (m f b : Nat) : Prop := (ns.length = 0 ∧ f = 0 ∧ b = 0) ∨ (f < ns.length ∧ b = reach ns f m ∧ ∀ j, j < ns.length → reach ns j m - j ≤ reach ns f m - f ∧ (j < f → reach ns j m - j < reach ns f m - f))
end My
namespace L2
open PySem PySem.Spec PyProof.Rows
def spWidthOf (K : PySem.W.Frag) : Sp := fun vs H Q _ => ∃ (t : Addr) (a b : Int), vs = [.ref t] ∧ SqT K H t [.int a, .int b] ∧ Q (.int (b - a)) H
def spWithin (K : PySem.W.Frag) : Sp := fun vs H Q _ => ∃ (a : Addr) (ns : List Int) (m : Nat), vs = [.ref a, .int m] ∧ SqL K H a (ns.map V.int) ∧ ns.length ≤ 900 ∧ ∀ (t : Addr) (f b : Nat) (H' : Hp), My.WithinP ns m f b → Same H H' → H' t = some (.tup [.int f, .int b]) → Q (.ref t) H'
end L2

set_option Elab.async false
set_option linter.all false
set_option maxRecDepth 100000
set_option maxHeartbeats 4000000
/-! The longest and the shortest window with just so many. -/
namespace My
open L2
/-- some window from f on has just m -/
def HasW (ns : List Int) (m f : Nat) : Prop := 0 < m ∧ m ≤ cnt ns f ns.length
instance (ns : List Int) (m f : Nat) : Decidable (HasW ns m f) := by unfold HasW; exact inferInstance
def least (ns : List Int) (f m : Nat) : Nat := gAt ns f (m - 1) + 1
theorem least_reach {ns : List Int} {f m : Nat} (hf : f ≤ ns.length) (h : HasW ns m f) : f < least ns f m ∧ least ns f m ≤ reach ns f m ∧ reach ns f m ≤ ns.length := by
  obtain ⟨h1, h2, h3, h4, _⟩ := gAt_spec (ns := ns) (f := f) (j := m - 1) hf (by have := h.1; have := h.2; omega)
  have hr := reach_le (ns := ns) (f := f) (m := m) hf
  have := (cnt_eq_iff (ns := ns) (f := f) (m := m) (b := gAt ns f (m - 1) + 1) (by omega) (by omega) h.1 h.2).mp (by have := h.1; omega)
  unfold least
  omega
theorem cnt_has {ns : List Int} {f m b : Nat} (hf : f < b) (hb : b ≤ ns.length) : cnt ns f b = m ↔ HasW ns m f ∧ least ns f m ≤ b ∧ b ≤ reach ns f m := by
  constructor
  · intro h
    have hp := cnt_pos (ns := ns) hf
    have hu := cnt_up (ns := ns) (f := f) (b := b) (c := ns.length) (by omega) hb
    have hh : HasW ns m f := ⟨by omega, by omega⟩
    have := (cnt_eq_iff (ns := ns) (f := f) (m := m) (b := b) (by omega) hb hh.1 hh.2).mp h
    exact ⟨hh, by unfold least; omega, this.2⟩
  · rintro ⟨hh, h1, h2⟩
    exact (cnt_eq_iff (ns := ns) (f := f) (m := m) (b := b) (by omega) hb hh.1 hh.2).mpr ⟨by unfold least at h1; omega, h2⟩
def fl (ns : List Int) (m : Nat) : List Nat := if m = 0 then [] else (List.range ns.length).filter fun f => decide (m ≤ cnt ns f ns.length)
theorem stretch_fl (ns : List Int) (m : Nat) : stretchM ns m = (fl ns m).map fun (f : Nat) => [(f : Int), (least ns f m : Int), (reach ns f m : Int)] := by
  unfold stretchM fl stretchP
  split
  · rfl
  · rfl
theorem fl_mem {ns : List Int} {m f : Nat} : f ∈ fl ns m ↔ f < ns.length ∧ HasW ns m f := by
  unfold fl HasW
  split
  · rename_i h
    subst h
    constructor
    · intro z; simp at z
    · rintro ⟨_, z, _⟩; omega
  · rename_i h
    rw [List.mem_filter, List.mem_range, decide_eq_true_iff]
    constructor
    · rintro ⟨a, b⟩; exact ⟨a, by omega, b⟩
    · rintro ⟨a, _, b⟩; exact ⟨a, b⟩
theorem fl_sorted (ns : List Int) (m : Nat) : (fl ns m).Pairwise (· < ·) := by
  unfold fl
  split
  · exact List.Pairwise.nil
  · exact List.pairwise_lt_range.filter _
theorem fl_lt {ns : List Int} {m i j f g : Nat} (hi : (fl ns m)[i]? = some f) (hj : (fl ns m)[j]? = some g) (h : g < f) : j < i := by
  obtain ⟨hi1, hi2⟩ := List.getElem?_eq_some_iff.mp hi
  obtain ⟨hj1, hj2⟩ := List.getElem?_eq_some_iff.mp hj
  rcases Nat.lt_trichotomy j i with z | z | z
  · exact z
  · subst z; omega
  · have := List.pairwise_iff_getElem.mp (fl_sorted ns m) i j hi1 hj1 z
    omega
/-- the longest (shortest) window with just m -/
def LongP (ns : List Int) (m k : Nat) : Option (Nat × Nat) → Prop
  | none => ∀ j, j < k → ¬ HasW ns m j
  | some p => p.1 < k ∧ HasW ns m p.1 ∧ p.2 = reach ns p.1 m ∧ ∀ j, j < k → HasW ns m j → reach ns j m - j ≤ p.2 - p.1 ∧ (j < p.1 → reach ns j m - j < p.2 - p.1)
def ShortP (ns : List Int) (m k : Nat) : Option (Nat × Nat) → Prop
  | none => ∀ j, j < k → ¬ HasW ns m j
  | some p => p.1 < k ∧ HasW ns m p.1 ∧ p.2 = least ns p.1 m ∧ ∀ j, j < k → HasW ns m j → p.2 - p.1 ≤ least ns j m - j ∧ (j < p.1 → p.2 - p.1 < least ns j m - j)
end My
namespace L2
open PySem PySem.Spec PyProof.Rows
/-- None, or a tuple of two places -/
def OptT (H : Hp) (v : V) : Option (Nat × Nat) → Prop
  | none => v = .non
  | some p => ∃ t, v = .ref t ∧ H t = some (.tup [.int (p.1 : Int), .int (p.2 : Int)])
def spLongest (K : PySem.W.Frag) : Sp := fun vs H Q _ => ∃ (a : Addr) (ns : List Int) (m : Nat), vs = [.ref a, .int m] ∧ SqL K H a (ns.map V.int) ∧ ns.length ≤ 900 ∧ ∀ (v : V) (o : Option (Nat × Nat)) (H' : Hp), My.LongP ns m ns.length o → Same H H' → OptT H' v o → Q v H'
def spShortest (K : PySem.W.Frag) : Sp := fun vs H Q _ => ∃ (a : Addr) (ns : List Int) (m : Nat), vs = [.ref a, .int m] ∧ SqL K H a (ns.map V.int) ∧ ns.length ≤ 900 ∧ ∀ (v : V) (o : Option (Nat × Nat)) (H' : Hp), My.ShortP ns m ns.length o → Same H H' → OptT H' v o → Q v H'
end L2

set_option Elab.async false
set_option linter.all false
set_option maxRecDepth 100000
set_option maxHeartbeats 4000000
/-! Tuples or None; a comprehension of tuples. -/
namespace My
open L2
theorem reach_is {ns : List Int} {f m r : Nat} (h1 : f ≤ r) (h2 : r ≤ ns.length) (h3 : cnt ns f r ≤ m) (h4 : r < ns.length → m < cnt ns f (r + 1)) : reach ns f m = r := by
  have a := (cnt_le_iff h1 h2).mp h3
  have b := reach_le (ns := ns) (f := f) (m := m) (by omega)
  rcases Nat.lt_or_ge r (reach ns f m) with z | z
  · have := (cnt_le_iff (ns := ns) (f := f) (m := m) (b := r + 1) (by omega) (by omega)).mpr (by omega)
    have := h4 (by omega)
    omega
  · omega
theorem tri (n : Nat) : ∀ k, k ≤ n → 2 * sumR k (fun f => (n : Int) - (f : Int)) = (k : Int) * (2 * n - k + 1)
  | 0, _ => by simp [sumR]
  | k + 1, h => by
    have ih := tri n k (by omega)
    rw [sumR_succ, Int.mul_add, ih]
    push_cast
    grind
end My
namespace L2
open PySem PySem.Spec PyProof.Rows My
theorem tupN {K : PySem.W.Frag} {H : Hp} {t : Addr} {x y : Int} (e : H t = some (.tup [.int x, .int y])) : TupN K H (.ref t) (some [x, y]) := .inr ⟨t, _, rfl, rfl, SqT.of e⟩
end L2

set_option Elab.async false
set_option linter.all false
set_option maxRecDepth 100000
set_option maxHeartbeats 4000000
namespace My
open L2
end My
namespace L2
open PySem PySem.Spec PyProof.Rows My
end L2

set_option Elab.async false
set_option linter.all false
set_option maxRecDepth 100000
set_option maxHeartbeats 4000000
/-! Rows by a rule: round and round, and each number so many times. -/
namespace My
open L2
-- round
-- stood
end My
namespace L2
open PySem PySem.Spec PyProof.Rows My
end L2

set_option Elab.async false
set_option linter.all false
set_option maxRecDepth 100000
set_option maxHeartbeats 4000000
/-! A row otherwise: other names, from behind, one more number. -/
namespace My
open L2
-- from behind
-- one more behind
-- one more ahead
-- all counts together
theorem one_of (C v : Nat) (h : v < C) : sumR C (fun c => if v = c then (1 : Int) else 0) = 1 := by
  have := sumR_between (fun c => v = c) v (v + 1) C (by omega) (by omega) (fun i hi => by omega)
  rw [this]; omega
theorem counts_sum (ns : List Int) : 2 * (countsM ns).sum = (ns.length : Int) * ((ns.length : Int) + 1) := by
  unfold countsM
  rw [sum_map]
  unfold countAt manyAt
  rw [sumR_swap, sumR_congr (h := fun f => (ns.length : Int) - (f : Int)) fun f hf => ?_]
  · have := tri ns.length ns.length (Nat.le_refl _)
    rw [show 2 * (ns.length : Int) - ns.length + 1 = ns.length + 1 by omega] at this
    exact this
  · rw [sumR_swap, sumR_congr (h := fun _ => 1) fun i hi => ?_]
    · have := sumR_between (fun _ => True) 0 (ns.length - f) (ns.length - f) (Nat.le_refl _) (Nat.zero_le _) (fun i hi => by simp; exact hi)
      simp at this
      rw [this]; omega
    · refine one_of _ _ ?_
      have h1 := cnt_up (ns := ns) (f := f) (b := f + (1 + i)) (c := ns.length) (by omega) (by omega)
      have h2 := cnt_dn (ns := ns) (f := 0) (g := f) (b := ns.length) (Nat.le_refl _) (Nat.zero_le _) (by omega)
      omega
end My
namespace L2
open PySem PySem.Spec PyProof.Rows My
theorem lc_tups_filter {K : PySem.W.Frag} {D a : Addr} {ts : List Addr} {xss : List (List Int)} {tc : TT} {Q : VK} {cap : St} {H : Hp} (p : List Int → Bool) (hn : ts.length < sizeLine) (hD : H D = none) (el : H a = some (.lst (ts.map V.ref))) (ht : TupsAt H ts xss)
    (hc : ∀ t xs H', xs ∈ xss → H' t = some (.tup (xs.map V.int)) → Same H H' → EvT tc (some (.ref t) :: cap) H' (p xs))
    (hd : ∀ H' us, Same H H' → H' D = some (.lst (us.map V.ref)) → TupsAt H' us (xss.filter p) → Q (.ref D) H') :
    ∃ W : Nat → Nat → St → Hp → Prop, (∃ m, W 0 m (none :: cap) (upd H D (.lst []))) ∧ LcW D (Itl K a) (gName 0) tc (tVar 0) Q W := by
  have same : ∀ {H' : Hp} {o : HO}, Same H H' → Same H (upd H' D o) := fun s b o e => by rw [upd_ne (ne_of_none e hD)]; exact s b o e
  refine lc_list (K := K) (a := a) (xs := ts.map V.ref) (fun i σ H' => ∃ v us, σ = v :: cap ∧ Same H H' ∧ H' D = some (.lst (us.map V.ref)) ∧ TupsAt H' us ((xss.take i).filter p)) ⟨none, [], rfl, same (Same.refl H), upd_same, rfl, fun i t xs h1 h2 => by cases h1⟩ (fun i σ H' _ ⟨_, _, _, s, _⟩ => SqL.of (s _ _ el)) ?_ ?_
  · rintro i x σ H' hx ⟨v, us, rfl, s, e, hts⟩
    rw [List.getElem?_map] at hx
    obtain ⟨t, h1, rfl⟩ : ∃ t, ts[i]? = some t ∧ x = .ref t := by
      cases z : ts[i]? with
      | none => rw [z] at hx; cases hx
      | some t => rw [z] at hx; exact ⟨t, rfl, (Option.some.inj hx).symm⟩
    have hi : i < xss.length := by rw [← ht.1]; exact (List.getElem?_eq_some_iff.mp h1).1
    have hxs : xss[i]? = some xss[i] := List.getElem?_eq_getElem hi
    generalize xss[i] = xs at hxs
    have et := ht.2 i t xs h1 hxs
    have tk : xss.take (i + 1) = xss.take i ++ [xs] := take_snoc hxs
    refine hc t xs H' (List.mem_of_getElem? hxs) (s _ _ et) s _ fun H3 s3 => ?_
    have e3 := s3 D _ e
    have t3 := hts.same s3
    cases hp : p xs with
    | false =>
      refine (if_neg Bool.false_ne_true).mpr ⟨_, us, rfl, s.trans s3, e3, ?_⟩
      rw [tk, filter_snoc, hp]; simpa using t3
    | true =>
      refine (if_pos rfl).mpr ⟨_, rfl, _, e3, ?_, _, us ++ [t], rfl, same (s.trans s3), by rw [upd_same, List.map_append]; rfl, ?_⟩
      · have l1 := List.length_filter_le p (xss.take i)
        rw [List.length_take] at l1
        have := ht.1
        rw [List.length_map, t3.1]; omega
      · have t4 := t3.snoc (s3 _ _ (s _ _ et))
        have t5 := t4.sx e3 (SameX.of_upd (o := .lst (us.map V.ref ++ [.ref t])))
        rw [tk, filter_snoc, hp]
        simpa using t5
  · rintro σ H' ⟨v, us, rfl, s, e, hts⟩
    rw [List.length_map, List.take_of_length_le (by rw [ht.1]; exact Nat.le_refl _)] at hts
    exact hd H' us s e hts
theorem lc_tups_map {K : PySem.W.Frag} {D a : Addr} {ts : List Addr} {xss : List (List Int)} {te : TE} {Q : VK} {cap : St} {H : Hp} (g : List Int → List Int) (hn : ts.length < sizeLine) (hD : H D = none) (el : H a = some (.lst (ts.map V.ref))) (ht : TupsAt H ts xss) (h3 : ∀ xs ∈ xss, ∃ x y z, xs = [x, y, z])
    (he : ∀ x y z H', [x, y, z] ∈ xss → Same H H' → ∀ Q' : VK, (∀ t H'', H' t = none → Same H' H'' → H'' t = some (.tup ((g [x, y, z]).map V.int)) → Q' (.ref t) H'') → te (some (.int x) :: some (.int y) :: some (.int z) :: cap) H' Q')
    (hd : ∀ H' us, Same H H' → H' D = some (.lst (us.map V.ref)) → TupsAt H' us (xss.map g) → Q (.ref D) H') :
    ∃ W : Nat → Nat → St → Hp → Prop, (∃ m, W 0 m (none :: none :: none :: cap) (upd H D (.lst []))) ∧ LcW D (Itl K a) (gTup K 3 (gCons (gName 0) (gCons (gName 1) (gCons (gName 2) gNil)))) tYes te Q W := by
  have same : ∀ {H' : Hp} {o : HO}, Same H H' → Same H (upd H' D o) := fun s b o e => by rw [upd_ne (ne_of_none e hD)]; exact s b o e
  refine lc_list (K := K) (a := a) (xs := ts.map V.ref) (fun i σ H' => ∃ v0 v1 v2 us, σ = v0 :: v1 :: v2 :: cap ∧ Same H H' ∧ H' D = some (.lst (us.map V.ref)) ∧ TupsAt H' us ((xss.take i).map g)) ⟨none, none, none, [], rfl, same (Same.refl H), upd_same, rfl, fun i t xs h1 h2 => by cases h1⟩ (fun i σ H' _ ⟨_, _, _, _, _, s, _⟩ => SqL.of (s _ _ el)) ?_ ?_
  · rintro i x σ H' hx ⟨v0, v1, v2, us, rfl, s, e, hts⟩
    rw [List.getElem?_map] at hx
    obtain ⟨t, h1, rfl⟩ : ∃ t, ts[i]? = some t ∧ x = .ref t := by
      cases z : ts[i]? with
      | none => rw [z] at hx; cases hx
      | some t => rw [z] at hx; exact ⟨t, rfl, (Option.some.inj hx).symm⟩
    have hi : i < xss.length := by rw [← ht.1]; exact (List.getElem?_eq_some_iff.mp h1).1
    have hxs : xss[i]? = some xss[i] := List.getElem?_eq_getElem hi
    generalize xss[i] = xs at hxs
    obtain ⟨x0, x1, x2, rfl⟩ := h3 xs (List.mem_of_getElem? hxs)
    have et := ht.2 i t _ h1 hxs
    have tk : xss.take (i + 1) = xss.take i ++ [[x0, x1, x2]] := take_snoc hxs
    refine ⟨t, _, rfl, SqT.of (s _ _ et), rfl, _, _, rfl, _, _, rfl, _, _, rfl, rfl, ?_⟩
    refine he x0 x1 x2 H' (List.mem_of_getElem? hxs) s _ fun t' H4 nt' s4 et' => ⟨_, s4 D _ e, ?_, _, _, _, us ++ [t'], rfl, same (s.trans s4), by rw [upd_same, List.map_append]; rfl, ?_⟩
    · have := ht.1
      rw [List.length_map, hts.1, List.length_map, List.length_take]; omega
    · have t4 := (hts.same s4).snoc et'
      have t5 := t4.sx (s4 D _ e) (SameX.of_upd (o := .lst (us.map V.ref ++ [.ref t'])))
      rw [tk, List.map_append]
      exact t5
  · rintro σ H' ⟨v0, v1, v2, us, rfl, s, e, hts⟩
    rw [List.length_map, List.take_of_length_le (by rw [ht.1]; exact Nat.le_refl _)] at hts
    exact hd H' us s e hts
end L2

set_option Elab.async false
set_option linter.all false
set_option maxRecDepth 100000
set_option maxHeartbeats 4000000
/-! Draws: numbers to be taken from the front; the fewest windows of a row. -/
namespace L2
open PySem PySem.Spec PyProof.Rows
end L2
namespace My
open L2
theorem inV_mem {x : Int} {ss : List Int} : inV (.int x) (ss.map V.int) = decide (x ∈ ss) := by
  unfold inV
  induction ss with
  | nil => rfl
  | cons y r ih =>
    rw [List.map_cons, List.any_cons, ih]
    by_cases z : x = y
    · subst z; simp [eqV]
    · have : ¬ y = x := fun h => z h.symm
      simp [eqV, z, this, List.mem_cons]
end My
namespace L2
open PySem PySem.Spec PyProof.Rows
end L2

set_option Elab.async false
set_option linter.all false
set_option maxRecDepth 100000
set_option maxHeartbeats 4000000
/-! Tables. -/
namespace L2
open PySem PySem.Spec PyProof.Rows
end L2

set_option Elab.async false
set_option linter.all false
set_option maxRecDepth 100000
set_option maxHeartbeats 4000000
/-! == of lists of lists of ints. -/
namespace L2
open PySem PySem.Spec PyProof.Rows
section
variable {X : Cx} {K : PySem.W.Frag} {pins : List (Addr × Obj)} {σ : St} {H : Hp} {s : Shared}
end
end L2
namespace L2
open PySem PySem.Spec PyProof.Rows
end L2

set_option Elab.async false
set_option linter.all false
set_option maxRecDepth 100000
set_option maxHeartbeats 4000000
/-! Taking a list apart into names; methods without arguments; live rows. -/
namespace L2
open PySem PySem.Spec PyProof.Rows
section
variable {prog : Program} {w : World} {A : Around} {E : Value → Shared → Prop} {s : Shared}
end
section
variable {X : Cx} {K : PySem.W.Frag} {pos : Pos}
end
end L2
namespace My
open L2
end My
namespace L2
open PySem PySem.Spec PyProof.Rows
end L2
namespace L2
open PySem PySem.Spec PyProof.Rows
end L2
namespace L2
open PySem PySem.Spec PyProof.Rows
end L2

set_option Elab.async false
set_option linter.all false
set_option maxRecDepth 100000
set_option maxHeartbeats 4000000
/-! A live row and what the law keeps of it. -/
namespace L2
open PySem PySem.Spec PyProof.Rows
end L2
namespace L2
open PySem PySem.Spec PyProof.Rows
end L2
namespace L2
open PySem PySem.Spec PyProof.Rows
end L2
namespace L2
open PySem PySem.Spec PyProof.Rows
end L2
namespace L2
open PySem PySem.Spec PyProof.Rows
end L2

set_option Elab.async false
set_option linter.all false
set_option maxRecDepth 100000
set_option maxHeartbeats 4000000
/-! == of tuples of ints and lists of ints. -/
namespace L2
open PySem PySem.Spec PyProof.Rows
section
variable {X : Cx} {K : PySem.W.Frag} {pins : List (Addr × Obj)} {σ : St} {H : Hp} {s : Shared}
end
end L2
namespace My
open L2
end My
namespace L2
open PySem PySem.Spec PyProof.Rows
end L2
namespace L2
open PySem PySem.Spec PyProof.Rows
end L2
namespace L2
open PySem PySem.Spec PyProof.Rows
end L2
namespace My
open L2
end My
namespace L2
open PySem PySem.Spec PyProof.Rows
end L2
namespace L2
open PySem PySem.Spec PyProof.Rows
end L2

set_option Elab.async false
set_option linter.all false
set_option maxRecDepth 100000
set_option maxHeartbeats 4000000
/-! A live row and a list of all its rows, the last one that of now. -/
namespace L2
open PySem PySem.Spec PyProof.Rows
end L2

set_option Elab.async false
set_option linter.all false
set_option maxRecDepth 100000
set_option maxHeartbeats 4000000
/-! Exceptions of the program's own classes: raised, passing through defs, caught. -/
namespace L2
open PySem PySem.Spec PyProof.Rows
section
variable {P : Program} {w : World} {fs : List Addr} {H H' : Hp} {h0 h1 h2 B : Heap}
end
section
variable {P : Program} {w : World} {K : PySem.W.Frag} {mg : Str → Option Value} {base : Heap} {N : List Str} {qual : Str} {scope : Scope} {f : Addr} {cd : Value} {A : Around} {outer : List Env} {s0 : Shared} {H0 : Hp} {E : XK}
end
end L2
namespace L2
open PySem PySem.Spec PyProof.Rows
section
variable {P : Program} {w : World} {K : PySem.W.Frag} {mg : Str → Option Value} {base : Heap} {N : List Str} {qual : Str} {scope : Scope} {f : Addr} {cd : Value} {A : Around} {outer : List Env} {s0 : Shared} {H0 : Hp} {E : XK}
end
section
variable {P : Program} {w : World} {K : PySem.W.Frag} {mg : Str → Option Value} {base : Heap}
end
section
variable {X : Cx} {C : Addr} {m : Str} {k : Nat} {ps : List Str} {sp : Sp} {o e : Expr} {es : List Expr} {ta : TE} {t : TA} {apos pos : Pos} {E : XK}
end
end L2
namespace L2
open PySem PySem.Spec PyProof.Rows
section
variable {X : Cx} {pins ps : List (Addr × Obj)} {σ : St} {H : Hp} {s : Shared} {W : Value → Shared → Prop} {e : Value}
end
section
variable {M : Model} {E : Value → Shared → Prop} {A : Around}
end
end L2
namespace L2
open PySem PySem.Spec PyProof.Rows
section
variable {X : Cx} {pins : List (Addr × Obj)} {σ : St} {H : Hp} {s : Shared}
end
end L2

set_option Elab.async false
set_option linter.all false
set_option maxRecDepth 100000
set_option maxHeartbeats 4000000
/-! isinstance of an exception of an own class. -/
namespace L2
open PySem PySem.Spec PyProof.Rows PySem.W
section
variable {prog : Program} {w : World} {A : Around} {E : Value → Shared → Prop} {h : Heap} {g : Array GenState} {d : Drawn} {t : Nat} {os : OsState} {a C : Addr} {K : PySem.W.Frag}
end
end L2
namespace L2
open PySem PySem.Spec PyProof.Rows
section
variable {X : Cx} {pins : List (Addr × Obj)} {σ : St} {H H' : Hp} {s : Shared}
end
end L2

set_option Elab.async false
set_option linter.all false
set_option maxRecDepth 100000
set_option maxHeartbeats 4000000
/-! More about exceptions: isinstance, what the text's classes are; == of lists of flat things and lists. -/
namespace L2
open PySem PySem.Spec PyProof.Rows
section
variable {X : Cx} {K : PySem.W.Frag}
end
section
variable {K : PySem.W.Frag} {mg : Str → Option Value} {x : Str} {C r : Addr} {ds : List Addr}
end
section
variable {X : Cx} {K : PySem.W.Frag} {pins : List (Addr × Obj)} {σ : St} {H : Hp} {s : Shared}
end
end L2
namespace My
open L2 PySem
end My
namespace L2
open PySem PySem.Spec PyProof.Rows My
end L2
namespace L2
open PySem PySem.Spec PyProof.Rows
end L2
namespace L2
open PySem PySem.Spec PyProof.Rows My
section
variable {X : Cx}
end
end L2

set_option Elab.async false
set_option linter.all false
set_option maxRecDepth 100000
set_option maxHeartbeats 4000000
/-! for over range(0, n, c). -/
namespace L2
open PySem PySem.Spec PyProof.Rows
section
variable {X : Cx} {tg : Expr}
end
end L2
namespace L2
open PySem PySem.Spec PyProof.Rows
section
variable {X : Cx} {K : PySem.W.Frag} {o e : Expr} {es : List Expr} {to : TE} {t : TA} {name : Str} {apos cpos : Pos} {T id : String} {r : V → List V → Hp → VK → Prop}
end
end L2
namespace L2
open PySem PySem.Spec PyProof.Rows
section
variable {X : Cx} {e sl : Expr} {te ts : TE} {r : R2}
end
end L2
namespace L2
open PySem PySem.Spec PyProof.Rows
section
variable {X : Cx} {a b : Expr} {es : List Expr} {ta tb : TE} {t : TA} {r : R2} {op : Operator} {pos : Pos} {x1 : Nat}
end
end L2

set_option Elab.async false
set_option linter.all false
set_option maxRecDepth 100000
set_option maxHeartbeats 4000000
/-! zip of two lists. -/
namespace L2
open PySem PySem.Spec PyProof.Rows
section
variable {X : Cx}
end
end L2

set_option Elab.async false
set_option linter.all false
set_option maxRecDepth 100000
set_option maxHeartbeats 4000000
/-! a op b op c op d as a test; papers of the fewest windows. -/
namespace L2
open PySem PySem.Spec PyProof.Rows
section
variable {X : Cx} {a b c d : Expr} {ta tb tc td : TE} {pos : Pos}
end
end L2
namespace My
open L2
end My
namespace L2
open PySem PySem.Spec PyProof.Rows
end L2

set_option Elab.async false
set_option linter.all false
set_option maxRecDepth 100000
set_option maxHeartbeats 4000000
/-! Partings: none has fewer windows than the one that makes each as long as can be. -/
namespace My
open L2
end My
namespace L2
open PySem PySem.Spec PyProof.Rows
end L2

set_option Elab.async false
set_option linter.all false
set_option maxRecDepth 100000
set_option maxHeartbeats 4000000
/-! all of a list of truths; max of a list of whole numbers with a default. -/
namespace L2
open PySem PySem.Spec PyProof.Rows
section
variable {X : Cx} {pins : List (Addr × Obj)} {σ : St} {H2 : Hp} {l S It : Addr} {xs : List V} {kf : Nat → Int} {K : PySem.W.Frag}
end
end L2

set_option Elab.async false
set_option linter.all false
set_option maxRecDepth 100000
set_option maxHeartbeats 4000000
/-! Tables and the way back; a comprehension over enumerate. -/
namespace L2
open PySem PySem.Spec PyProof.Rows
end L2
namespace My
open L2
end My
namespace L2
open PySem PySem.Spec PyProof.Rows
end L2

set_option Elab.async false
set_option linter.all false
set_option maxRecDepth 100000
set_option maxHeartbeats 4000000
/-! A def that raises nothing, taken for one that may; two promises of one def; refused tables. -/
namespace L2
open PySem PySem.Spec PyProof.Rows
section
variable {P : Program} {w : World} {K : PySem.W.Frag} {mg : Str → Option Value} {base : Heap} {CX : CXT} {k : Nat} {f : Addr} {fd : FuncData} {ps : List Str} {sp sp' : Sp}
end
end L2
namespace My
open L2 PySem
end My

set_option Elab.async false
set_option linter.all false
set_option maxRecDepth 100000
set_option maxHeartbeats 4000000
/-! try: .. except X: .. where the names stand at the raise as ahead of the try. -/
namespace L2
open PySem PySem.Spec PyProof.Rows
section
variable {X : Cx} {k : Nat} {ps : List Str} {sp : Sp} {x : Str} {p pos : Pos} {e : Expr} {es : List Expr} {t : TA} {E : XK} {R : St → Prop}
end
section
variable {X : Cx} {pins : List (Addr × Obj)} {σ : St} {H : Hp} {s : Shared}
end
end L2

set_option Elab.async false
set_option linter.all false
set_option maxRecDepth 100000
set_option maxHeartbeats 4000000
/-! repr of a list of small whole numbers. -/
namespace L2
open PySem PySem.Spec PyProof.Rows
end L2
namespace My
open L2
end My

set_option Elab.async false
set_option linter.all false
set_option maxRecDepth 100000
set_option maxHeartbeats 4000000
/-! Tables of parts of a row, of a row from behind, and of a row with a new number more. -/
namespace My
open L2
end My
namespace L2
open PySem PySem.Spec My
end L2

set_option Elab.async false
set_option linter.all false
set_option maxRecDepth 100000
set_option maxHeartbeats 4000000
/-! Rows of last places, refused or not; what is new of a spoilt list. -/
namespace My
open PySem PySem.Spec L2
end My

set_option Elab.async false
set_option linter.all false
set_option maxRecDepth 100000
set_option maxHeartbeats 4000000
/-! Whether a thing of any kind equals a whole number; list(range(a, b)); papers of first places looked at. -/
namespace L2
open PySem PySem.Spec PyProof.Rows PySem.SeqAt
open AutoSeq1 (wpAny_loadPart')
open MeetsSeq
section
variable {X : Cx}
end
end L2
namespace My
open PySem PySem.Spec L2
end My

set_option Elab.async false
set_option linter.all false
set_option maxRecDepth 100000
set_option maxHeartbeats 4000000
/-! Things of any kind as tables. -/
namespace My
open PySem PySem.Spec L2
end My

set_option Elab.async false
set_option linter.all false
set_option maxRecDepth 100000
set_option maxHeartbeats 4000000
/-! Displays of things, by levels. -/
namespace My
open PySem PySem.Spec L2
variable {n k : Nat} {σ : St}
end My

set_option Elab.async false
set_option linter.all false
set_option maxRecDepth 100000
set_option maxHeartbeats 4000000
/-! Long displays: what makes them and what they make, in one judgement. -/
namespace My
open PySem PySem.Spec L2
variable {n j k : Nat} {X : Cx} {e : Expr} {es : List Expr} {pos : Pos}
end My

set_option Elab.async false
set_option linter.all false
set_option maxRecDepth 100000
set_option maxHeartbeats 1000000
/-! Sorting rows of any length. -/
namespace Tim
open PySem PyProof.Rows
def gal : Bool → Keyed → Array Keyed → Nat → Nat → Nat → StateT SortSt Sem (Option Nat) := sortPriv% PySem.Builtin.gallop
def mLo : Array Keyed → Array Keyed → StateT SortSt Sem (Array Keyed) := sortPriv% PySem.Builtin.mergeLo
def mHi : Array Keyed → Array Keyed → StateT SortSt Sem (Array Keyed) := sortPriv% PySem.Builtin.mergeHi
def kz (x : Keyed) : Int := numOf x.1
def IntK (x : Keyed) : Prop := ∃ n t, x.1 = .int n t
def AllI (xs : Array Keyed) : Prop := ∀ i, i < xs.size → ∃ p, xs[i]? = some p ∧ IntK p
theorem K_at {xs : Array Keyed} {i : Nat} {p : Keyed} (h : xs[i]? = some p) : K xs i = kz p := by unfold K; rw [h]; rfl
def bey (left : Bool) (key : Keyed) (xs : Array Keyed) (base i : Nat) : Bool := if left = true then decide (K xs (base + i) < kz key) else !decide (kz key < K xs (base + i))
section
variable {prog : Program} {w : World} {A : Around} {E : Value → Shared → Prop} {s : Shared}
theorem wp_lt {st : SortSt} {x y : Keyed} {Q : Option Bool → SortSt → Prop} (hk : kindOf st = oneType') (hx : IntK x) (hy : IntK y) (h : Q (some (decide (kz x < kz y))) st) : wpS (model prog w) A E s (lt' x y) Q st := by
  obtain ⟨a, t, ex⟩ := hx
  obtain ⟨b, u, ey⟩ := hy
  have e1 : kz x = a := by unfold kz; rw [ex]; rfl
  have e2 : kz y = b := by unfold kz; rw [ey]; rfl
  rw [e1, e2] at h
  rw [lt'_eq]
  refine wpS_bind (wpS_get ?_)
  rw [hk, keyLt'_oneType, ex, ey]
  refine wpS_bind (wpS_lift (wpAny_attempt (oneLt_int (And.intro rfl ?_))))
  exact wpS_pure h
theorem wp_el {st : SortSt} {xs : Array Keyed} {i : Nat} {p : Keyed} {Q : Keyed → SortSt → Prop} (e : xs[i]? = some p) (h : Q p st) : wpS (model prog w) A E s (elem' xs i) Q st := by
  rw [elem'_eq, e]; exact wpS_pure h
theorem wp_bey {st : SortSt} {left : Bool} {key : Keyed} {xs : Array Keyed} {base i : Nat} {Q : Option Bool → SortSt → Prop} (hk : kindOf st = oneType') (hkey : IntK key) (ha : AllI xs) (hi : base + i < xs.size) (h : Q (some (bey left key xs base i)) st) :
    wpS (model prog w) A E s (elem' xs (base + i) >>= fun x => if left = true then lt' x key else lt' key x >>= fun r => pure (Option.map (fun b => !b) r)) Q st := by
  obtain ⟨p, e, hp⟩ := ha _ hi
  unfold bey at h
  rw [K_at e] at h
  refine wpS_bind (wp_el e ?_)
  by_cases hl : left = true
  · rw [if_pos hl] at h ⊢; exact wp_lt hk hp hkey h
  · rw [if_neg hl] at h ⊢; exact wpS_bind (wp_lt hk hkey hp (wpS_pure h))
theorem wpS_ite {σ α : Type} {M : Model} {c : Prop} [Decidable c] {m n : StateT σ Sem α} {Q : α → σ → Prop} {st : σ} (hp : c → wpS M A E s m Q st) (hn : ¬c → wpS M A E s n Q st) : wpS M A E s (if c then m else n) Q st := by
  split
  · exact hp (by assumption)
  · exact hn (by assumption)
theorem wp_beyB {B : Nat → Bool} {st : SortSt} {left : Bool} {key : Keyed} {xs : Array Keyed} {base i : Nat} {Q : Option Bool → SortSt → Prop} (hB : ∀ i, bey left key xs base i = B i) (hk : kindOf st = oneType') (hkey : IntK key) (ha : AllI xs) (hi : base + i < xs.size) (h : Q (some (B i)) st) :
    wpS (model prog w) A E s (elem' xs (base + i) >>= fun x => if left = true then lt' x key else lt' key x >>= fun r => pure (Option.map (fun b => !b) r)) Q st := wp_bey hk hkey ha hi (hB i ▸ h)
/-- what the search by halves keeps, and what it ends with -/
structure GI (B : Nat → Bool) (n x lo hi : Nat) : Prop where
  le : lo ≤ hi
  hn : hi ≤ n
  far : hi + x ≤ lo + n
  yes : ∀ i, i < lo → B i = true
  no : ∀ i, hi ≤ i → i < n → B i = false
structure GF (B : Nat → Bool) (n r : Nat) : Prop where
  hn : r ≤ n
  yes : ∀ i, i < r → B i = true
  no : ∀ i, r ≤ i → i < n → B i = false
def Mono (B : Nat → Bool) (n : Nat) : Prop := ∀ i j, i ≤ j → j < n → B j = true → B i = true
theorem Mono.no {B : Nat → Bool} {n i j : Nat} (hm : Mono B n) (h1 : i ≤ j) (h2 : j < n) (h3 : B i = false) : B j = false := by
  cases z : B j with
  | false => rfl
  | true => rw [hm i j h1 h2 z] at h3; cases h3
theorem GI.fin {B : Nat → Bool} {n x lo hi : Nat} (g : GI B n x lo hi) (h : hi ≤ lo) : GF B n hi := ⟨g.hn, fun i z => g.yes i (Nat.lt_of_lt_of_le z h), g.no⟩
theorem GI.out {B : Nat → Bool} {n x lo hi : Nat} (g : GI B n x lo hi) (hx : n ≤ x) : GF B n hi := g.fin (by have := g.far; clear g; omega)
theorem half_in {lo hi : Nat} (h : ¬ lo ≥ hi) : lo + (hi - lo) / 2 < hi := by omega
theorem half_far {n x lo hi : Nat} (h : ¬ lo ≥ hi) (f : hi + x ≤ lo + n) : hi + (x + 1) ≤ lo + (hi - lo) / 2 + 1 + n := by omega
theorem half_far2 {n x lo hi : Nat} (h : ¬ lo ≥ hi) (f : hi + x ≤ lo + n) : lo + (hi - lo) / 2 + (x + 1) ≤ lo + n := by omega
theorem GI.up {B : Nat → Bool} {n x lo hi : Nat} (g : GI B n x lo hi) (hm : Mono B n) (h : ¬ lo ≥ hi) (z : B (lo + (hi - lo) / 2) = true) : GI B n (x + 1) (lo + (hi - lo) / 2 + 1) hi :=
  ⟨half_in h, g.hn, half_far h g.far, fun i hi => hm i _ (Nat.le_of_lt_succ hi) (Nat.lt_of_lt_of_le (half_in h) g.hn) z, g.no⟩
theorem GI.down {B : Nat → Bool} {n x lo hi : Nat} (g : GI B n x lo hi) (hm : Mono B n) (h : ¬ lo ≥ hi) (z : B (lo + (hi - lo) / 2) = false) : GI B n (x + 1) lo (lo + (hi - lo) / 2) :=
  ⟨Nat.le_add_right _ _, Nat.le_trans (Nat.le_of_lt (half_in h)) g.hn, half_far2 h g.far, g.yes, fun _ h1 h2 => hm.no h1 h2 z⟩
/-- what the leaps ahead keep -/
structure GA (B : Nat → Bool) (n hint x lo ofs : Nat) : Prop where
  lt : lo < ofs
  far : x + 1 ≤ ofs
  hn : hint + lo < n
  yes : B (hint + lo) = true
structure GE (B : Nat → Bool) (n hint x lo ofs : Nat) : Prop where
  lt : lo < ofs
  far : x + 1 ≤ ofs
  hn : lo ≤ hint
  no : B (hint - lo) = false
theorem GA.next {B : Nat → Bool} {n hint x lo ofs : Nat} (g : GA B n hint x lo ofs) (h : ¬ ofs ≥ n - hint) (z : B (hint + ofs) = true) : GA B n hint (x + 1) ofs (2 * ofs + 1) := ⟨by omega, by have := g.far; clear g; omega, by omega, z⟩
theorem GE.next {B : Nat → Bool} {n hint x lo ofs : Nat} (g : GE B n hint x lo ofs) (h : ¬ ofs ≥ hint + 1) (z : B (hint - ofs) = false) : GE B n hint (x + 1) ofs (2 * ofs + 1) := ⟨by omega, by have := g.far; clear g; omega, by omega, z⟩
theorem GA.fin {B : Nat → Bool} {n hint x lo ofs : Nat} (g : GA B n hint x lo ofs) (hm : Mono B n) (h : n - hint ≤ ofs ∨ B (hint + ofs) = false) : GI B n 0 (hint + lo + 1) (hint + min ofs (n - hint)) := by
  obtain ⟨g1, _, g3, g4⟩ := g
  refine ⟨by omega, by omega, by omega, fun i hi => hm i _ (Nat.le_of_lt_succ hi) g3 g4, fun i h6 h7 => ?_⟩
  rcases h with h | h
  · omega
  · exact hm.no (by omega) h7 h
theorem GE.fin {B : Nat → Bool} {n hint x lo ofs : Nat} (g : GE B n hint x lo ofs) (hm : Mono B n) (hh : hint < n) (h : hint + 1 ≤ ofs ∨ B (hint - ofs) = true) : GI B n 0 (hint + 1 - min ofs (hint + 1)) (hint - lo) := by
  obtain ⟨g1, _, g3, g4⟩ := g
  refine ⟨by omega, by omega, by omega, fun i hi => ?_, fun i h6 h7 => hm.no h6 h7 g4⟩
  rcases h with h | h
  · omega
  · exact hm i (hint - ofs) (by omega) (by omega) h
theorem gl1 {base n m i : Nat} (h : base + n ≤ m) (hi : i < n) : base + i < m := Nat.lt_of_lt_of_le (Nat.add_lt_add_left hi _) h
theorem gl2 {hint n ofs : Nat} (g : ¬ ofs ≥ n - hint) : hint + ofs < n := by omega
theorem wp_gal {st : SortSt} {left : Bool} {key : Keyed} {xs : Array Keyed} {base n hint : Nat} {Q : Option Nat → SortSt → Prop} (hk : kindOf st = oneType') (hkey : IntK key) (ha : AllI xs) (hsz : base + n ≤ xs.size) (hh : hint < n)
    (hm : ∀ i j, i ≤ j → j < n → bey left key xs base j = true → bey left key xs base i = true)
    (h : ∀ r, r ≤ n → (∀ i, i < r → bey left key xs base i = true) → (∀ i, r ≤ i → i < n → bey left key xs base i = false) → Q (some r) st) : wpS (model prog w) A E s (gal left key xs base n hint) Q st := by
  obtain ⟨B, hB⟩ : ∃ B : Nat → Bool, ∀ i, bey left key xs base i = B i := ⟨_, fun _ => rfl⟩
  have hm : Mono B n := fun i j h1 h2 h3 => hB i ▸ hm i j h1 h2 (hB j ▸ h3)
  have h : ∀ r, GF B n r → Q (some r) st := fun r g => h r g.hn (fun i z => (hB i).trans (g.yes i z)) fun i z y => (hB i).trans (g.no i z y)
  refine wpS_bind (wp_beyB hB hk hkey ha (gl1 hsz hh) ?_)
  extract_lets jp mo1 mo2
  have hjp : ∀ x y lo hi, GI B n 0 lo hi → wpS (model prog w) A E s (jp () x y lo hi) Q st := by
    intro _ _ lo hi g
    refine wpS_bind (wpS_mono (wpS_forRange (I := fun x c st' => st' = st ∧ ∃ lo hi, c = (none, lo, hi) ∧ GI B n x lo hi) (Q := fun c st' => st' = st ∧ ∃ lo hi, c = (none, lo, hi) ∧ GF B n hi) ?_ ?_ ⟨rfl, _, _, rfl, g⟩) ?_)
    · rintro x c _ _ hx ⟨rfl, lo, hi, rfl, g⟩
      refine wpS_ite (fun e => wpS_pure ⟨rfl, lo, hi, rfl, g.fin e⟩) fun e => wpS_bind (wp_beyB hB hk hkey ha (gl1 hsz (Nat.lt_of_lt_of_le (half_in e) g.hn)) ?_)
      refine wpS_ite (fun z => wpS_pure ⟨rfl, _, hi, rfl, g.up hm e z⟩) fun z => wpS_pure ⟨rfl, lo, _, rfl, g.down hm e (Bool.eq_false_iff.mpr z)⟩
    · rintro c _ ⟨rfl, lo, hi, rfl, g⟩
      exact ⟨rfl, lo, hi, rfl, g.out (Nat.le_max_right _ _)⟩
    · rintro c _ ⟨rfl, lo, hi, rfl, g⟩
      exact wpS_pure (h hi g)
  clear_value jp
  refine wpS_ite (fun hb => ?_) fun hb => ?_
  · refine wpS_bind (wpS_mono (wpS_forRange (I := fun x c st' => st' = st ∧ ∃ lo ofs, c = (none, lo, ofs) ∧ GA B n hint x lo ofs) (Q := fun c st' => st' = st ∧ ∃ lo ofs, c = (none, lo, ofs) ∧ GI B n 0 (hint + lo + 1) (hint + min ofs (n - hint))) ?_ ?_ ⟨rfl, 0, 1, rfl, Nat.one_pos, Nat.le_refl _, hh, hb⟩) ?_)
    · rintro x c _ _ hx ⟨rfl, lo, ofs, rfl, g⟩
      refine wpS_ite (fun e => wpS_pure ⟨rfl, lo, ofs, rfl, g.fin hm (.inl e)⟩) fun e => wpS_bind (wp_beyB hB hk hkey ha (gl1 hsz (gl2 e)) ?_)
      cases z : B (hint + ofs) with
      | false => exact wpS_pure ⟨rfl, lo, ofs, rfl, g.fin hm (.inr z)⟩
      | true => exact wpS_pure ⟨rfl, ofs, _, rfl, g.next e z⟩
    · rintro c _ ⟨rfl, lo, ofs, rfl, g⟩
      exact ⟨rfl, lo, ofs, rfl, g.fin hm (.inl (Nat.le_trans (Nat.sub_le _ _) (Nat.le_trans (Nat.le_max_right 0 n) (Nat.le_of_lt g.far))))⟩
    · rintro c _ ⟨rfl, lo, ofs, rfl, g⟩
      exact hjp _ _ _ _ g
  · refine wpS_bind (wpS_mono (wpS_forRange (I := fun x c st' => st' = st ∧ ∃ lo ofs, c = (none, lo, ofs) ∧ GE B n hint x lo ofs) (Q := fun c st' => st' = st ∧ ∃ lo ofs, c = (none, lo, ofs) ∧ GI B n 0 (hint + 1 - min ofs (hint + 1)) (hint - lo)) ?_ ?_ ⟨rfl, 0, 1, rfl, Nat.one_pos, Nat.le_refl _, Nat.zero_le _, Bool.eq_false_iff.mpr hb⟩) ?_)
    · rintro x c _ _ hx ⟨rfl, lo, ofs, rfl, g⟩
      refine wpS_ite (fun e => wpS_pure ⟨rfl, lo, ofs, rfl, g.fin hm hh (.inl e)⟩) fun e => wpS_bind (wp_beyB hB hk hkey ha (gl1 hsz (Nat.lt_of_le_of_lt (Nat.sub_le _ _) hh)) ?_)
      refine wpS_ite (fun z => wpS_pure ⟨rfl, lo, ofs, rfl, g.fin hm hh (.inr z)⟩) fun z => wpS_pure ⟨rfl, ofs, _, rfl, g.next e (Bool.eq_false_iff.mpr z)⟩
    · rintro c _ ⟨rfl, lo, ofs, rfl, g⟩
      exact ⟨rfl, lo, ofs, rfl, g.fin hm hh (.inl (Nat.le_trans hh (Nat.le_trans (Nat.le_max_right 0 n) (Nat.le_of_lt g.far))))⟩
    · rintro c _ ⟨rfl, lo, ofs, rfl, g⟩
      exact hjp _ _ _ _ g
end
/-! what a merge keeps -/
def Srt (a : Array Keyed) : Prop := a.toList.Pairwise fun x y => kz x ≤ kz y
theorem K_el {a : Array Keyed} {i : Nat} (h : i < a.size) : ∃ p, a[i]? = some p ∧ p ∈ a.toList ∧ K a i = kz p := ⟨a[i], getElem?_pos a i h, by simp, K_at (getElem?_pos a i h)⟩
theorem Srt.le {a : Array Keyed} (h : Srt a) {i j : Nat} (hij : i ≤ j) (hj : j < a.size) : K a i ≤ K a j := by
  by_cases e : i = j
  · rw [e]; exact Int.le_refl _
  · rw [K_at (getElem?_pos a i (by omega)), K_at (getElem?_pos a j hj)]
    have := List.pairwise_iff_getElem.mp h i j (by rw [Array.length_toList]; omega) (by rw [Array.length_toList]; exact hj) (by omega)
    simpa using this
theorem Srt.of {a : Array Keyed} (h : ∀ i j, i ≤ j → j < a.size → K a i ≤ K a j) : Srt a := by
  refine List.pairwise_iff_getElem.mpr fun i j hi hj hij => ?_
  rw [Array.length_toList] at hi hj
  have := h i j (Nat.le_of_lt hij) hj
  rw [K_at (getElem?_pos a i hi), K_at (getElem?_pos a j hj)] at this
  simpa using this
structure MI (a b out : Array Keyed) (ia ib : Nat) : Prop where
  perm : out.toList.Perm (a.toList.take ia ++ b.toList.take ib)
  sort : Srt out
  toA : ∀ x ∈ out.toList, ia < a.size → kz x ≤ K a ia
  toB : ∀ x ∈ out.toList, ib < b.size → kz x ≤ K b ib
def Fin (a b r : Array Keyed) : Prop := r.toList.Perm (a.toList ++ b.toList) ∧ Srt r
theorem MI.symm {a b out : Array Keyed} {ia ib : Nat} (h : MI a b out ia ib) : MI b a out ib ia := ⟨h.perm.trans List.perm_append_comm, h.sort, h.toB, h.toA⟩
theorem ext_toList (a : Array Keyed) (i k : Nat) : (a.extract i (i + k)).toList = (a.toList.drop i).take k := by
  rw [Array.toList_extract, List.extract_eq_take_drop, Nat.add_sub_cancel_left]
theorem ext_mem {a : Array Keyed} {i k : Nat} {y : Keyed} (h : y ∈ (a.toList.drop i).take k) : ∃ j, j < k ∧ i + j < a.size ∧ kz y = K a (i + j) := by
  obtain ⟨j, hj, e⟩ := List.mem_iff_getElem.mp h
  rw [List.length_take, List.length_drop, Array.length_toList] at hj
  refine ⟨j, by omega, by omega, ?_⟩
  rw [List.getElem_take, List.getElem_drop] at e
  rw [K_at (getElem?_pos a (i + j) (by omega)), ← e]
  simp
theorem MI.takeA {a b out : Array Keyed} {ia ib : Nat} (h : MI a b out ia ib) (sa : Srt a) {k : Nat} (hk : ia + k ≤ a.size) (hle : ∀ j, j < k → ib < b.size → K a (ia + j) ≤ K b ib) : MI a b (out ++ a.extract ia (ia + k)) (ia + k) ib := by
  have el : (out ++ a.extract ia (ia + k)).toList = out.toList ++ (a.toList.drop ia).take k := by rw [Array.toList_append, ext_toList]
  refine ⟨?_, ?_, fun x hx hlt => ?_, fun x hx hlt => ?_⟩
  · rw [el, List.take_add]
    refine (h.perm.append_right _).trans ?_
    rw [List.append_assoc, List.append_assoc]
    exact List.perm_append_comm.append_left _
  · unfold Srt
    rw [el]
    refine List.pairwise_append.mpr ⟨h.sort, List.Pairwise.sublist ((List.take_sublist ..).trans (List.drop_sublist ..)) sa, fun x hx y hy => ?_⟩
    obtain ⟨j, hj, hlt, e⟩ := ext_mem hy
    rw [e]
    exact Int.le_trans (h.toA x hx (by omega)) (sa.le (by omega) hlt)
  · rw [el] at hx
    rcases List.mem_append.mp hx with z | z
    · exact Int.le_trans (h.toA x z (by omega)) (sa.le (by omega) hlt)
    · obtain ⟨j, hj, _, e⟩ := ext_mem z
      rw [e]; exact sa.le (by omega) hlt
  · rw [el] at hx
    rcases List.mem_append.mp hx with z | z
    · exact h.toB x z hlt
    · obtain ⟨j, hj, _, e⟩ := ext_mem z
      rw [e]; exact hle j hj hlt
theorem MI.takeB {a b out : Array Keyed} {ia ib : Nat} (h : MI a b out ia ib) (sb : Srt b) {k : Nat} (hk : ib + k ≤ b.size) (hle : ∀ j, j < k → ia < a.size → K b (ib + j) ≤ K a ia) : MI a b (out ++ b.extract ib (ib + k)) ia (ib + k) := (h.symm.takeA sb hk hle).symm
theorem push_ext {a out : Array Keyed} {i : Nat} {p : Keyed} (h : a[i]? = some p) : out.push p = out ++ a.extract i (i + 1) := by
  apply Array.toList_inj.mp
  have hi : i < a.size := (Array.getElem?_eq_some_iff.mp h).1
  rw [Array.toList_append, ext_toList, Array.toList_push, List.take_one, List.head?_drop]
  have : a.toList[i]? = some p := by rw [Array.getElem?_toList]; exact h
  rw [this]; rfl
theorem MI.pushA {a b out : Array Keyed} {ia ib : Nat} {p : Keyed} (h : MI a b out ia ib) (sa : Srt a) (e : a[ia]? = some p) (hle : ib < b.size → K a ia ≤ K b ib) : MI a b (out.push p) (ia + 1) ib := by
  rw [push_ext e]
  exact h.takeA sa (Array.getElem?_eq_some_iff.mp e).1 fun j hj z => by rw [show j = 0 by omega]; exact hle z
theorem MI.pushB {a b out : Array Keyed} {ia ib : Nat} {p : Keyed} (h : MI a b out ia ib) (sb : Srt b) (e : b[ib]? = some p) (hle : ia < a.size → K b ib ≤ K a ia) : MI a b (out.push p) ia (ib + 1) := (h.symm.pushA sb e hle).symm
theorem MI.fin {a b out : Array Keyed} (h : MI a b out a.size b.size) : Fin a b out := ⟨by have := h.perm; rwa [List.take_of_length_le (by rw [Array.length_toList]; exact Nat.le_refl _), List.take_of_length_le (by rw [Array.length_toList]; exact Nat.le_refl _)] at this, h.sort⟩
/-- a or b is at its end -/
theorem MI.done {a b out : Array Keyed} {ia ib : Nat} (h : MI a b out ia ib) (sa : Srt a) (sb : Srt b) (ha : ia ≤ a.size) (hb : ib ≤ b.size) (hor : ia = a.size ∨ ib = b.size) : Fin a b (out ++ a.extract ia a.size ++ b.extract ib b.size) := by
  have h1 := h.takeA sa (k := a.size - ia) (by omega) fun j hj z => by omega
  rw [show ia + (a.size - ia) = a.size by omega] at h1
  have h2 := h1.takeB sb (k := b.size - ib) (by omega) fun j hj z => by omega
  rw [show ib + (b.size - ib) = b.size by omega] at h2
  exact h2.fin
/-- one of a is left, and it is the greatest -/
theorem MI.last {a b out : Array Keyed} {ia ib : Nat} (h : MI a b out ia ib) (sa : Srt a) (sb : Srt b) (ha : ia + 1 = a.size) (hb : ib ≤ b.size) (hl : ∀ j, j < b.size → K b j ≤ K a (a.size - 1)) : Fin a b (out ++ b.extract ib b.size ++ a.extract ia a.size) := by
  have h1 := h.takeB sb (k := b.size - ib) (by omega) fun j hj z => by
    have := hl (ib + j) (by omega)
    rwa [show a.size - 1 = ia by omega] at this
  rw [show ib + (b.size - ib) = b.size by omega] at h1
  have h2 := h1.takeA sa (k := a.size - ia) (by omega) fun j hj z => by omega
  rw [show ia + (a.size - ia) = a.size by omega] at h2
  exact h2.fin
def Like (st st' : SortSt) : Prop := kindOf st' = kindOf st ∧ arrOf st' = arrOf st ∧ pendingOf st' = pendingOf st ∧ failedOf st' = failedOf st
end Tim

set_option Elab.async false
set_option linter.all false
set_option maxRecDepth 100000
set_option maxHeartbeats 1000000
namespace Tim
open PySem PyProof.Rows
def smg : Nat → StateT SortSt Sem Unit := sortPriv% PySem.Builtin.setMinGallop
theorem bey_right {key : Keyed} {xs : Array Keyed} {base i : Nat} : (bey false key xs base i = true) = (K xs (base + i) ≤ kz key) := by
  unfold bey; simp
theorem bey_left {key : Keyed} {xs : Array Keyed} {base i : Nat} : (bey true key xs base i = true) = (K xs (base + i) < kz key) := by
  unfold bey; simp
section
variable {prog : Program} {w : World} {A : Around} {E : Value → Shared → Prop} {s : Shared}
theorem wp_smg {st st0 : SortSt} {g : Nat} {Q : Unit → SortSt → Prop} (hl : Like st0 st) (h : ∀ st', Like st0 st' → Q () st') : wpS (model prog w) A E s (smg g) Q st := wpS_modify (h _ hl)
theorem ai_el {a : Array Keyed} (ha : AllI a) {i : Nat} (h : i < a.size) : ∃ p, a[i]? = some p ∧ IntK p ∧ K a i = kz p := let ⟨p, e, q⟩ := ha i h; ⟨p, e, q, K_at e⟩
/-- the gallop to the right: how many of a, from a place on, are not greater -/
theorem wp_galR {st : SortSt} {key : Keyed} {xs : Array Keyed} {base n hint : Nat} {Q : Option Nat → SortSt → Prop} (hk : kindOf st = oneType') (hkey : IntK key) (ha : AllI xs) (hsz : base + n ≤ xs.size) (hh : hint < n)
    (hs : ∀ i j, base ≤ i → i ≤ j → j < base + n → K xs i ≤ K xs j) (h : ∀ r, r ≤ n → (∀ i, i < r → K xs (base + i) ≤ kz key) → (∀ i, r ≤ i → i < n → kz key < K xs (base + i)) → Q (some r) st) : wpS (model prog w) A E s (gal false key xs base n hint) Q st := by
  refine wp_gal hk hkey ha hsz hh (fun i j h1 h2 h3 => ?_) fun r h1 h2 h3 => h r h1 (fun i hi => ?_) fun i hi hi' => ?_
  · rw [bey_right] at h3 ⊢; exact Int.le_trans (hs _ _ (by omega) (by omega) (by omega)) h3
  · have := h2 i hi; rwa [bey_right] at this
  · have := h3 i hi hi'
    have z : ¬ (bey false key xs base i = true) := by rw [this]; exact Bool.false_ne_true
    rw [bey_right] at z; omega
theorem wp_galL {st : SortSt} {key : Keyed} {xs : Array Keyed} {base n hint : Nat} {Q : Option Nat → SortSt → Prop} (hk : kindOf st = oneType') (hkey : IntK key) (ha : AllI xs) (hsz : base + n ≤ xs.size) (hh : hint < n)
    (hs : ∀ i j, base ≤ i → i ≤ j → j < base + n → K xs i ≤ K xs j) (h : ∀ r, r ≤ n → (∀ i, i < r → K xs (base + i) < kz key) → (∀ i, r ≤ i → i < n → kz key ≤ K xs (base + i)) → Q (some r) st) : wpS (model prog w) A E s (gal true key xs base n hint) Q st := by
  refine wp_gal hk hkey ha hsz hh (fun i j h1 h2 h3 => ?_) fun r h1 h2 h3 => h r h1 (fun i hi => ?_) fun i hi hi' => ?_
  · rw [bey_left] at h3 ⊢; exact Int.lt_of_le_of_lt (hs _ _ (by omega) (by omega) (by omega)) h3
  · have := h2 i hi; rwa [bey_left] at this
  · have := h3 i hi hi'
    have z : ¬ (bey true key xs base i = true) := by rw [this]; exact Bool.false_ne_true
    rw [bey_left] at z; omega
theorem wpS_any {σ α : Type} {M : Model} {m : StateT σ Sem α} {Q : α → σ → Prop} {st : σ} (h : ∀ R : α → σ → Prop, (∀ r st', Q r st' → R r st') → wpS M A E s m R st) : wpS M A E s m Q st := h Q fun _ _ z => z
end
theorem beq_ne {n m : Nat} (h : n < m) (g : ¬ (n + 1 == m) = true) : n + 1 < m := Nat.lt_of_le_of_ne h fun z => g (beq_iff_eq.mpr z)
/-- what the merge from ahead keeps -/
structure LI (a b : Array Keyed) (N : Nat) (out : Array Keyed) (ia ib : Nat) : Prop where
  m : MI a b out ia ib
  ha : ia + 1 < a.size
  hb : ib < b.size
  far : N ≤ ia + ib
section
variable {a b out o : Array Keyed} {N n ia ib i : Nat}
theorem LI.mono (g : LI a b N out ia ib) (h : n ≤ N) : LI a b n out ia ib := ⟨g.m, g.ha, g.hb, Nat.le_trans h g.far⟩
theorem LI.over (g : LI a b N out ia ib) (h : a.size + b.size ≤ N) : False := Nat.lt_irrefl _ (Nat.lt_of_lt_of_le (Nat.add_lt_add (Nat.lt_of_succ_lt g.ha) g.hb) (Nat.le_trans h g.far))
theorem LI.inA (g : LI a b N out ia ib) : ia < a.size := Nat.lt_of_succ_lt g.ha
theorem LI.nextA (g : LI a b N out ia ib) (m : MI a b o (ia + 1) ib) (e : ¬ (ia + 1 + 1 == a.size) = true) : LI a b (N + 1) o (ia + 1) ib := ⟨m, beq_ne g.ha e, g.hb, by rw [Nat.add_right_comm]; exact Nat.succ_le_succ g.far⟩
theorem LI.nextB (g : LI a b N out ia ib) (m : MI a b o ia (ib + 1)) (e : ¬ (ib + 1 == b.size) = true) : LI a b (N + 1) o ia (ib + 1) := ⟨m, g.ha, beq_ne g.hb e, Nat.succ_le_succ g.far⟩
theorem LI.leapA {k : Nat} (g : LI a b N out ia ib) (m : MI a b o (ia + k) ib) (hk : k ≤ a.size - ia) (e1 : ¬ (ia + k + 1 == a.size) = true) (e2 : ¬ (ia + k == a.size) = true) : LI a b N o (ia + k) ib := by
  refine ⟨m, ?_, g.hb, Nat.le_trans g.far (Nat.add_le_add_right (Nat.le_add_right _ _) _)⟩
  have e1 : ia + k + 1 ≠ a.size := fun z => e1 (beq_iff_eq.mpr z)
  have e2 : ia + k ≠ a.size := fun z => e2 (beq_iff_eq.mpr z)
  have := g.inA
  clear m g
  omega
theorem LI.leapB {k : Nat} (g : LI a b N out ia ib) (m : MI a b o ia (ib + k)) (hk : k ≤ b.size - ib) (e : ¬ (ib + k == b.size) = true) : LI a b N o ia (ib + k) := by
  refine ⟨m, g.ha, ?_, Nat.le_trans g.far (Nat.add_le_add_left (Nat.le_add_right _ _) _)⟩
  have e : ib + k ≠ b.size := fun z => e (beq_iff_eq.mpr z)
  have := g.hb
  clear m g
  omega
theorem add_sub_le {i n : Nat} (h : i ≤ n) : i + (n - i) ≤ n := Nat.le_of_eq (Nat.add_sub_cancel' h)
theorem sub_add_lt {i j n : Nat} (hi : i ≤ n) (h : j < i + (n - i)) : j < n := by rwa [Nat.add_sub_cancel' hi] at h
theorem leap_le {i k n : Nat} (hi : i ≤ n) (h : k ≤ n - i) : i + k ≤ n := Nat.le_trans (Nat.add_le_add_left h i) (add_sub_le hi)
theorem leap_in {i k n : Nat} (h : i + k < n) : k < n - i := by omega
end
section
variable {prog : Program} {w : World} {A : Around} {E : Value → Shared → Prop} {s : Shared}
theorem wp_mLo {st : SortSt} {a b : Array Keyed} {Q : Array Keyed → SortSt → Prop} (hk : kindOf st = oneType') (ha : AllI a) (hb : AllI b) (sa : Srt a) (sb : Srt b) (na : 0 < a.size) (nb : 0 < b.size) (h0 : K b 0 ≤ K a 0) (hl : ∀ j, j < b.size → K b j ≤ K a (a.size - 1))
    (h : ∀ r st', Like st st' → Fin a b r → Q r st') : wpS (model prog w) A E s (mLo a b) Q st := by
  obtain ⟨p, ep, ip, kp⟩ := ai_el hb nb
  refine wpS_bind (wpS_lift (wpAny_rule (And.intro rfl ?_)))
  extract_lets t dn la
  refine wpS_bind (wp_el ep ?_)
  extract_lets
  have m0 : MI a b #[p] 0 1 := by
    have m : MI a b #[] 0 0 := ⟨by simp, by unfold Srt; simp, fun x hx => by simp at hx, fun x hx => by simp at hx⟩
    exact m.pushB sb ep fun _ => h0
  refine wpS_ite (fun g => wpS_pure (h _ _ ⟨rfl, rfl, rfl, rfl⟩ (m0.done sa sb (Nat.zero_le _) nb (.inr (eq_of_beq g))))) fun e1 => ?_
  refine wpS_ite (fun g => wpS_pure (h _ _ ⟨rfl, rfl, rfl, rfl⟩ (m0.last sa sb (eq_of_beq g) nb hl))) fun e2 => ?_
  have g0 : LI a b 1 #[p] 0 1 := ⟨m0, beq_ne na e2, beq_ne nb e1, Nat.le_refl _⟩
  clear e1 e2 m0
  refine wpS_bind (wpS_get ?_)
  extract_lets mg
  refine wpS_bind (wpS_mono (wpS_forRange (I := fun x c st' => Like st st' ∧ ∃ out ia ib g, c = (none, out, ia, ib, g) ∧ LI a b (x + 1) out ia ib)
    (Q := fun c st' => Like st st' ∧ ∃ r out ia ib g, c = (some r, out, ia, ib, g) ∧ Fin a b r) ?st ?fi ⟨⟨rfl, rfl, rfl, rfl⟩, _, _, _, _, rfl, g0⟩) ?po)
  case fi =>
    rintro c st' ⟨_, out, ia, ib, g, rfl, i⟩
    exact (i.over (Nat.le_succ_of_le (Nat.le_max_right _ _))).elim
  case po =>
    rintro c st' ⟨hl', r, out, ia, ib, g, rfl, hf⟩
    exact wpS_pure (h r st' hl' hf)
  clear g0 h h0
  case st =>
    rintro x c st1 _ hx ⟨hL, out, ia, ib, g, rfl, i⟩
    refine wpS_any fun R hR => ?_
    have hD : ∀ st' r out ia ib g, Like st st' → Fin a b r → R (.done (some r, out, ia, ib, g)) st' := fun st' r out ia ib g h1 h2 => hR (.done _) _ ⟨h1, _, _, _, _, _, rfl, h2⟩
    have hY : ∀ st' out ia ib g, Like st st' → LI a b (x + 2) out ia ib → R (.yield (none, out, ia, ib, g)) st' := fun st' out ia ib g h1 h2 => hR (.yield _) _ ⟨h1, _, _, _, _, rfl, h2⟩
    clear hR
    extract_lets
    refine wpS_bind (wpS_mono (wpS_forRange (I := fun y c st' => Like st st' ∧ ∃ out ia ib ac bc, c = (none, out, ia, ib, ac, bc) ∧ LI a b (x + y + 1) out ia ib)
      (Q := fun c st' => Like st st' ∧ ∃ out ia ib ac bc, (∃ r, c = (some r, out, ia, ib, ac, bc) ∧ Fin a b r) ∨ (c = (none, out, ia, ib, ac, bc) ∧ LI a b (x + 2) out ia ib)) ?_ ?_ ⟨hL, _, _, _, _, _, rfl, i⟩) ?_)
    · clear hD hY hL i
      rintro y c st1 _ hy ⟨hL, out, ia, ib, ac, bc, rfl, i⟩
      refine wpS_any fun R hR => ?_
      have hD : ∀ st' r out ia ib ac bc, Like st st' → Fin a b r → R (.done (some r, out, ia, ib, ac, bc)) st' := fun st' r out ia ib ac bc h1 h2 => hR (.done _) _ ⟨h1, _, _, _, _, _, .inl ⟨_, rfl, h2⟩⟩
      have hN : ∀ st' out ia ib ac bc, Like st st' → LI a b (x + y + 1 + 1) out ia ib → R (.done (none, out, ia, ib, ac, bc)) st' := fun st' out ia ib ac bc h1 h2 => hR (.done _) _ ⟨h1, _, _, _, _, _, .inr ⟨rfl, h2.mono (Nat.add_le_add_right (Nat.le_add_right _ _) 2)⟩⟩
      have hY : ∀ st' out ia ib ac bc, Like st st' → LI a b (x + y + 1 + 1) out ia ib → R (.yield (none, out, ia, ib, ac, bc)) st' := fun st' out ia ib ac bc h1 h2 => hR (.yield _) _ ⟨h1, _, _, _, _, _, rfl, h2⟩
      clear hR
      obtain ⟨pa, ea, ipa, ka⟩ := ai_el ha i.inA
      obtain ⟨pb, eb, ipb, kb⟩ := ai_el hb i.hb
      extract_lets
      refine wpS_bind (wp_el eb (wpS_bind (wp_el ea (wpS_bind (wp_lt (hL.1.trans hk) ipb ipa ?_)))))
      refine wpS_ite (fun z => ?_) fun z => ?_
      · refine wpS_bind (wp_el eb ?_)
        have m' := i.m.pushB sb eb fun _ => by rw [ka, kb]; exact Int.le_of_lt (of_decide_eq_true z)
        extract_lets
        refine wpS_ite (fun g => wpS_pure (hD _ _ _ _ _ _ _ hL (m'.done sa sb (Nat.le_of_lt i.inA) i.hb (.inr (eq_of_beq g))))) fun e => ?_
        exact wpS_ite (fun _ => wpS_pure (hN _ _ _ _ _ _ hL (i.nextB m' e))) fun _ => wpS_pure (hY _ _ _ _ _ _ hL (i.nextB m' e))
      · refine wpS_bind (wp_el ea ?_)
        have m' := i.m.pushA sa ea fun _ => by rw [ka, kb]; exact Int.not_lt.mp fun y => z (decide_eq_true y)
        extract_lets
        refine wpS_ite (fun g => wpS_pure (hD _ _ _ _ _ _ _ hL (m'.last sa sb (eq_of_beq g) (Nat.le_of_lt i.hb) hl))) fun e => ?_
        exact wpS_ite (fun _ => wpS_pure (hN _ _ _ _ _ _ hL (i.nextA m' e))) fun _ => wpS_pure (hY _ _ _ _ _ _ hL (i.nextA m' e))
    · rintro c st' ⟨_, out, ia, ib, ac, bc, rfl, i⟩
      exact (i.over (Nat.le_succ_of_le (Nat.le_trans (Nat.le_max_right 0 _) (Nat.le_add_left _ _)))).elim
    · rintro c st1 ⟨hL, out, ia, ib, ac, bc, ⟨r, rfl, hf⟩ | ⟨rfl, i⟩⟩
      · exact wpS_pure (hD _ _ _ _ _ _ hL hf)
      extract_lets
      refine wpS_bind (wpS_lift (wpAny_rule (And.intro rfl ?_)))
      extract_lets
      refine wpS_bind (wpS_mono (wpS_forRange (I := fun y c st' => Like st st' ∧ ∃ out ia ib g ac bc, c = (none, out, ia, ib, g, ac, bc) ∧ LI a b (x + y + 2) out ia ib)
        (Q := fun c st' => Like st st' ∧ ∃ out ia ib g ac bc, (∃ r, c = (some r, out, ia, ib, g, ac, bc) ∧ Fin a b r) ∨ (c = (none, out, ia, ib, g, ac, bc) ∧ LI a b (x + 2) out ia ib)) ?_ ?_ ⟨hL, _, _, _, _, _, _, rfl, i⟩) ?_)
      · clear hD hY hL i
        rintro y c st1 _ hy ⟨hL, out, ia, ib, g, ac, bc, rfl, i⟩
        refine wpS_any fun R hR => ?_
        have hD : ∀ st' r out ia ib g ac bc, Like st st' → Fin a b r → R (.done (some r, out, ia, ib, g, ac, bc)) st' := fun st' r out ia ib g ac bc h1 h2 => hR (.done _) _ ⟨h1, _, _, _, _, _, _, .inl ⟨_, rfl, h2⟩⟩
        have hN : ∀ st' out ia ib g ac bc, Like st st' → LI a b (x + y + 2 + 1 + 1) out ia ib → R (.done (none, out, ia, ib, g, ac, bc)) st' := fun st' out ia ib g ac bc h1 h2 => hR (.done _) _ ⟨h1, _, _, _, _, _, _, .inr ⟨rfl, h2.mono (Nat.le_trans (Nat.add_le_add_right (Nat.le_add_right _ _) 2) (Nat.le_add_right _ 2))⟩⟩
        have hY : ∀ st' out ia ib g ac bc, Like st st' → LI a b (x + y + 2 + 1 + 1) out ia ib → R (.yield (none, out, ia, ib, g, ac, bc)) st' := fun st' out ia ib g ac bc h1 h2 => hR (.yield _) _ ⟨h1, _, _, _, _, _, _, rfl, h2.mono (Nat.le_succ _)⟩
        clear hR
        extract_lets z1 o1 z2 i1 z3 j1 z4 g1 z5 c1 c2 j2 jp
        have hjp : ∀ mg, wpS (model prog w) A E s (jp () mg) R st1 := by
          intro mg
          refine wpS_bind (wp_smg hL fun st1 hL => ?_)
          obtain ⟨pb, eb, ipb, kb⟩ := ai_el hb i.hb
          refine wpS_bind (wp_el eb (wpS_bind (wp_galR (hL.1.trans hk) ipb ha (add_sub_le (Nat.le_of_lt i.inA)) (Nat.sub_pos_of_lt i.inA) (fun _ _ _ hij hj => sa.le hij (sub_add_lt (Nat.le_of_lt i.inA) hj)) fun k k1 k2 k3 => ?_)))
          have m1 := i.m.takeA sa (k := k) (leap_le (Nat.le_of_lt i.inA) k1) fun j hj _ => by rw [kb]; exact k2 j hj
          have kn : ia + k < a.size → K b ib ≤ K a (ia + k) := fun z => by rw [kb]; exact Int.le_of_lt (k3 k (Nat.le_refl _) (leap_in z))
          clear k2 k3
          dsimp -zeta only
          extract_lets ac1 jq
          have hjq : ∀ o, LI a b (x + y + 2) o (ia + k) ib → wpS (model prog w) A E s (jq () o (ia + k)) R st1 := by
            clear m1 i
            intro o i
            have kn := kn i.inA
            generalize ia + k = ia at i kn
            refine wpS_bind (wp_el eb ?_)
            have m2 := i.m.pushB sb eb fun _ => kn
            extract_lets o2
            refine wpS_ite (fun g => wpS_pure (hD _ _ _ _ _ _ _ _ hL (m2.done sa sb (Nat.le_of_lt i.inA) i.hb (.inr (eq_of_beq g))))) fun e => ?_
            have i2 := i.nextB m2 e
            obtain ⟨pa, ea, ipa, ka⟩ := ai_el ha i.inA
            clear i e m2
            refine wpS_bind (wp_el ea (wpS_bind (wp_galL (hL.1.trans hk) ipa hb (add_sub_le (Nat.le_of_lt i2.hb)) (Nat.sub_pos_of_lt i2.hb) (fun _ _ _ hij hj => sb.le hij (sub_add_lt (Nat.le_of_lt i2.hb) hj)) fun l l1 l2 l3 => ?_)))
            have m3 := i2.m.takeB sb (k := l) (leap_le (Nat.le_of_lt i2.hb) l1) fun j hj _ => by rw [ka]; exact Int.le_of_lt (l2 j hj)
            have ln : ib + 1 + l < b.size → K a ia ≤ K b (ib + 1 + l) := fun z => by rw [ka]; exact l3 l (Nat.le_refl _) (leap_in z)
            clear l2 l3
            dsimp -zeta only
            extract_lets bc1 jr
            have hjr : ∀ o, LI a b (x + y + 2 + 1) o ia (ib + 1 + l) → wpS (model prog w) A E s (jr () o (ib + 1 + l)) R st1 := by
              clear m3
              intro o i3
              refine wpS_bind (wp_el ea ?_)
              have m4 := i3.m.pushA sa ea fun _ => ln i3.hb
              extract_lets o4 i4
              refine wpS_ite (fun g => wpS_pure (hD _ _ _ _ _ _ _ _ hL (m4.last sa sb (eq_of_beq g) (Nat.le_of_lt i3.hb) hl))) fun e => ?_
              exact wpS_ite (fun _ => wpS_pure (hN _ _ _ _ _ _ _ hL (i3.nextA m4 e))) fun _ => wpS_pure (hY _ _ _ _ _ _ _ hL (i3.nextA m4 e))
            clear_value jr
            refine wpS_ite (fun g => ?_) fun g => ?_
            · extract_lets o5 n5
              exact wpS_ite (fun g => wpS_pure (hD _ _ _ _ _ _ _ _ hL (m3.done sa sb (Nat.le_of_lt i2.inA) (leap_le (Nat.le_of_lt i2.hb) l1) (.inr (eq_of_beq g))))) fun e => hjr _ (i2.leapB m3 l1 e)
            · have l0 : l = 0 := Nat.eq_zero_of_not_pos g
              subst l0
              exact hjr _ i2
          clear_value jq
          refine wpS_ite (fun g => ?_) fun g => ?_
          · extract_lets o5 n5
            refine wpS_ite (fun g => wpS_pure (hD _ _ _ _ _ _ _ _ hL (m1.last sa sb (eq_of_beq g) (Nat.le_of_lt i.hb) hl))) fun e1 => ?_
            exact wpS_ite (fun g => wpS_pure (hD _ _ _ _ _ _ _ _ hL (m1.done sa sb (leap_le (Nat.le_of_lt i.inA) k1) (Nat.le_of_lt i.hb) (.inl (eq_of_beq g))))) fun e2 => hjq _ (i.leapA m1 k1 e1 e2)
          · have l0 : k = 0 := Nat.eq_zero_of_not_pos g
            subst l0
            exact hjq _ i
        clear_value jp
        exact wpS_ite (fun _ => hjp _) fun _ => hjp _
      · rintro c st' ⟨_, out, ia, ib, g, ac, bc, rfl, i⟩
        exact (i.over (Nat.le_add_right_of_le (Nat.le_trans (Nat.le_max_right 0 _) (Nat.le_add_left _ _)))).elim
      · rintro c st1 ⟨hL, out, ia, ib, g, ac, bc, ⟨r, rfl, hf⟩ | ⟨rfl, i⟩⟩
        · exact wpS_pure (hD _ _ _ _ _ _ hL hf)
        extract_lets
        exact wpS_bind (wp_smg hL fun st1 hL => wpS_pure (hY _ _ _ _ _ hL i))
end
end Tim

set_option Elab.async false
set_option linter.all false
set_option maxRecDepth 100000
set_option maxHeartbeats 1000000
namespace Tim
open PySem PyProof.Rows
/-! the merge from behind -/
def Dsc (a : Array Keyed) : Prop := a.toList.Pairwise fun x y => kz y ≤ kz x
structure MJ (a b out : Array Keyed) (na nb : Nat) : Prop where
  perm : out.toList.Perm (a.toList.drop na ++ b.toList.drop nb)
  sort : Dsc out
  toA : ∀ x ∈ out.toList, 0 < na → K a (na - 1) ≤ kz x
  toB : ∀ x ∈ out.toList, 0 < nb → K b (nb - 1) ≤ kz x
theorem MJ.symm {a b out : Array Keyed} {na nb : Nat} (h : MJ a b out na nb) : MJ b a out nb na := ⟨h.perm.trans List.perm_append_comm, h.sort, h.toB, h.toA⟩
theorem MJ.takeA {a b out : Array Keyed} {na nb : Nat} (h : MJ a b out na nb) (sa : Srt a) {r : Nat} (hr : r ≤ na) (hn : na ≤ a.size) (hle : ∀ j, r ≤ j → j < na → 0 < nb → K b (nb - 1) ≤ K a j) : MJ a b (out ++ (a.extract r na).reverse) r nb := by
  have ex : (a.extract r na).toList = (a.toList.drop r).take (na - r) := by
    have := ext_toList a r (na - r)
    rwa [show r + (na - r) = na by omega] at this
  have el : (out ++ (a.extract r na).reverse).toList = out.toList ++ ((a.toList.drop r).take (na - r)).reverse := by rw [Array.toList_append, Array.toList_reverse, ex]
  have dr : a.toList.drop r = (a.toList.drop r).take (na - r) ++ a.toList.drop na := by
    have := (List.take_append_drop (na - r) (a.toList.drop r)).symm
    rwa [List.drop_drop, show r + (na - r) = na by omega] at this
  have mem : ∀ y ∈ ((a.toList.drop r).take (na - r)).reverse, ∃ j, r ≤ j ∧ j < na ∧ kz y = K a j := fun y hy => by
    obtain ⟨j, hj, _, e⟩ := ext_mem (List.mem_reverse.mp hy)
    exact ⟨r + j, by omega, by omega, e⟩
  refine ⟨?_, ?_, fun x hx hlt => ?_, fun x hx hlt => ?_⟩
  · have : ((a.toList.drop r).take (na - r) ++ a.toList.drop na) ++ b.toList.drop nb = a.toList.drop r ++ b.toList.drop nb := by rw [← dr]
    rw [el, ← this, List.append_assoc]
    exact (h.perm.append (List.reverse_perm _)).trans List.perm_append_comm
  · unfold Dsc
    rw [el]
    refine List.pairwise_append.mpr ⟨h.sort, ?_, fun x hx y hy => ?_⟩
    · exact List.pairwise_reverse.mpr (List.Pairwise.sublist ((List.take_sublist ..).trans (List.drop_sublist ..)) sa)
    · obtain ⟨j, h1, h2, e⟩ := mem y hy
      rw [e]
      exact Int.le_trans (sa.le (by omega) (by omega)) (h.toA x hx (by omega))
  · rw [el] at hx
    rcases List.mem_append.mp hx with z | z
    · exact Int.le_trans (sa.le (by omega) (by omega)) (h.toA x z (by omega))
    · obtain ⟨j, h1, h2, e⟩ := mem x z
      rw [e]; exact sa.le (by omega) (by omega)
  · rw [el] at hx
    rcases List.mem_append.mp hx with z | z
    · exact h.toB x z hlt
    · obtain ⟨j, h1, h2, e⟩ := mem x z
      rw [e]; exact hle j h1 h2 hlt
theorem MJ.takeB {a b out : Array Keyed} {na nb : Nat} (h : MJ a b out na nb) (sb : Srt b) {r : Nat} (hr : r ≤ nb) (hn : nb ≤ b.size) (hle : ∀ j, r ≤ j → j < nb → 0 < na → K a (na - 1) ≤ K b j) : MJ a b (out ++ (b.extract r nb).reverse) na r := (h.symm.takeA sb hr hn hle).symm
theorem push_rev {a out : Array Keyed} {i : Nat} {p : Keyed} (h : a[i]? = some p) : out.push p = out ++ (a.extract i (i + 1)).reverse := by
  have e := push_ext (out := #[]) h
  have : (a.extract i (i + 1)) = #[p] := by rw [Array.empty_append] at e; rw [← e]; rfl
  rw [this]; rfl
theorem MJ.pushA {a b out : Array Keyed} {na nb : Nat} {p : Keyed} (h : MJ a b out (na + 1) nb) (sa : Srt a) (e : a[na]? = some p) (hle : 0 < nb → K b (nb - 1) ≤ K a na) : MJ a b (out.push p) na nb := by
  rw [push_rev e]
  exact h.takeA sa (by omega) (Array.getElem?_eq_some_iff.mp e).1 fun j h1 h2 z => by rw [show j = na by omega]; exact hle z
theorem MJ.popA {a b out : Array Keyed} {na nb : Nat} {p : Keyed} (h : MJ a b out na nb) (hn : 0 < na) (sa : Srt a) (e : a[na - 1]? = some p) (hle : 0 < nb → K b (nb - 1) ≤ K a (na - 1)) : MJ a b (out.push p) (na - 1) nb := by
  rw [show na = na - 1 + 1 by omega] at h
  exact h.pushA sa e hle
theorem MJ.popB {a b out : Array Keyed} {na nb : Nat} {p : Keyed} (h : MJ a b out na nb) (hn : 0 < nb) (sb : Srt b) (e : b[nb - 1]? = some p) (hle : 0 < na → K a (na - 1) ≤ K b (nb - 1)) : MJ a b (out.push p) na (nb - 1) := (h.symm.popA hn sb e hle).symm
theorem MJ.fin {a b out : Array Keyed} (h : MJ a b out 0 0) : Fin a b out.reverse := by
  refine ⟨?_, ?_⟩
  · rw [Array.toList_reverse]
    exact (List.reverse_perm _).trans h.perm
  · unfold Srt
    rw [Array.toList_reverse]
    exact List.pairwise_reverse.mpr h.sort
theorem MJ.done {a b out : Array Keyed} {na nb : Nat} (h : MJ a b out na nb) (sa : Srt a) (sb : Srt b) (ha : na ≤ a.size) (hb : nb ≤ b.size) (hor : na = 0 ∨ nb = 0) : Fin a b (a.extract 0 na ++ b.extract 0 nb ++ out.reverse) := by
  have h1 := h.takeB sb (r := 0) (by omega) hb fun j _ hj z => by omega
  have h2 := h1.takeA sa (r := 0) (by omega) ha fun j _ hj z => by omega
  have := h2.fin
  rwa [Array.reverse_append, Array.reverse_append, Array.reverse_reverse, Array.reverse_reverse, ← Array.append_assoc] at this
theorem MJ.first {a b out : Array Keyed} {na nb : Nat} (h : MJ a b out na nb) (sa : Srt a) (sb : Srt b) (ha : na ≤ a.size) (hb : nb ≤ b.size) (h1 : nb = 1) (h0 : ∀ j, j < a.size → K b 0 ≤ K a j) : Fin a b (b.extract 0 nb ++ a.extract 0 na ++ out.reverse) := by
  have h1 := h.takeA sa (r := 0) (by omega) ha fun j _ hj z => by rw [h1]; exact h0 j (by omega)
  have h2 := h1.takeB sb (r := 0) (by omega) hb fun j _ hj z => by omega
  have := h2.fin
  rwa [Array.reverse_append, Array.reverse_append, Array.reverse_reverse, Array.reverse_reverse, ← Array.append_assoc] at this
/-- what the merge from behind keeps -/
structure HI (a b : Array Keyed) (N : Nat) (out : Array Keyed) (na nb : Nat) : Prop where
  m : MJ a b out na nb
  pa : 0 < na
  pb : 1 < nb
  ha : na ≤ a.size
  hb : nb ≤ b.size
  far : N + na + nb ≤ a.size + b.size
theorem pos_beq {n : Nat} (e : ¬ (n == 0) = true) : 0 < n := Nat.pos_of_ne_zero fun z => e (beq_iff_eq.mpr z)
theorem one_beq {n : Nat} (h : 1 ≤ n) (e : ¬ (n == 1) = true) : 1 < n := Nat.lt_of_le_of_ne h fun z => e (beq_iff_eq.mpr z.symm)
section
variable {a b out o : Array Keyed} {N n na nb k : Nat}
theorem HI.mono (g : HI a b N out na nb) (h : n ≤ N) : HI a b n out na nb := ⟨g.m, g.pa, g.pb, g.ha, g.hb, Nat.le_trans (Nat.add_le_add_right (Nat.add_le_add_right h _) _) g.far⟩
theorem HI.over (g : HI a b N out na nb) (h : a.size + b.size ≤ N) : False := Nat.lt_irrefl _ (Nat.lt_of_lt_of_le (Nat.lt_of_le_of_lt h (Nat.lt_add_of_pos_right g.pa)) (Nat.le_trans (Nat.le_add_right _ _) g.far))
theorem HI.inA (g : HI a b N out na nb) : na - 1 < a.size := Nat.lt_of_lt_of_le (Nat.sub_one_lt (Nat.ne_of_gt g.pa)) g.ha
theorem HI.inB (g : HI a b N out na nb) : nb - 1 < b.size := Nat.lt_of_lt_of_le (Nat.sub_one_lt (Nat.ne_of_gt (Nat.lt_of_succ_lt g.pb))) g.hb
theorem HI.nextA (g : HI a b N out na nb) (m : MJ a b o (na - 1) nb) (e : ¬ (na - 1 == 0) = true) : HI a b (N + 1) o (na - 1) nb := ⟨m, pos_beq e, g.pb, Nat.le_of_lt g.inA, g.hb, by
  have h1 := g.far
  have h2 := g.pa
  clear g m e
  omega⟩
theorem HI.nextB (g : HI a b N out na nb) (m : MJ a b o na (nb - 1)) (e : ¬ (nb - 1 == 1) = true) : HI a b (N + 1) o na (nb - 1) := ⟨m, g.pa, one_beq (Nat.le_sub_one_of_lt g.pb) e, g.ha, Nat.le_of_lt g.inB, by
  have h1 := g.far
  have h2 := g.pb
  clear g m e
  omega⟩
theorem HI.leapA (g : HI a b N out na nb) (m : MJ a b o k nb) (hk : k ≤ na) (e : ¬ (k == 0) = true) : HI a b N o k nb := ⟨m, pos_beq e, g.pb, Nat.le_trans hk g.ha, g.hb, Nat.le_trans (Nat.add_le_add_right (Nat.add_le_add_left hk _) _) g.far⟩
theorem HI.leapB (g : HI a b N out na nb) (m : MJ a b o na k) (hk : k ≤ nb) (e1 : ¬ (k == 1) = true) (e0 : ¬ (k == 0) = true) : HI a b N o na k := ⟨m, g.pa, one_beq (pos_beq e0) e1, g.ha, Nat.le_trans hk g.hb, Nat.le_trans (Nat.add_le_add_left hk _) g.far⟩
theorem HI.first (g : HI a b N out na nb) (sa : Srt a) (sb : Srt b) (h0 : ∀ j, j < a.size → K b 0 ≤ K a j) (m : MJ a b o na (nb - 1)) (e : (nb - 1 == 1) = true) : Fin a b (b.extract 0 (nb - 1) ++ a.extract 0 na ++ o.reverse) := m.first sa sb g.ha (Nat.le_of_lt g.inB) (eq_of_beq e) h0
theorem HI.done (g : HI a b N out na nb) (sa : Srt a) (sb : Srt b) (m : MJ a b o (na - 1) nb) (e : (na - 1 == 0) = true) : Fin a b (a.extract 0 (na - 1) ++ b.extract 0 nb ++ o.reverse) := m.done sa sb (Nat.le_of_lt g.inA) g.hb (.inl (eq_of_beq e))
theorem zero_add_le {i n : Nat} (h : i ≤ n) : 0 + i ≤ n := by rwa [Nat.zero_add]
theorem lt_of_zero {i j n : Nat} (h : i ≤ n) (hj : j < 0 + i) : j < n := Nat.lt_of_lt_of_le hj (zero_add_le h)
end
section
variable {prog : Program} {w : World} {A : Around} {E : Value → Shared → Prop} {s : Shared}
theorem wp_mHi {st : SortSt} {a b : Array Keyed} {Q : Array Keyed → SortSt → Prop} (hk : kindOf st = oneType') (ha : AllI a) (hb : AllI b) (sa : Srt a) (sb : Srt b) (pa : 0 < a.size) (pb : 0 < b.size) (h0 : ∀ j, j < a.size → K b 0 ≤ K a j) (hl : ∀ j, j < b.size → K b j ≤ K a (a.size - 1))
    (h : ∀ r st', Like st st' → Fin a b r → Q r st') : wpS (model prog w) A E s (mHi a b) Q st := by
  have la : a.size - 1 < a.size := Nat.sub_one_lt (Nat.ne_of_gt pa)
  obtain ⟨p, ep, ip, kp⟩ := ai_el ha la
  refine wpS_bind (wpS_lift (wpAny_rule (And.intro rfl ?_)))
  extract_lets t dn fb na nb
  refine wpS_bind (wp_el ep ?_)
  extract_lets
  have m0 : MJ a b #[p] (a.size - 1) b.size := by
    have m : MJ a b #[] (a.size - 1 + 1) b.size := ⟨by rw [List.drop_eq_nil_of_le (by rw [Array.length_toList, Nat.sub_add_cancel pa]; exact Nat.le_refl _), List.drop_eq_nil_of_le (by rw [Array.length_toList]; exact Nat.le_refl _)]; simp, by unfold Dsc; simp, fun x hx => by simp at hx, fun x hx => by simp at hx⟩
    exact m.pushA sa ep fun _ => hl _ (Nat.sub_one_lt (Nat.ne_of_gt pb))
  refine wpS_ite (fun g => wpS_pure (h _ _ ⟨rfl, rfl, rfl, rfl⟩ (m0.done sa sb (Nat.le_of_lt la) (Nat.le_refl _) (.inl (eq_of_beq g))))) fun e1 => ?_
  refine wpS_ite (fun g => wpS_pure (h _ _ ⟨rfl, rfl, rfl, rfl⟩ (m0.first sa sb (Nat.le_of_lt la) (Nat.le_refl _) (eq_of_beq g) h0))) fun e2 => ?_
  have g0 : HI a b 1 #[p] (a.size - 1) b.size := ⟨m0, pos_beq e1, one_beq pb e2, Nat.le_of_lt la, Nat.le_refl _, by rw [Nat.add_comm 1, Nat.sub_add_cancel pa]; exact Nat.le_refl _⟩
  clear e1 e2 m0
  refine wpS_bind (wpS_get ?_)
  extract_lets mg
  refine wpS_bind (wpS_mono (wpS_forRange (I := fun x c st' => Like st st' ∧ ∃ out na nb g, c = (none, na, nb, out, g) ∧ HI a b (x + 1) out na nb)
    (Q := fun c st' => Like st st' ∧ ∃ r out na nb g, c = (some r, na, nb, out, g) ∧ Fin a b r) ?st ?fi ⟨⟨rfl, rfl, rfl, rfl⟩, _, _, _, _, rfl, g0⟩) ?po)
  case fi =>
    rintro c st' ⟨_, out, na, nb, g, rfl, i⟩
    exact (i.over (Nat.le_succ_of_le (Nat.le_max_right _ _))).elim
  case po =>
    rintro c st' ⟨hl', r, out, ia, ib, g, rfl, hf⟩
    exact wpS_pure (h r st' hl' hf)
  clear g0 h hl
  case st =>
    rintro x c st1 _ hx ⟨hL, out, na, nb, g, rfl, i⟩
    refine wpS_any fun R hR => ?_
    have hD : ∀ st' r out na nb g, Like st st' → Fin a b r → R (.done (some r, na, nb, out, g)) st' := fun st' r out na nb g h1 h2 => hR (.done _) _ ⟨h1, _, _, _, _, _, rfl, h2⟩
    have hY : ∀ st' out na nb g, Like st st' → HI a b (x + 2) out na nb → R (.yield (none, na, nb, out, g)) st' := fun st' out na nb g h1 h2 => hR (.yield _) _ ⟨h1, _, _, _, _, rfl, h2⟩
    clear hR
    extract_lets
    refine wpS_bind (wpS_mono (wpS_forRange (I := fun y c st' => Like st st' ∧ ∃ out na nb ac bc, c = (none, na, nb, out, ac, bc) ∧ HI a b (x + y + 1) out na nb)
      (Q := fun c st' => Like st st' ∧ ∃ out na nb ac bc, (∃ r, c = (some r, na, nb, out, ac, bc) ∧ Fin a b r) ∨ (c = (none, na, nb, out, ac, bc) ∧ HI a b (x + 2) out na nb)) ?_ ?_ ⟨hL, _, _, _, _, _, rfl, i⟩) ?_)
    · clear hD hY hL i
      rintro y c st1 _ hy ⟨hL, out, na, nb, ac, bc, rfl, i⟩
      refine wpS_any fun R hR => ?_
      have hD : ∀ st' r out na nb ac bc, Like st st' → Fin a b r → R (.done (some r, na, nb, out, ac, bc)) st' := fun st' r out na nb ac bc h1 h2 => hR (.done _) _ ⟨h1, _, _, _, _, _, .inl ⟨_, rfl, h2⟩⟩
      have hN : ∀ st' out na nb ac bc, Like st st' → HI a b (x + y + 1 + 1) out na nb → R (.done (none, na, nb, out, ac, bc)) st' := fun st' out na nb ac bc h1 h2 => hR (.done _) _ ⟨h1, _, _, _, _, _, .inr ⟨rfl, h2.mono (Nat.add_le_add_right (Nat.le_add_right _ _) 2)⟩⟩
      have hY : ∀ st' out na nb ac bc, Like st st' → HI a b (x + y + 1 + 1) out na nb → R (.yield (none, na, nb, out, ac, bc)) st' := fun st' out na nb ac bc h1 h2 => hR (.yield _) _ ⟨h1, _, _, _, _, _, rfl, h2⟩
      clear hR
      obtain ⟨pa, ea, ipa, ka⟩ := ai_el ha i.inA
      obtain ⟨pb, eb, ipb, kb⟩ := ai_el hb i.inB
      extract_lets
      refine wpS_bind (wp_el eb (wpS_bind (wp_el ea (wpS_bind (wp_lt (hL.1.trans hk) ipb ipa ?_)))))
      refine wpS_ite (fun z => ?_) fun z => ?_
      · extract_lets
        refine wpS_bind (wp_el ea ?_)
        have m' := i.m.popA i.pa sa ea fun _ => by rw [ka, kb]; exact Int.le_of_lt (of_decide_eq_true z)
        extract_lets
        refine wpS_ite (fun g => wpS_pure (hD _ _ _ _ _ _ _ hL (i.done sa sb m' g))) fun e => ?_
        exact wpS_ite (fun _ => wpS_pure (hN _ _ _ _ _ _ hL (i.nextA m' e))) fun _ => wpS_pure (hY _ _ _ _ _ _ hL (i.nextA m' e))
      · extract_lets
        refine wpS_bind (wp_el eb ?_)
        have m' := i.m.popB (Nat.lt_of_succ_lt i.pb) sb eb fun _ => by rw [ka, kb]; exact Int.not_lt.mp fun y => z (decide_eq_true y)
        extract_lets
        refine wpS_ite (fun g => wpS_pure (hD _ _ _ _ _ _ _ hL (i.first sa sb h0 m' g))) fun e => ?_
        exact wpS_ite (fun _ => wpS_pure (hN _ _ _ _ _ _ hL (i.nextB m' e))) fun _ => wpS_pure (hY _ _ _ _ _ _ hL (i.nextB m' e))
    · rintro c st' ⟨_, out, na, nb, ac, bc, rfl, i⟩
      exact (i.over (Nat.le_succ_of_le (Nat.le_trans (Nat.le_max_right 0 _) (Nat.le_add_left _ _)))).elim
    · rintro c st1 ⟨hL, out, na, nb, ac, bc, ⟨r, rfl, hf⟩ | ⟨rfl, i⟩⟩
      · exact wpS_pure (hD _ _ _ _ _ _ hL hf)
      extract_lets
      refine wpS_bind (wpS_lift (wpAny_rule (And.intro rfl ?_)))
      extract_lets
      refine wpS_bind (wpS_mono (wpS_forRange (I := fun y c st' => Like st st' ∧ ∃ out na nb g ac bc, c = (none, na, nb, out, g, ac, bc) ∧ HI a b (x + y + 2) out na nb)
        (Q := fun c st' => Like st st' ∧ ∃ out na nb g ac bc, (∃ r, c = (some r, na, nb, out, g, ac, bc) ∧ Fin a b r) ∨ (c = (none, na, nb, out, g, ac, bc) ∧ HI a b (x + 2) out na nb)) ?_ ?_ ⟨hL, _, _, _, _, _, _, rfl, i⟩) ?_)
      · clear hD hY hL i
        rintro y c st1 _ hy ⟨hL, out, na, nb, g, ac, bc, rfl, i⟩
        refine wpS_any fun R hR => ?_
        have hD : ∀ st' r out na nb g ac bc, Like st st' → Fin a b r → R (.done (some r, na, nb, out, g, ac, bc)) st' := fun st' r out na nb g ac bc h1 h2 => hR (.done _) _ ⟨h1, _, _, _, _, _, _, .inl ⟨_, rfl, h2⟩⟩
        have hN : ∀ st' out na nb g ac bc, Like st st' → HI a b (x + y + 2 + 1 + 1) out na nb → R (.done (none, na, nb, out, g, ac, bc)) st' := fun st' out na nb g ac bc h1 h2 => hR (.done _) _ ⟨h1, _, _, _, _, _, _, .inr ⟨rfl, h2.mono (Nat.le_trans (Nat.add_le_add_right (Nat.le_add_right _ _) 2) (Nat.le_add_right _ 2))⟩⟩
        have hY : ∀ st' out na nb g ac bc, Like st st' → HI a b (x + y + 2 + 1 + 1) out na nb → R (.yield (none, na, nb, out, g, ac, bc)) st' := fun st' out na nb g ac bc h1 h2 => hR (.yield _) _ ⟨h1, _, _, _, _, _, _, rfl, h2.mono (Nat.le_succ _)⟩
        clear hR
        extract_lets z1 n1 z2 n2 z3 o1 z4 g1 z5 c1 c2 n3 jp
        have hjp : ∀ mg, wpS (model prog w) A E s (jp () mg) R st1 := by
          intro mg
          refine wpS_bind (wp_smg hL fun st1 hL => ?_)
          obtain ⟨pb, eb, ipb, kb⟩ := ai_el hb i.inB
          refine wpS_bind (wp_el eb (wpS_bind (wp_galR (hL.1.trans hk) ipb ha (zero_add_le i.ha) (Nat.sub_one_lt (Nat.ne_of_gt i.pa)) (fun _ _ _ hij hj => sa.le hij (lt_of_zero i.ha hj)) fun k k1 k2 k3 => ?_)))
          have m1 := i.m.takeA sa (r := k) k1 i.ha fun j hj hj' _ => by have := k3 j hj hj'; rw [Nat.zero_add] at this; rw [kb]; exact Int.le_of_lt this
          have kn : 0 < k → K a (k - 1) ≤ K b (nb - 1) := fun z => by have := k2 (k - 1) (Nat.sub_one_lt (Nat.ne_of_gt z)); rwa [Nat.zero_add, ← kb] at this
          clear k2 k3
          dsimp -zeta only
          extract_lets kk ac1 jq
          have hjq : ∀ o, HI a b (x + y + 2) o k nb → wpS (model prog w) A E s (jq () k o) R st1 := by
            clear m1 i
            intro o i
            refine wpS_bind (wp_el eb ?_)
            have m2 := i.m.popB (Nat.lt_of_succ_lt i.pb) sb eb kn
            extract_lets o2
            refine wpS_ite (fun g => wpS_pure (hD _ _ _ _ _ _ _ _ hL (i.first sa sb h0 m2 g))) fun e => ?_
            have i2 := i.nextB m2 e
            obtain ⟨pa, ea, ipa, ka⟩ := ai_el ha i.inA
            clear i e m2
            refine wpS_bind (wp_el ea (wpS_bind (wp_galL (hL.1.trans hk) ipa hb (zero_add_le i2.hb) (Nat.sub_one_lt (Nat.ne_of_gt (Nat.lt_of_succ_lt i2.pb))) (fun _ _ _ hij hj => sb.le hij (lt_of_zero i2.hb hj)) fun l l1 l2 l3 => ?_)))
            have m3 := i2.m.takeB sb (r := l) l1 i2.hb fun j hj hj' _ => by have := l3 j hj hj'; rw [Nat.zero_add] at this; rw [ka]; exact this
            have ln : 0 < l → K b (l - 1) ≤ K a (k - 1) := fun z => by have := l2 (l - 1) (Nat.sub_one_lt (Nat.ne_of_gt z)); rw [Nat.zero_add] at this; rw [ka]; exact Int.le_of_lt this
            clear l2 l3
            dsimp -zeta only
            extract_lets ll bc1 jr
            have hjr : ∀ o, HI a b (x + y + 2 + 1) o k l → wpS (model prog w) A E s (jr () l o) R st1 := by
              clear m3
              intro o i3
              refine wpS_bind (wp_el ea ?_)
              have m4 := i3.m.popA i3.pa sa ea ln
              extract_lets o4
              refine wpS_ite (fun g => wpS_pure (hD _ _ _ _ _ _ _ _ hL (i3.done sa sb m4 g))) fun e => ?_
              exact wpS_ite (fun _ => wpS_pure (hN _ _ _ _ _ _ _ hL (i3.nextA m4 e))) fun _ => wpS_pure (hY _ _ _ _ _ _ _ hL (i3.nextA m4 e))
            clear_value jr
            refine wpS_ite (fun g => ?_) fun g => ?_
            · extract_lets o5 n5
              refine wpS_ite (fun g => wpS_pure (hD _ _ _ _ _ _ _ _ hL (m3.first sa sb i2.ha (Nat.le_trans l1 i2.hb) (eq_of_beq g) h0))) fun e1 => ?_
              exact wpS_ite (fun g => wpS_pure (hD _ _ _ _ _ _ _ _ hL (m3.done sa sb i2.ha (Nat.le_trans l1 i2.hb) (.inr (eq_of_beq g))))) fun e0 => hjr _ (i2.leapB m3 l1 e1 e0)
            · have l0 : nb - 1 = l := Nat.le_antisymm (Nat.le_of_sub_eq_zero (Nat.eq_zero_of_not_pos g)) l1
              subst l0
              exact hjr _ i2
          clear_value jq
          refine wpS_ite (fun g => ?_) fun g => ?_
          · extract_lets o5
            exact wpS_ite (fun g => wpS_pure (hD _ _ _ _ _ _ _ _ hL (m1.done sa sb (Nat.le_trans k1 i.ha) i.hb (.inl (eq_of_beq g))))) fun e => hjq _ (i.leapA m1 k1 e)
          · have l0 : na = k := Nat.le_antisymm (Nat.le_of_sub_eq_zero (Nat.eq_zero_of_not_pos g)) k1
            subst l0
            exact hjq _ i
        clear_value jp
        exact wpS_ite (fun _ => hjp _) fun _ => hjp _
      · rintro c st' ⟨_, out, na, nb, g, ac, bc, rfl, i⟩
        exact (i.over (Nat.le_add_right_of_le (Nat.le_trans (Nat.le_max_right 0 _) (Nat.le_add_left _ _)))).elim
      · rintro c st1 ⟨hL, out, na, nb, g, ac, bc, ⟨r, rfl, hf⟩ | ⟨rfl, i⟩⟩
        · exact wpS_pure (hD _ _ _ _ _ _ hL hf)
        extract_lets
        exact wpS_bind (wp_smg hL fun st1 hL => wpS_pure (hY _ _ _ _ _ hL i))
end
end Tim

set_option Elab.async false
set_option linter.all false
set_option maxRecDepth 100000
set_option maxHeartbeats 1000000
namespace Tim
open PySem PyProof.Rows
/-! runs -/
structure Ok (a₀ : Array Keyed) (st : SortSt) : Prop where
  perm : (arrOf st).Perm a₀
  kind : kindOf st = oneType'
  fine : failedOf st = none
theorem Ok.size {a₀ : Array Keyed} {st : SortSt} (h : Ok a₀ st) : (arrOf st).size = a₀.size := h.perm.size_eq
theorem Ok.all {a₀ : Array Keyed} {st : SortSt} (h : Ok a₀ st) (h0 : IntKeys a₀) : AllI (arrOf st) := fun i hi => ⟨(arrOf st)[i], getElem?_pos _ i hi, h0 _ ((Array.perm_iff_toList_perm.mp h.perm).mem_iff.mp (by simp))⟩
def Seg (xs : Array Keyed) (lo hi : Nat) : Prop := ∀ i j, lo ≤ i → i ≤ j → j < hi → K xs i ≤ K xs j
def Dwn (xs : Array Keyed) (lo hi : Nat) : Prop := ∀ i j, lo ≤ i → i ≤ j → j < hi → K xs j ≤ K xs i
/-- as ahead, below lo -/
structure Upto (a₀ : Array Keyed) (lo : Nat) (st st' : SortSt) : Prop where
  ok : Ok a₀ st'
  pend : pendingOf st' = pendingOf st
  same : ∀ j, j < lo → K (arrOf st') j = K (arrOf st) j
theorem Upto.arr {a₀ : Array Keyed} {lo : Nat} {st st' : SortSt} (h : Upto a₀ lo st st') {xs : Array Keyed} (hp : xs.Perm (arrOf st')) (hs : ∀ j, j < lo → K xs j = K (arrOf st') j) : Upto a₀ lo st (setArr st' xs) :=
  ⟨⟨hp.trans h.ok.perm, h.ok.kind, h.ok.fine⟩, h.pend, fun j hj => (hs j hj).trans (h.same j hj)⟩
theorem K_mir {xs : Array Keyed} {i j : Nat} (hj : j ≤ xs.size) (k : Nat) : K (mirror xs i j ((j - i) / 2)) k = if i ≤ k ∧ k < j then K xs (i + j - 1 - k) else K xs k := by
  have e := (getElem?_mirror_all (i := i) hj k)
  by_cases z : i ≤ k ∧ k < j
  · rw [if_pos z] at e ⊢; unfold K; rw [e]
  · rw [if_neg z] at e ⊢; unfold K; rw [e]
theorem K_mir_eq {xs : Array Keyed} {i j : Nat} (hj : j ≤ xs.size) (he : ∀ k, i ≤ k → k < j → K xs k = K xs (j - 1)) (k : Nat) : K (mirror xs i j ((j - i) / 2)) k = K xs k := by
  rw [K_mir hj]
  split
  · rw [he _ (by omega) (by omega), he k (by omega) (by omega)]
  · rfl
theorem K_bub {xs : Array Keyed} {src d : Nat} (hs : src < xs.size) (hd : d ≤ src) (k : Nat) : K (bubble xs src d) k = if k = src - d then K xs src else if src - d < k ∧ k ≤ src then K xs (k - 1) else K xs k := by
  have e := (getElem?_bubble hs d hd k)
  unfold K
  rw [e]
  repeat' split
  all_goals first | rfl | simp_all
section
variable {a₀ : Array Keyed} {prog : Program} {w : World} {A : Around} {E : Value → Shared → Prop} {s : Shared}
theorem wp_at {st : SortSt} {i j : Nat} {Q : Option Bool → SortSt → Prop} (ok : Ok a₀ st) (h0 : IntKeys a₀) (hi : i < a₀.size) (hj : j < a₀.size) (h : Q (some (decide (K (arrOf st) i < K (arrOf st) j))) st) : wpS (model prog w) A E s (ltAt' i j) Q st := by
  obtain ⟨p, e1, i1, k1⟩ := ai_el (ok.all h0) (i := i) (by rw [ok.size]; exact hi)
  obtain ⟨q, e2, i2, k2⟩ := ai_el (ok.all h0) (i := j) (by rw [ok.size]; exact hj)
  rw [k1, k2] at h
  rw [ltAt'_eq]
  exact wpS_bind (wpS_get (wpS_bind (wp_el e1 (wpS_bind (wp_el e2 (wp_lt ok.kind i1 i2 h))))))
theorem wp_bin {st : SortSt} {lo n k0 : Nat} {Q : Bool → SortSt → Prop} (h0 : IntKeys a₀) (hn : lo + n ≤ a₀.size) (hk : k0 ≤ n) (ok : Ok a₀ st) (hs : Seg (arrOf st) lo (lo + k0)) (h : ∀ st', Upto a₀ lo st st' → Seg (arrOf st') lo (lo + n) → Q true st') : wpS (model prog w) A E s (binarySort' lo n k0) Q st := by
  refine wpS_bind (wpS_mono (wpS_forRange (I := fun k c st' => c = (none, ()) ∧ Upto a₀ lo st st' ∧ Seg (arrOf st') lo (lo + min k n)) (Q := fun c st' => c = (none, ()) ∧ Upto a₀ lo st st' ∧ Seg (arrOf st') lo (lo + n)) ?st ?fi ?ii) ?po)
  case po =>
    rintro c st' ⟨rfl, u, z⟩
    exact wpS_pure (h st' u z)
  case ii =>
    refine ⟨rfl, ⟨ok, rfl, fun _ _ => rfl⟩, fun i j h1 h2 h3 => ?_⟩
    by_cases z : k0 = 0
    · rw [show i = j by omega]; exact Int.le_refl _
    · exact hs i j h1 h2 (by (clear hn h1 h2; omega))
  case fi =>
    rintro c st' ⟨hc, u, z⟩
    refine ⟨hc, u, ?_⟩
    rwa [show min (max (max k0 1) n) n = n by omega] at z
  case st =>
    rintro k c st' h1 h2 ⟨rfl, u, z⟩
    rw [show min k n = k by (clear hn hk h1; omega)] at z
    refine wpS_bind (wpS_mono (wpS_forRange (I := fun x c st'' => st'' = st' ∧ ∃ l r, c = (none, l, r) ∧ l ≤ r ∧ r ≤ k ∧ r - l ≤ k - x ∧ (∀ i, i < l → K (arrOf st') (lo + i) ≤ K (arrOf st') (lo + k)) ∧ (∀ i, r ≤ i → i < k → K (arrOf st') (lo + k) < K (arrOf st') (lo + i)))
      (Q := fun c st'' => st'' = st' ∧ ∃ l r, c = (none, l, r) ∧ l ≤ k ∧ (∀ i, i < l → K (arrOf st') (lo + i) ≤ K (arrOf st') (lo + k)) ∧ (∀ i, l ≤ i → i < k → K (arrOf st') (lo + k) < K (arrOf st') (lo + i))) ?_ ?_ ⟨rfl, 0, k, rfl, by (clear hn hk h1 h2; omega), by (clear hn hk h1 h2; omega), by (clear hn hk h1 h2; omega), fun i hi => by (clear hn hk h1 h2; omega), fun i h1 h2 => by omega⟩) ?_)
    · rintro x c st'' _ hx ⟨rfl, l, r, rfl, g1, g2, g3, g4, g5⟩
      extract_lets
      refine wpS_ite (fun g => ?_) fun g => ?_
      · have g : l ≥ r := g
        exact wpS_pure ⟨rfl, l, r, rfl, by (clear hn hk h1 h2 hx g3; omega), g4, fun i a b => g5 i (by (clear hn hk h1 h2 hx g2 g3 b; omega)) b⟩
      have g : ¬ l ≥ r := g
      refine wpS_bind (wp_at u.ok h0 (show lo + k < a₀.size by omega) (show lo + (l + r) / 2 < a₀.size by (clear hk h1 hx g1 g3; omega)) ?_)
      by_cases y : K (arrOf st'') (lo + k) < K (arrOf st'') (lo + (l + r) / 2)
      · rw [decide_eq_true y]
        refine wpS_pure ⟨rfl, l, (l + r) / 2, rfl, by (clear hn hk h1 h2 hx g1 g2 g3 y; omega), by (clear hn hk h1 h2 hx g1 g3 y; omega), by (clear hn hk h1 h2 g1 g2 y; omega), g4, fun i a b => ?_⟩
        exact Int.lt_of_lt_of_le y (z _ _ (by (clear hn hk h1 h2 hx g1 g2 g3 g y a b; omega)) (by (clear hn hk h1 h2 hx g1 g2 g3 g y b; omega)) (by (clear hn hk h1 h2 hx g1 g2 g3 g y a; omega)))
      · rw [decide_eq_false y]
        refine wpS_pure ⟨rfl, (l + r) / 2 + 1, r, rfl, by (clear hn hk h1 h2 hx g1 g2 g3 y; omega), by (clear hn hk h1 h2 hx g1 g3 g y; omega), by (clear hn hk h1 h2 g1 g2 y; omega), fun i a => ?_, g5⟩
        exact Int.le_trans (z _ (lo + (l + r) / 2) (by (clear hn hk h1 h2 hx g1 g2 g3 g y a; omega)) (by (clear hn hk h1 h2 hx g1 g2 g3 g y; omega)) (by (clear hn hk h1 h2 hx g1 g3 y a; omega))) (Int.not_lt.mp y)
    · rintro c st'' ⟨rfl, l, r, rfl, g1, g2, g3, g4, g5⟩
      exact ⟨rfl, l, r, rfl, by (clear hn hk h1 h2 g3; omega), g4, fun i a b => g5 i (by (clear hn hk h1 h2 g2 b; omega)) b⟩
    · rintro c st'' ⟨rfl, l, r, rfl, g2, g4, g5⟩
      have hsz : lo + k < (arrOf st'').size := by rw [u.ok.size]; omega
      have hK := K_bub (xs := arrOf st'') (src := lo + k) (d := lo + k - (lo + l)) hsz (by (clear hn hk h1 h2 hsz; omega))
      rw [show lo + k - (lo + k - (lo + l)) = lo + l by omega] at hK
      refine wpS_bind (wpS_modify (wpS_pure ⟨rfl, u.arr (bubble_perm _ _ _) fun j hj => ?_, fun i j a b c => ?_⟩))
      · show K (bubble (arrOf st'') (lo + k) (lo + k - (lo + l))) j = _
        rw [hK, if_neg (by (clear hn hk h1 h2 g2 hsz; omega)), if_neg (by (clear hn hk h1 h2 g2 hsz; omega))]
      · rw [show min (k + 1) n = k + 1 by (clear hn hk h1 g2 hsz a b c; omega)] at c
        show K (bubble (arrOf st'') (lo + k) (lo + k - (lo + l))) i ≤ K (bubble (arrOf st'') (lo + k) (lo + k - (lo + l))) j
        rw [hK, hK]
        have q4 : ∀ i, lo ≤ i → i < lo + l → K (arrOf st'') i ≤ K (arrOf st'') (lo + k) := fun i a b => by
          have := g4 (i - lo) (by (clear hn hk h1 h2 g2 hsz c; omega)); rwa [show lo + (i - lo) = i by (clear hn hk h1 h2 g2 hsz c b this; omega)] at this
        have q5 : ∀ i, lo + l ≤ i → i < lo + k → K (arrOf st'') (lo + k) ≤ K (arrOf st'') i := fun i a b => by
          have := g5 (i - lo) (by (clear hn hk h1 h2 g2 hsz c b; omega)) (by (clear hn hk h1 h2 g2 hsz c; omega)); rw [show lo + (i - lo) = i by omega] at this; exact Int.le_of_lt this
        repeat' split
        all_goals first
          | (exfalso; omega)
          | exact Int.le_refl _
          | exact q4 _ (by (clear hn hk h1 h2 g2 hsz b c; omega)) (by (clear hn hk h1 h2 g2 hsz a; omega))
          | exact q5 _ (by (clear hn hk h1 h2 g2 hsz a b c; omega)) (by (clear hn hk h1 h2 g2 hsz a b; omega))
          | exact z _ _ (by omega) (by omega) (by omega)
end
end Tim

set_option Elab.async false
set_option linter.all false
set_option maxRecDepth 100000
set_option maxHeartbeats 1000000
namespace Tim
open PySem PyProof.Rows
section
variable {a₀ : Array Keyed} {prog : Program} {w : World} {A : Around} {E : Value → Shared → Prop} {s : Shared}
theorem wp_rev {st : SortSt} {i j : Nat} {Q : Unit → SortSt → Prop} (h : Q () (setArr st (mirror (arrOf st) i j ((j - i) / 2)))) : wpS (model prog w) A E s (reverseSlice' i j) Q st := by
  rw [reverseSlice'_eq]; exact (wpS_modify h)
theorem Upto.mir {lo : Nat} {st st' : SortSt} (h : Upto a₀ lo st st') {i j : Nat} (hi : lo ≤ i) (hj : j ≤ a₀.size) : Upto a₀ lo st (setArr st' (mirror (arrOf st') i j ((j - i) / 2))) :=
  h.arr (mirror_perm _ _ _ _) fun k hk => by rw [K_mir (by rw [h.ok.size]; exact hj), if_neg (by omega)]
theorem wp_count {st : SortSt} {lo nrem : Nat} {Q : Option Nat → SortSt → Prop} (h0 : IntKeys a₀) (hn : lo + nrem ≤ a₀.size) (h1 : 1 ≤ nrem) (ok : Ok a₀ st) (h : ∀ m st', Upto a₀ lo st st' → 1 ≤ m → m ≤ nrem → Seg (arrOf st') lo (lo + m) → Q (some m) st') : wpS (model prog w) A E s (countRun' lo nrem) Q st := by
  have asc : ∀ (st' : SortSt) (x : Nat), Seg (arrOf st') lo (lo + x) → 1 ≤ x → ¬ K (arrOf st') (lo + x) < K (arrOf st') (lo + x - 1) → Seg (arrOf st') lo (lo + (x + 1)) := fun st' x z hx y i j a b c => by
    by_cases d : j < lo + x
    · exact z i j a b d
    · have e : j = lo + x := by (clear hn h1 hx y a b; omega)
      by_cases f : i = j
      · rw [f]; exact Int.le_refl _
      · subst e
        exact Int.le_trans (z i (lo + x - 1) a (by (clear hn h1 hx y a c d; omega)) (by (clear hn h1 y a b c d f; omega))) (Int.not_lt.mp y)
  refine wpS_bind (wpS_mono (wpS_forRange (I := fun x c st' => st' = st ∧ c = (none, x) ∧ Seg (arrOf st) lo (lo + x)) (Q := fun c st' => st' = st ∧ ∃ n, c = (none, n) ∧ 1 ≤ n ∧ n ≤ nrem ∧ Seg (arrOf st) lo (lo + n) ∧ (n = nrem ∨ K (arrOf st) (lo + n) < K (arrOf st) (lo + n - 1))) ?st ?fi ⟨rfl, rfl, fun i j a b c => by rw [show i = j by omega]; exact Int.le_refl _⟩) ?po)
  case fi =>
    rintro c st' ⟨rfl, rfl, z⟩
    rw [show max 1 nrem = nrem by omega] at z ⊢
    exact ⟨rfl, nrem, rfl, h1, Nat.le_refl _, z, .inl rfl⟩
  case st =>
    rintro x c st' hx hx' ⟨rfl, rfl, z⟩
    extract_lets
    refine wpS_bind (wp_at ok h0 (show lo + x < a₀.size by omega) (show lo + x - 1 < a₀.size by omega) ?_)
    by_cases y : K (arrOf st') (lo + x) < K (arrOf st') (lo + x - 1)
    · rw [decide_eq_true y]
      exact wpS_pure ⟨rfl, x, rfl, hx, by (clear hn h1 hx y; omega), z, .inr y⟩
    · rw [decide_eq_false y]
      exact wpS_pure ⟨rfl, rfl, asc _ _ z hx y⟩
  rintro c st' ⟨rfl, n, rfl, n1, n2, z, hor⟩
  extract_lets r0 n0 n' neq' jp
  refine wpS_ite (fun g => wpS_pure (h n st' ⟨ok, rfl, fun _ _ => rfl⟩ n1 n2 z)) fun g => ?_
  have g : n ≠ nrem := fun e => g (beq_iff_eq.mpr e)
  have hlt := hor.resolve_left g
  have hjp : ∀ st1, Upto a₀ lo st' st1 → Dwn (arrOf st1) lo (lo + (n + 1)) → wpS (model prog w) A E s (jp ()) Q st1 := by
    intro st1 u1 d1
    refine wpS_bind (wpS_lift (wpAny_rule (And.intro rfl ?_)))
    refine wpS_bind (wpS_mono (wpS_forRange (I := fun x c st2 => ∃ neq, c = (none, x, neq) ∧ Upto a₀ lo st' st2 ∧ Dwn (arrOf st2) lo (lo + x) ∧ neq + 1 ≤ x ∧ ∀ i, lo + x - (neq + 1) ≤ i → i < lo + x → K (arrOf st2) i = K (arrOf st2) (lo + x - 1))
      (Q := fun c st2 => ∃ m neq, c = (none, m, neq) ∧ Upto a₀ lo st' st2 ∧ 1 ≤ m ∧ m ≤ nrem ∧ Dwn (arrOf st2) lo (lo + m) ∧ neq + 1 ≤ m ∧ ∀ i, lo + m - (neq + 1) ≤ i → i < lo + m → K (arrOf st2) i = K (arrOf st2) (lo + m - 1)) ?_ ?_ ⟨0, rfl, u1, d1, by show 0 + 1 ≤ n + 1; (clear hn h1 n2 hor g hlt; omega), fun i a b => by
        have a : lo + (n + 1) - (0 + 1) ≤ i := a
        have b : i < lo + (n + 1) := b
        show K _ i = K _ (lo + (n + 1) - 1)
        congr 1; (clear hn h1 n2 hor g hlt b; omega)⟩) ?_)
    · rintro x c st2 hx hx' ⟨neq, rfl, u, d, q1, q2⟩
      have hx : n + 1 ≤ x := hx
      extract_lets
      refine wpS_bind (wp_at u.ok h0 (show lo + x < a₀.size by omega) (show lo + x - 1 < a₀.size by omega) ?_)
      have dn : ∀ {xs : Array Keyed}, (∀ k, K xs k = K (arrOf st2) k) → K (arrOf st2) (lo + x) ≤ K (arrOf st2) (lo + x - 1) → Dwn xs lo (lo + (x + 1)) := fun hk y i j a b c => by
        rw [hk, hk]
        by_cases e : j < lo + x
        · exact d i j a b e
        · have e : j = lo + x := by (clear hn h1 n1 n2 hor g hlt hx' q1 hx y a b; omega)
          subst e
          by_cases f : i = lo + x
          · rw [f]; exact Int.le_refl _
          · exact Int.le_trans y (d i (lo + x - 1) a (by (clear hn h1 n1 n2 hor g hlt hx' q1 hx y a c e; omega)) (by omega))
      by_cases y : K (arrOf st2) (lo + x) < K (arrOf st2) (lo + x - 1)
      · rw [decide_eq_true y]
        refine wpS_ite (fun _ => ?_) fun z => absurd rfl z
        have one : ∀ {st3 : SortSt}, Upto a₀ lo st' st3 → Dwn (arrOf st3) lo (lo + (x + 1)) → ∃ neq, ((none, x + 1, 0) : Option (Option Nat) × Nat × Nat) = (none, x + 1, neq) ∧ Upto a₀ lo st' st3 ∧ Dwn (arrOf st3) lo (lo + (x + 1)) ∧ neq + 1 ≤ x + 1 ∧ ∀ i, lo + (x + 1) - (neq + 1) ≤ i → i < lo + (x + 1) → K (arrOf st3) i = K (arrOf st3) (lo + (x + 1) - 1) :=
          fun u3 d3 => ⟨0, rfl, u3, d3, by (clear hn h1 n1 n2 hor g hlt hx' q1 hx y; omega), fun i a b => by congr 1; omega⟩
        refine wpS_ite (fun g => ?_) fun g => ?_
        · refine wpS_bind (wp_rev ?_)
          exact wpS_pure (one (u.mir (i := lo + x - (neq + 1)) (j := lo + x) (by (clear hn h1 n1 n2 hor hlt hx' hx y g; omega)) (by (clear h1 n1 n2 hor hlt q1 hx y g; omega))) (dn (K_mir_eq (i := lo + x - (neq + 1)) (j := lo + x) (by rw [u.ok.size]; omega) q2) (Int.le_of_lt y)))
        · exact wpS_pure (one u (dn (fun _ => rfl) (Int.le_of_lt y)))
      · rw [decide_eq_false y]
        refine wpS_ite (fun z => absurd z Bool.false_ne_true) fun _ => ?_
        refine wpS_bind (wp_at u.ok h0 (show lo + x - 1 < a₀.size by (clear h1 n1 n2 hor g hlt hx y; omega)) (show lo + x < a₀.size by omega) ?_)
        by_cases y2 : K (arrOf st2) (lo + x - 1) < K (arrOf st2) (lo + x)
        · rw [decide_eq_true y2]
          exact wpS_pure ⟨x, neq, rfl, u, by (clear hn h1 n1 n2 hor g hlt hx' hx y y2; omega), by (clear hn h1 n1 n2 hor g hlt q1 hx y y2; omega), d, q1, q2⟩
        · rw [decide_eq_false y2]
          have e : K (arrOf st2) (lo + x) = K (arrOf st2) (lo + x - 1) := by omega
          refine wpS_pure ⟨neq + 1, rfl, u, dn (fun _ => rfl) (by omega), by (clear hn h1 n1 n2 hor g hlt hx' hx y y2 e; omega), fun i a b => ?_⟩
          rw [show lo + (x + 1) - 1 = lo + x by omega]
          by_cases f : i = lo + x
          · rw [f]
          · rw [e]; exact q2 i (by (clear hn h1 n1 n2 hor g hlt hx' hx y y2 e; omega)) (by (clear hn h1 n1 n2 hor g hlt hx' q1 hx y y2 e a; omega))
    · rintro c st2 ⟨neq, rfl, u, d, q1, q2⟩
      have : max (n + 1) nrem = nrem := by (clear hn h1 n1 hor hlt q1; omega)
      have e : max n' nrem = nrem := this
      rw [e] at d q1 q2 ⊢
      exact ⟨nrem, neq, rfl, u, h1, Nat.le_refl _, d, q1, q2⟩
    · rintro c st2 ⟨m, neq, rfl, u, m1, m2, d, q1, q2⟩
      extract_lets r3 s3 m3 q3 jq
      have hjq : ∀ st3, Upto a₀ lo st' st3 → Dwn (arrOf st3) lo (lo + m) → wpS (model prog w) A E s (jq ()) Q st3 := by
        intro st3 u3 d3
        refine wpS_bind (wp_rev ?_)
        have u4 := u3.mir (i := lo) (j := lo + m) (Nat.le_refl _) (by omega)
        have s4 : Seg (arrOf (setArr st3 (mirror (arrOf st3) lo (lo + m) ((lo + m - lo) / 2)))) lo (lo + m) := fun i j a b c => by
          show K (mirror (arrOf st3) lo (lo + m) ((lo + m - lo) / 2)) i ≤ K (mirror (arrOf st3) lo (lo + m) ((lo + m - lo) / 2)) j
          rw [K_mir (by rw [u3.ok.size]; omega), K_mir (by rw [u3.ok.size]; omega), if_pos (by (clear hn h1 n1 n2 hor g hlt m1 m2 q1; omega)), if_pos (by (clear hn h1 n1 n2 hor g hlt m1 m2 q1; omega))]
          exact d3 _ _ (by (clear hn h1 n1 n2 hor g hlt m1 m2 q1 a b; omega)) (by (clear hn h1 n1 n2 hor g hlt m1 m2 q1 a; omega)) (by (clear hn h1 n1 n2 hor g hlt m1 m2 q1; omega))
        have kept : Upto a₀ lo st' (setArr st3 (mirror (arrOf st3) lo (lo + m) ((lo + m - lo) / 2))) := u4
        generalize setArr st3 (mirror (arrOf st3) lo (lo + m) ((lo + m - lo) / 2)) = st4 at kept s4
        refine wpS_bind (wpS_mono (wpS_forRange (I := fun x c st5 => st5 = st4 ∧ c = (none, x) ∧ Seg (arrOf st4) lo (lo + x)) (Q := fun c st5 => st5 = st4 ∧ ∃ n, c = (none, n) ∧ 1 ≤ n ∧ n ≤ nrem ∧ Seg (arrOf st4) lo (lo + n)) ?_ ?_ ⟨rfl, rfl, s4⟩) ?_)
        · rintro x c st5 hx hx' ⟨rfl, rfl, z⟩
          have hx : m ≤ x := hx
          extract_lets
          refine wpS_bind (wp_at kept.ok h0 (show lo + x < a₀.size by omega) (show lo + x - 1 < a₀.size by omega) ?_)
          by_cases y : K (arrOf st5) (lo + x) < K (arrOf st5) (lo + x - 1)
          · rw [decide_eq_true y]
            exact wpS_pure ⟨rfl, x, rfl, by (clear hn h1 n1 n2 hor g hlt m1 m2 hx' y; omega), by (clear hn h1 n1 n2 hor g hlt m1 m2 q1 hx y; omega), z⟩
          · rw [decide_eq_false y]
            exact wpS_pure ⟨rfl, rfl, asc _ _ z (by omega) y⟩
        · rintro c st5 ⟨rfl, rfl, z⟩
          have e : max m3 nrem = nrem := show max m nrem = nrem by (clear hn h1 n1 n2 hor g hlt m1 q1; omega)
          rw [e] at z ⊢
          exact ⟨rfl, nrem, rfl, h1, Nat.le_refl _, z⟩
        · rintro c st5 ⟨rfl, k, rfl, k1, k2, z⟩
          exact wpS_pure (h k st5 kept k1 k2 z)
      clear_value jq
      refine wpS_ite (fun g => ?_) fun g => hjq _ u d
      refine wpS_bind (wp_rev (hjq _ (u.mir (i := lo + m - (neq + 1)) (j := lo + m) (by (clear hn h1 n1 n2 hor hlt m1 m2 g; omega)) (by omega)) fun i j a b c => ?_))
      show K (mirror (arrOf st2) (lo + m - (neq + 1)) (lo + m) _) j ≤ K (mirror (arrOf st2) (lo + m - (neq + 1)) (lo + m) _) i
      rw [K_mir_eq (by rw [u.ok.size]; omega) q2, K_mir_eq (by rw [u.ok.size]; omega) q2]
      exact d i j a b c
  clear_value jp
  refine wpS_ite (fun g1 => ?_) fun g1 => ?_
  · have g1 : n > 1 := g1
    refine wpS_bind (wp_at ok h0 (show lo < a₀.size by omega) (show lo + n - 1 < a₀.size by omega) ?_)
    by_cases y : K (arrOf st') lo < K (arrOf st') (lo + n - 1)
    · rw [decide_eq_true y]
      exact wpS_pure (h n st' ⟨ok, rfl, fun _ _ => rfl⟩ n1 n2 z)
    · rw [decide_eq_false y]
      have all : ∀ k, lo ≤ k → k < lo + n → K (arrOf st') k = K (arrOf st') (lo + n - 1) := fun k a b => by
        have e1 := z lo k (Nat.le_refl _) a b
        have e2 := z k (lo + n - 1) a (by (clear hn h1 n1 n2 hor g hlt g1 y a e1; omega)) (by (clear hn h1 n1 n2 hor g hlt g1 y a b e1; omega))
        omega
      have u : Upto a₀ lo st' st' := ⟨ok, rfl, fun _ _ => rfl⟩
      refine wpS_bind (wp_rev (hjp _ (u.mir (i := lo) (j := lo + n) (Nat.le_refl _) (by omega)) fun i j a b c => ?_))
      show K (mirror (arrOf st') lo (lo + n) _) j ≤ K (mirror (arrOf st') lo (lo + n) _) i
      rw [K_mir_eq (by rw [ok.size]; omega) all, K_mir_eq (by rw [ok.size]; omega) all]
      by_cases e : j < lo + n
      · rw [all i a (by omega), all j (by (clear hn h1 n1 n2 hor g hlt g1 y c e; omega)) e]; exact Int.le_refl _
      · have e : j = lo + n := by omega
        subst e
        by_cases f : i = lo + n
        · rw [f]; exact Int.le_refl _
        · rw [all i a (by omega)]; exact Int.le_of_lt hlt
  · have g1 : ¬ n > 1 := g1
    have e1 : n = 1 := by (clear hn h1 n2 hor g hlt g1; omega)
    refine hjp _ ⟨ok, rfl, fun _ _ => rfl⟩ fun i j a b c => ?_
    by_cases f : i = j
    · rw [f]; exact Int.le_refl _
    · have : i = lo + n - 1 := by (clear hn h1 n2 hor g hlt g1 e1; omega)
      have : j = lo + n := by (clear hn h1 n2 hor g hlt g1 e1; omega)
      subst i j
      exact Int.le_of_lt hlt
end
end Tim

set_option Elab.async false
set_option linter.all false
set_option maxRecDepth 100000
set_option maxHeartbeats 1000000
namespace Tim
open PySem PyProof.Rows
abbrev Run := Nat × Nat × Nat
def Runs (xs : Array Keyed) : Nat → List Run → Nat → Prop
  | a, [], b => a = b
  | a, (s, n, _) :: r, b => s = a ∧ 1 ≤ n ∧ Seg xs s (s + n) ∧ Runs xs (s + n) r b
theorem Runs.le {xs : Array Keyed} : ∀ {l : List Run} {a b : Nat}, Runs xs a l b → a + l.length ≤ b
  | [], a, b, h => by have : a = b := h; simp [this]
  | (s, n, p) :: r, a, b, h => by
    obtain ⟨h1, h2, _, h4⟩ := h
    have := Runs.le h4
    rw [List.length_cons]; omega
theorem Runs.app {xs : Array Keyed} : ∀ {l m : List Run} {a c : Nat}, Runs xs a (l ++ m) c ↔ ∃ b, Runs xs a l b ∧ Runs xs b m c
  | [], m, a, c => ⟨fun h => ⟨a, rfl, h⟩, fun ⟨b, h1, h2⟩ => by have : a = b := h1; subst this; exact h2⟩
  | (s, n, p) :: r, m, a, c => by
    constructor
    · rintro ⟨h1, h2, h3, h4⟩
      obtain ⟨b, h5, h6⟩ := Runs.app.mp h4
      exact ⟨b, ⟨h1, h2, h3, h5⟩, h6⟩
    · rintro ⟨b, ⟨h1, h2, h3, h5⟩, h6⟩
      exact ⟨h1, h2, h3, Runs.app.mpr ⟨b, h5, h6⟩⟩
theorem Seg.congr {xs ys : Array Keyed} {a b : Nat} (h : Seg xs a b) (e : ∀ j, a ≤ j → j < b → K ys j = K xs j) : Seg ys a b := fun i j h1 h2 h3 => by rw [e i h1 (by omega), e j (by omega) h3]; exact h i j h1 h2 h3
theorem Runs.congr {xs ys : Array Keyed} : ∀ {l : List Run} {a b : Nat}, Runs xs a l b → (∀ j, a ≤ j → j < b → K ys j = K xs j) → Runs ys a l b
  | [], a, b, h, _ => h
  | (s, n, p) :: r, a, b, h, e => by
    obtain ⟨h1, h2, h3, h4⟩ := h
    have := Runs.le h4
    exact ⟨h1, h2, h3.congr fun j g1 g2 => e j (by omega) (by omega), Runs.congr h4 fun j g1 g2 => e j (by omega) g2⟩
/-- writing a list into an array -/
theorem wr_list (s : Nat) : ∀ (L : List Keyed) (n : Nat) (a : Array Keyed), s + n + L.length ≤ a.size → ((L.zipIdx n).foldl (fun a (pj : Keyed × Nat) => a.setIfInBounds (s + pj.2) pj.1) a).toList = a.toList.take (s + n) ++ L ++ a.toList.drop (s + n + L.length)
  | [], n, a, h => by simp
  | x :: L, n, a, h => by
    rw [List.zipIdx_cons, List.foldl_cons, wr_list s L (n + 1) _ (by rw [List.length_cons] at h; rw [Array.size_setIfInBounds]; omega)]
    rw [List.length_cons] at h
    have hl : a.toList.length = a.size := Array.length_toList
    rw [Array.toList_setIfInBounds]
    have e1 : (a.toList.set (s + n) x).take (s + (n + 1)) = a.toList.take (s + n) ++ [x] := by
      rw [show s + (n + 1) = s + n + 1 by omega, List.take_succ, List.take_set_of_le (Nat.le_refl _), List.getElem?_set_self (by omega)]
      rfl
    have e2 : (a.toList.set (s + n) x).drop (s + (n + 1) + L.length) = a.toList.drop (s + n + (x :: L).length) := by
      rw [List.drop_set_of_lt (by omega), List.length_cons]
      congr 1; omega
    rw [e1, e2, List.append_assoc, List.append_assoc, List.append_assoc]
    rfl
theorem K_list {a : Array Keyed} {j : Nat} : K a j = match a.toList[j]? with | some p => kz p | none => 0 := by
  unfold K; rw [Array.getElem?_toList]; rfl
theorem split3 {α : Type} (L : List α) {lo mid hi : Nat} (h1 : lo ≤ mid) (h2 : mid ≤ hi) : L = L.take lo ++ ((L.drop lo).take (mid - lo) ++ (L.drop mid).take (hi - mid)) ++ L.drop hi := by
  have d1 := (List.take_append_drop lo L).symm
  have d2 := (List.take_append_drop (mid - lo) (L.drop lo)).symm
  have d3 := (List.take_append_drop (hi - mid) (L.drop mid)).symm
  rw [List.drop_drop, Nat.add_sub_cancel' h1] at d2
  rw [List.drop_drop, Nat.add_sub_cancel' h2] at d3
  rw [List.append_assoc, List.append_assoc, ← d3, ← d2, ← d1]
theorem ext_list (xs : Array Keyed) (i j : Nat) : (xs.extract i j).toList = (xs.toList.drop i).take (j - i) := by rw [Array.toList_extract, List.extract_eq_take_drop]
theorem ext_size {xs : Array Keyed} {i j : Nat} (hj : j ≤ xs.size) : (xs.extract i j).size = j - i := by rw [Array.size_extract, Nat.min_eq_left hj]
theorem K_ext {xs : Array Keyed} {i j m : Nat} (hj : j ≤ xs.size) (h : m < j - i) : K (xs.extract i j) m = K xs (i + m) := by unfold K; rw [Array.getElem?_extract, if_pos (by rw [Nat.min_eq_left hj]; exact h)]
theorem AllI.ext {xs : Array Keyed} {i j : Nat} (h : AllI xs) (hj : j ≤ xs.size) : AllI (xs.extract i j) := fun m hm => by
  rw [ext_size hj] at hm
  obtain ⟨p, e, q⟩ := h (i + m) (by clear h; omega)
  exact ⟨p, by rw [Array.getElem?_extract, if_pos (by rw [Nat.min_eq_left hj]; exact hm)]; exact e, q⟩
theorem Seg.ext {xs : Array Keyed} {i j : Nat} (h : Seg xs i j) (hj : j ≤ xs.size) : Srt (xs.extract i j) := Srt.of fun m n h1 h2 => by
  rw [ext_size hj] at h2
  rw [K_ext hj (Nat.lt_of_le_of_lt h1 h2), K_ext hj h2]
  exact h _ _ (Nat.le_add_right _ _) (Nat.add_le_add_left h1 _) (by clear h hj h1; omega)
/-- what stands behind a merge of the places from lo to hi -/
structure Mgd (xs X : Array Keyed) (lo hi : Nat) : Prop where
  perm : X.toList.Perm xs.toList
  out : ∀ j, j < lo ∨ hi ≤ j → K X j = K xs j
  seg : Seg X lo hi
  frm : ∀ j, lo ≤ j → j < hi → ∃ i, lo ≤ i ∧ i < hi ∧ K X j = K xs i
theorem sub_lt_sub {i lo hi : Nat} (h1 : lo ≤ i) (h2 : i < hi) : i - lo < hi - lo := by omega
theorem merged {xs X r : Array Keyed} {lo mid hi : Nat} (h1 : lo ≤ mid) (h2 : mid ≤ hi) (h3 : hi ≤ xs.size) (hf : Fin (xs.extract lo mid) (xs.extract mid hi) r) (hX : X.toList = xs.toList.take lo ++ r.toList ++ xs.toList.drop hi) : Mgd xs X lo hi := by
  obtain ⟨hp, hs⟩ := hf
  have h4 := Nat.le_trans h1 h2
  have lr : r.size = hi - lo := by
    have := hp.length_eq
    rw [List.length_append, Array.length_toList, Array.length_toList, Array.length_toList, ext_size (Nat.le_trans h2 h3), ext_size h3] at this
    clear hp hs hX h3 h4
    omega
  have lP : (xs.toList.take lo).length = lo := by rw [List.length_take, Array.length_toList]; exact Nat.min_eq_left (Nat.le_trans h4 h3)
  have lQ : (xs.toList.take lo ++ r.toList).length = hi := by rw [List.length_append, lP, Array.length_toList, lr]; exact Nat.add_sub_cancel' h4
  have mid : ∀ j, lo ≤ j → j < hi → K X j = K r (j - lo) := fun j g1 g2 => by
    rw [K_list, K_list, hX, List.getElem?_append_left (by rw [lQ]; exact g2), List.getElem?_append_right (by rw [lP]; exact g1), lP]
  refine ⟨?_, fun j hj => ?_, fun i j g1 g2 g3 => ?_, fun j g1 g2 => ?_⟩
  · rw [hX]
    rw [ext_list, ext_list] at hp
    exact ((hp.append_left _).append_right _).trans (.of_eq (split3 xs.toList h1 h2).symm)
  · rw [K_list, K_list, hX]
    rcases hj with hj | hj
    · rw [List.append_assoc, List.getElem?_append_left (by rw [lP]; exact hj), List.getElem?_take_of_lt hj]
    · rw [List.getElem?_append_right (by rw [lQ]; exact hj), lQ, List.getElem?_drop, Nat.add_sub_cancel' hj]
  · rw [mid i g1 (Nat.lt_of_le_of_lt g2 g3), mid j (Nat.le_trans g1 g2) g3]
    exact hs.le (Nat.sub_le_sub_right g2 _) (by rw [lr]; exact sub_lt_sub (Nat.le_trans g1 g2) g3)
  · obtain ⟨p, e, m, ek⟩ := K_el (a := r) (i := j - lo) (by rw [lr]; exact sub_lt_sub g1 g2)
    rw [mid j g1 g2, ek]
    rw [ext_list, ext_list] at hp
    rcases List.mem_append.mp (hp.mem_iff.mp m) with z | z
    · obtain ⟨i, q1, _, q3⟩ := ext_mem z
      exact ⟨_, Nat.le_add_right _ _, Nat.lt_of_lt_of_le (Nat.add_lt_of_lt_sub' q1) h2, q3⟩
    · obtain ⟨i, q1, _, q3⟩ := ext_mem z
      exact ⟨_, Nat.le_trans h1 (Nat.le_add_right _ _), Nat.add_lt_of_lt_sub' q1, q3⟩
/-- what is sorted ahead and behind is sorted as a whole once the middle has been merged -/
theorem seg_merge {xs X : Array Keyed} {sa lo mid hi en : Nat} (m : Mgd xs X lo hi) (h2 : lo < mid) (h3 : mid < hi) (sA : Seg xs sa mid) (sB : Seg xs mid en)
    (ge : ∀ i, sa ≤ i → i < lo → K xs i ≤ K xs mid) (gt : ∀ i, lo ≤ i → i < mid → K xs mid ≤ K xs i) (le : ∀ j, mid ≤ j → j < hi → K xs j ≤ K xs (mid - 1)) (le2 : ∀ j, hi ≤ j → j < en → K xs (mid - 1) ≤ K xs j) (h1 : sa ≤ lo) (h4 : hi ≤ en) : Seg X sa en := by
  have lm : mid - 1 < mid := Nat.sub_one_lt (Nat.ne_of_gt (Nat.lt_of_le_of_lt (Nat.zero_le _) h2))
  have lo1 : ∀ i, lo ≤ i → i < hi → K xs mid ≤ K xs i := fun i g1 g2 => by
    by_cases c : i < mid
    · exact gt i g1 c
    · exact sB mid i (Nat.le_refl _) (Nat.not_lt.mp c) (Nat.lt_of_lt_of_le g2 h4)
  have hi1 : ∀ i, lo ≤ i → i < hi → K xs i ≤ K xs (mid - 1) := fun i g1 g2 => by
    by_cases c : i < mid
    · exact sA i _ (Nat.le_trans h1 g1) (Nat.le_sub_one_of_lt c) lm
    · exact le i (Nat.not_lt.mp c) g2
  have ab : K xs mid ≤ K xs (mid - 1) := gt _ (Nat.le_sub_one_of_lt h2) lm
  intro i j g1 g2 g3
  by_cases c1 : j < lo
  · rw [m.out i (.inl (Nat.lt_of_le_of_lt g2 c1)), m.out j (.inl c1)]
    exact sA i j g1 g2 (Nat.lt_trans c1 h2)
  by_cases c2 : hi ≤ i
  · rw [m.out i (.inr c2), m.out j (.inr (Nat.le_trans c2 g2))]
    exact sB i j (Nat.le_trans (Nat.le_of_lt h3) c2) g2 g3
  have c1 := Nat.not_lt.mp c1
  have c2 := Nat.not_le.mp c2
  by_cases c3 : i < lo
  · rw [m.out i (.inl c3)]
    refine Int.le_trans (ge i g1 c3) ?_
    by_cases c4 : j < hi
    · obtain ⟨q, q1, q2, e⟩ := m.frm j c1 c4
      rw [e]; exact lo1 q q1 q2
    · rw [m.out j (.inr (Nat.not_lt.mp c4))]
      exact Int.le_trans ab (le2 j (Nat.not_lt.mp c4) g3)
  · have c3 := Nat.not_lt.mp c3
    by_cases c4 : j < hi
    · exact m.seg i j c3 g2 c4
    · obtain ⟨q, q1, q2, e⟩ := m.frm i c3 c2
      rw [m.out j (.inr (Nat.not_lt.mp c4)), e]
      exact Int.le_trans (hi1 q q1 q2) (le2 j (Nat.not_lt.mp c4) g3)
theorem seg_app {xs : Array Keyed} {sa mid en : Nat} (sA : Seg xs sa mid) (sB : Seg xs mid en) (h : ∀ i j, sa ≤ i → i < mid → mid ≤ j → j < en → K xs i ≤ K xs j) : Seg xs sa en := fun i j h1 h2 h3 => by
  by_cases c1 : j < mid
  · exact sA i j h1 h2 c1
  · by_cases c2 : i < mid
    · exact h i j h1 c2 (Nat.not_lt.mp c1) h3
    · exact sB i j (Nat.not_lt.mp c2) h2 h3
theorem of_off {P : Nat → Prop} {a n : Nat} (h : ∀ i, i < n → P (a + i)) : ∀ i, a ≤ i → i < a + n → P i := fun i h1 h2 => by
  have := h (i - a) (Nat.sub_lt_left_of_lt_add h1 h2)
  rwa [Nat.add_sub_cancel' h1] at this
theorem of_off2 {P : Nat → Prop} {a k n : Nat} (h : ∀ i, k ≤ i → i < n → P (a + i)) : ∀ i, a + k ≤ i → i < a + n → P i := fun i h1 h2 => by
  have h3 := Nat.le_trans (Nat.le_add_right a k) h1
  have := h (i - a) (Nat.le_sub_of_add_le' h1) (Nat.sub_lt_left_of_lt_add h3 h2)
  rwa [Nat.add_sub_cancel' h3] at this
section
variable {a₀ : Array Keyed} {prog : Program} {w : World} {A : Around} {E : Value → Shared → Prop} {s : Shared}
theorem wpS_set {σ : Type} {M : Model} {Q : PUnit → σ → Prop} {st st1 : σ} (h : Q ⟨⟩ st1) : wpS M A E s (set st1 : StateT σ Sem PUnit) Q st := by
  unfold wpS; rw [StateT.run_set]; exact wpAny_pure ⟨rfl, h⟩
theorem wpS_setP {σ : Type} {M : Model} {Q : PUnit → σ → Prop} {st st1 : σ} (P : σ → Prop) (hP : P st1) (h : ∀ st2, P st2 → Q ⟨⟩ st2) : wpS M A E s (set st1 : StateT σ Sem PUnit) Q st := wpS_set (h _ hP)
theorem wp_mAt {st : SortSt} {i sa na p sb nb q : Nat} {L1 L2 : List Run} {Q : Bool → SortSt → Prop} (h0 : IntKeys a₀) (ok : Ok a₀ st) (hp : (pendingOf st).toList = L1 ++ (sa, na, p) :: (sb, nb, q) :: L2) (hi : L1.length = i) (hsb : sb = sa + na) (ha : 0 < na) (hb : 0 < nb)
    (hsz : sb + nb ≤ a₀.size) (sA : Seg (arrOf st) sa sb) (sB : Seg (arrOf st) sb (sb + nb))
    (h : ∀ st', Ok a₀ st' → (pendingOf st').toList = L1 ++ (sa, na + nb, p) :: L2 → (∀ j, (j < sa ∨ sb + nb ≤ j) → K (arrOf st') j = K (arrOf st) j) → Seg (arrOf st') sa (sb + nb) → Q true st') : wpS (model prog w) A E s (mergeAt' i) Q st := by
  have e1 : (pendingOf st)[i]? = some (sa, na, p) := by rw [← Array.getElem?_toList, hp, ← hi]; simp
  have e2 : (pendingOf st)[i + 1]? = some (sb, nb, q) := by rw [← Array.getElem?_toList, hp, ← hi]; simp
  have hp' : (((pendingOf st).setIfInBounds i (sa, na + nb, p)).eraseIdxIfInBounds (i + 1)).toList = L1 ++ (sa, na + nb, p) :: L2 := by
    rw [Array.toList_eraseIdxIfInBounds, Array.toList_setIfInBounds, hp, ← hi]
    rw [List.set_append_right _ _ (Nat.le_refl _), Nat.sub_self, List.eraseIdx_append_of_length_le (Nat.le_add_right _ 1), Nat.add_sub_cancel_left]
    rfl
  refine wpS_bind (wpS_get ?_)
  rw [e1, e2]
  dsimp -zeta only
  refine wpS_bind (wpS_setP (fun x => Ok a₀ x ∧ arrOf x = arrOf st ∧ (pendingOf x).toList = L1 ++ (sa, na + nb, p) :: L2) ⟨⟨ok.perm, ok.kind, ok.fine⟩, rfl, hp'⟩ ?_)
  rintro st1 ⟨ok1, ar1, pe1⟩
  have hall := ok.all h0
  have hperm := ok.perm
  rw [← ok.size] at hsz
  clear hp' hp hi e1 e2
  have hs : sb < (arrOf st).size := Nat.lt_of_lt_of_le (Nat.lt_add_of_pos_right hb) hsz
  obtain ⟨pb, eb, ipb, kb⟩ := ai_el hall hs
  refine wpS_bind (wp_el eb (wpS_bind (wp_galR ok1.kind ipb hall (show sa + na ≤ (arrOf st).size from hsb ▸ Nat.le_of_lt hs) ha (fun i j h1 h2 h3 => sA i j h1 h2 (hsb ▸ h3)) fun k k1 k2 k3 => ?_)))
  rw [← kb] at k2 k3
  have ge : ∀ i, sa ≤ i → i < sa + k → K (arrOf st) i ≤ K (arrOf st) sb := of_off k2
  have gt : ∀ i, sa + k ≤ i → i < sb → K (arrOf st) sb ≤ K (arrOf st) i := fun i g1 g2 => Int.le_of_lt (of_off2 (P := fun i => K (arrOf st) sb < K (arrOf st) i) k3 i g1 (hsb ▸ g2))
  clear k2 k3
  have fin1 : (∀ i j, sa ≤ i → i < sb → sb ≤ j → j < sb + nb → K (arrOf st) i ≤ K (arrOf st) j) → Q true st1 := fun z => h st1 ok1 pe1 (fun j _ => by rw [ar1]) (by rw [ar1]; exact seg_app sA sB z)
  dsimp -zeta only
  refine wpS_ite (fun g => ?_) fun g => ?_
  · have g : na - k = 0 := eq_of_beq g
    exact wpS_pure (fin1 fun i j h1 h2 h3 h4 => Int.le_trans (ge i h1 (by clear ge gt fin1 h sA sB eb hall kb; omega)) (sB sb j (Nat.le_refl _) h3 h4))
  have g : sa + k < sb := by
    have : na - k ≠ 0 := fun z => g (beq_iff_eq.mpr z)
    clear g ge gt fin1 h sA sB eb hall kb
    omega
  have em : sa + k + (na - k) - 1 = sb - 1 := by clear ge gt fin1 h sA sB eb hall kb; omega
  have lm : sb - 1 < sb := Nat.sub_one_lt (Nat.ne_of_gt (Nat.lt_of_le_of_lt (Nat.zero_le _) g))
  obtain ⟨pa, ea, ipa, ka⟩ := ai_el hall (show sa + k + (na - k) - 1 < (arrOf st).size from em ▸ Nat.lt_trans lm hs)
  refine wpS_bind (wp_el ea (wpS_bind (wp_galL ok1.kind ipa hall hsz (Nat.sub_one_lt (Nat.ne_of_gt hb)) sB fun l l1 l2 l3 => ?_)))
  rw [em] at ka
  rw [← ka] at l2 l3
  have le : ∀ j, sb ≤ j → j < sb + l → K (arrOf st) j ≤ K (arrOf st) (sb - 1) := of_off fun i z => Int.le_of_lt (l2 i z)
  have le2 : ∀ j, sb + l ≤ j → j < sb + nb → K (arrOf st) (sb - 1) ≤ K (arrOf st) j := of_off2 l3
  clear l2 l3
  dsimp -zeta only
  refine wpS_ite (fun g => ?_) fun g' => ?_
  · have g : l = 0 := eq_of_beq g
    subst g
    exact wpS_pure (fin1 fun i j h1 h2 h3 h4 => Int.le_trans (sA i (sb - 1) h1 (Nat.le_sub_one_of_lt h2) lm) (le2 j h3 h4))
  have gl : sb < sb + l := Nat.lt_add_of_pos_right (Nat.pos_of_ne_zero fun z => g' (beq_iff_eq.mpr z))
  have hl : sb + l ≤ (arrOf st).size := Nat.le_trans (Nat.add_le_add_left l1 _) hsz
  clear g' fin1 em
  have hx : ((arrOf st).extract (sa + k) sb).size = sb - (sa + k) := ext_size (Nat.le_of_lt hs)
  have hy : ((arrOf st).extract sb (sb + l)).size = sb + l - sb := ext_size hl
  have px : 0 < sb - (sa + k) := Nat.sub_pos_of_lt g
  have py : 0 < sb + l - sb := Nat.sub_pos_of_lt gl
  have Kx : ∀ j, j < sb - (sa + k) → K (arrOf st) sb ≤ K ((arrOf st).extract (sa + k) sb) j := fun j hj => by rw [K_ext (Nat.le_of_lt hs) hj]; exact gt _ (Nat.le_add_right _ _) (Nat.add_lt_of_lt_sub' hj)
  have Ky : ∀ j, j < sb + l - sb → K ((arrOf st).extract sb (sb + l)) j ≤ K (arrOf st) (sb - 1) := fun j hj => by rw [K_ext hl hj]; exact le _ (Nat.le_add_right _ _) (Nat.add_lt_of_lt_sub' hj)
  have Sx : Srt ((arrOf st).extract (sa + k) sb) := Seg.ext (fun i j a b c => sA i j (Nat.le_trans (Nat.le_add_right _ _) a) b c) (Nat.le_of_lt hs)
  have Sy : Srt ((arrOf st).extract sb (sb + l)) := Seg.ext (fun i j a b c => sB i j a b (Nat.lt_of_lt_of_le c (Nat.add_le_add_left l1 _))) hl
  have b2 : K ((arrOf st).extract sb (sb + l)) 0 = K (arrOf st) sb := K_ext hl py
  have b3 : K ((arrOf st).extract (sa + k) sb) (sb - (sa + k) - 1) = K (arrOf st) (sb - 1) := by rw [K_ext (Nat.le_of_lt hs) (Nat.sub_one_lt (Nat.ne_of_gt px)), ← Nat.add_sub_assoc px, Nat.add_sub_cancel' (Nat.le_of_lt g)]
  extract_lets x y jp
  have hjp : ∀ r st2, Like st1 st2 → Fin ((arrOf st).extract (sa + k) sb) ((arrOf st).extract sb (sb + l)) r → wpS (model prog w) A E s (jp r) Q st2 := by
    intro r st2 hL hf
    have ar2 : arrOf st2 = arrOf st := hL.2.1.trans ar1
    have hrl : sa + k + r.toList.length = sb + l := by
      have := hf.1.length_eq
      rw [List.length_append, Array.length_toList, Array.length_toList, Array.length_toList, hx, hy] at this
      rw [Array.length_toList, this]
      clear this hf ge gt h sA sB eb hall kb le le2 Kx Ky Sx Sy b2 b3 ea ka hx hy
      omega
    have W := (wr_list (sa + k) r.toList 0 (arrOf st2) (by rw [ar2, Nat.add_zero, hrl]; exact hl)).trans (show _ = (arrOf st).toList.take (sa + k) ++ r.toList ++ (arrOf st).toList.drop (sb + l) by rw [ar2, Nat.add_zero, hrl])
    refine wpS_bind (wpS_modify ?_)
    refine wpS_bind (wpS_get (wpS_pure ?_))
    have fn : (failedOf st2).isNone = true := by rw [hL.2.2.2, ok1.fine]; rfl
    show Q (failedOf st2).isNone _
    rw [fn]
    have m := merged (Nat.le_of_lt g) (Nat.le_of_lt gl) hl hf W
    refine h _ ⟨Array.perm_iff_toList_perm.mpr (m.perm.trans (Array.perm_iff_toList_perm.mp hperm)), hL.1.trans ok1.kind, hL.2.2.2.trans ok1.fine⟩ (by show (pendingOf st2).toList = _; rw [hL.2.2.1]; exact pe1) (fun j hj => m.out j (hj.imp (fun z => Nat.lt_of_lt_of_le z (Nat.le_add_right _ _)) fun z => Nat.le_trans (Nat.add_le_add_left l1 _) z)) (seg_merge m g gl sA sB ge gt le le2 (Nat.le_add_right _ _) (Nat.add_le_add_left l1 _))
  clear_value jp
  have k0 : ∀ j, j < ((arrOf st).extract sb (sb + l)).size → K ((arrOf st).extract sb (sb + l)) j ≤ K ((arrOf st).extract (sa + k) sb) (((arrOf st).extract (sa + k) sb).size - 1) := fun j hj => by rw [hx, b3]; rw [hy] at hj; exact Ky j hj
  refine wpS_ite (fun g => ?_) fun g => ?_
  · exact wpS_bind (wp_mLo (a := (arrOf st).extract (sa + k) sb) (b := (arrOf st).extract sb (sb + l)) ok1.kind (hall.ext (Nat.le_of_lt hs)) (hall.ext hl) Sx Sy (by rw [hx]; exact px) (by rw [hy]; exact py) (by rw [b2]; exact Kx 0 px) k0 hjp)
  · exact wpS_bind (wp_mHi (a := (arrOf st).extract (sa + k) sb) (b := (arrOf st).extract sb (sb + l)) ok1.kind (hall.ext (Nat.le_of_lt hs)) (hall.ext hl) Sx Sy (by rw [hx]; exact px) (by rw [hy]; exact py) (fun j hj => by rw [b2]; rw [hx] at hj; exact Kx j hj) k0 hjp)
end
end Tim

set_option Elab.async false
set_option linter.all false
set_option maxRecDepth 100000
set_option maxHeartbeats 1000000
namespace Tim
open PySem PyProof.Rows
theorem split2 {α : Type} (L : List α) (i : Nat) (h : i + 1 < L.length) : L = L.take i ++ L[i] :: L[i + 1] :: L.drop (i + 2) := by
  have e := (List.take_append_drop i L).symm
  rw [List.drop_eq_getElem_cons (by omega), List.drop_eq_getElem_cons (i := i + 1) h] at e
  exact e
section
variable {a₀ : Array Keyed} {prog : Program} {w : World} {A : Around} {E : Value → Shared → Prop} {s : Shared}
theorem wp_mRuns {st : SortSt} {i lo : Nat} {Q : Bool → SortSt → Prop} (h0 : IntKeys a₀) (ok : Ok a₀ st) (hr : Runs (arrOf st) 0 (pendingOf st).toList lo) (hlo : lo ≤ a₀.size) (hi : i + 1 < (pendingOf st).size)
    (h : ∀ st', Ok a₀ st' → (pendingOf st').size + 1 = (pendingOf st).size → Runs (arrOf st') 0 (pendingOf st').toList lo → (∀ j, lo ≤ j → K (arrOf st') j = K (arrOf st) j) → Q true st') : wpS (model prog w) A E s (mergeAt' i) Q st := by
  have hl : (pendingOf st).toList.length = (pendingOf st).size := Array.length_toList
  have sp := split2 (pendingOf st).toList i (by omega)
  have lt : ((pendingOf st).toList.take i).length = i := by rw [List.length_take]; omega
  generalize (pendingOf st).toList.take i = L1 at sp lt
  generalize (pendingOf st).toList.drop (i + 2) = L2 at sp
  generalize (pendingOf st).toList[i] = x at sp
  generalize (pendingOf st).toList[i + 1] = y at sp
  obtain ⟨sa, na, p⟩ := x
  obtain ⟨sb, nb, q⟩ := y
  rw [sp] at hr
  obtain ⟨b, r1, r2⟩ := Runs.app.mp hr
  obtain ⟨g1, g2, g3, g4, g5, g6, r3⟩ := r2
  have hle := r3.le
  have hle1 := r1.le
  refine wp_mAt h0 ok sp lt g4 (by omega) (by omega) (by omega) (by rw [g4]; exact g3) g6 fun st' ok' hp' sm sg => ?_
  refine h st' ok' ?_ ?_ fun j hj => sm j (.inr (by omega))
  · have h1 : (pendingOf st').toList.length = (pendingOf st').size := Array.length_toList
    rw [← h1, ← hl, sp, hp']; simp only [List.length_append, List.length_cons]; omega
  · rw [hp']
    refine Runs.app.mpr ⟨b, r1.congr fun j _ hj => sm j (.inl (by omega)), g1, by omega, ?_, ?_⟩
    · rw [show sa + (na + nb) = sb + nb by omega]; exact sg
    · rw [show sa + (na + nb) = sb + nb by omega]
      exact r3.congr fun j hj _ => sm j (.inr hj)
theorem Runs.power {xs : Array Keyed} (f : Run → Run) (hf : ∀ r, (f r).1 = r.1 ∧ (f r).2.1 = r.2.1) : ∀ {l : List Run} {a b : Nat}, Runs xs a l b → ∀ i, Runs xs a (l.modify i f) b
  | [], a, b, h, i => by rw [List.modify_nil]; exact h
  | (s, n, p) :: r, a, b, h, 0 => by
    rw [List.modify_zero_cons]
    have := hf (s, n, p)
    obtain ⟨h1, h2, h3, h4⟩ := h
    cases e : f (s, n, p) with
    | mk s' np =>
      obtain ⟨n', p'⟩ := np
      rw [e] at this
      have e1 : s' = s := this.1
      have e2 : n' = n := this.2
      subst e1 e2
      exact ⟨h1, h2, h3, h4⟩
  | (s, n, p) :: r, a, b, h, i + 1 => by
    rw [List.modify_succ_cons]
    obtain ⟨h1, h2, h3, h4⟩ := h
    exact ⟨h1, h2, h3, Runs.power f hf h4 i⟩
theorem wp_sort {st : SortSt} {Q : Unit → SortSt → Prop} (h0 : IntKeys a₀) (ok : Ok a₀ st) (hp : pendingOf st = #[]) (h2 : 2 ≤ a₀.size) (h : ∀ st', Ok a₀ st' → Seg (arrOf st') 0 a₀.size → Q () st') : wpS (model prog w) A E s sortRuns' Q st := by
  refine wpS_bind (wpS_get ?_)
  extract_lets size minrun lo0
  have hsz : size = a₀.size := ok.size
  clear_value size minrun
  subst hsz
  refine wpS_bind (wpS_mono (wpS_forRange (I := fun x c st' => ∃ lo, c = (none, lo) ∧ x ≤ lo ∧ lo ≤ a₀.size ∧ Ok a₀ st' ∧ Runs (arrOf st') 0 (pendingOf st').toList lo)
    (Q := fun c st' => c = (none, a₀.size) ∧ Ok a₀ st' ∧ Runs (arrOf st') 0 (pendingOf st').toList a₀.size) ?st ?fi ⟨0, rfl, Nat.le_refl _, Nat.zero_le _, ok, by rw [hp]; rfl⟩) ?po)
  case fi =>
    rintro c st' ⟨lo, rfl, a, b, ok', r⟩
    have : lo = a₀.size := by omega
    subst this
    exact ⟨rfl, ok', r⟩
  case po =>
    rintro c st' ⟨rfl, ok', r⟩
    extract_lets
    refine wpS_bind (wpS_mono (wpS_forRange (I := fun x c st'' => c = (none, ()) ∧ Ok a₀ st'' ∧ Runs (arrOf st'') 0 (pendingOf st'').toList a₀.size ∧ ((pendingOf st'').size ≤ 1 ∨ (pendingOf st'').size + x ≤ a₀.size)) (Q := fun c st'' => c = (none, ()) ∧ Ok a₀ st'' ∧ Runs (arrOf st'') 0 (pendingOf st'').toList a₀.size ∧ (pendingOf st'').size ≤ 1) ?_ ?_ ⟨rfl, ok', r, .inr (by have := r.le; rw [Array.length_toList] at this; omega)⟩) ?_)
    · rintro x c st'' _ hx ⟨rfl, ok2, r2, hor⟩
      refine wpS_bind (wpS_get ?_)
      extract_lets p i before i2
      refine wpS_ite (fun g => wpS_pure ⟨rfl, ok2, r2, g⟩) fun g => ?_
      have g : ¬ (pendingOf st'').size ≤ 1 := g
      have hi : i2 ≤ (pendingOf st'').size - 2 := by
        show (if _ then _ else _) ≤ _
        split
        · show (pendingOf st'').size - 2 - 1 ≤ _; omega
        · exact Nat.le_refl _
      clear_value i2
      refine wpS_bind (wp_mRuns h0 ok2 r2 (Nat.le_refl _) (by omega) fun st3 ok3 e3 r3 _ => ?_)
      exact wpS_pure ⟨rfl, ok3, r3, .inr (by omega)⟩
    · rintro c st'' ⟨rfl, ok2, r2, hor⟩
      exact ⟨rfl, ok2, r2, by omega⟩
    · rintro c st'' ⟨rfl, ok2, r2, hle⟩
      refine wpS_pure (h st'' ok2 ?_)
      have hl : (pendingOf st'').toList.length = (pendingOf st'').size := Array.length_toList
      rw [← hl] at hle
      match e : (pendingOf st'').toList, hle with
      | [], _ =>
        rw [e] at r2
        have : 0 = a₀.size := r2
        omega
      | [(sa, na, p)], _ =>
        rw [e] at r2
        obtain ⟨g1, g2, g3, g4⟩ := r2
        have g4 : sa + na = a₀.size := g4
        rw [g4, g1] at g3
        exact g3
      | _ :: _ :: _, z => simp at z
  case st =>
    rintro x c st' _ hx ⟨lo, rfl, a, b, ok', r⟩
    extract_lets lo' jp force n'
    refine wpS_ite (fun g => ?_) fun g => ?_
    · have g : lo ≥ a₀.size := g
      have : lo = a₀.size := by omega
      subst this
      exact wpS_pure ⟨rfl, ok', r⟩
    have g : ¬ lo ≥ a₀.size := g
    refine wpS_bind (wp_count h0 (show lo + (a₀.size - lo) ≤ a₀.size by omega) (show 1 ≤ a₀.size - lo by omega) ok' fun m st2 u2 m1 m2 s2 => ?_)
    have m2 : m ≤ a₀.size - lo := m2
    have s2 : Seg (arrOf st2) lo (lo + m) := s2
    dsimp -zeta only
    extract_lets n
    have hjp : ∀ n st3, Upto a₀ lo st' st3 → 1 ≤ n → n ≤ a₀.size - lo → Seg (arrOf st3) lo (lo + n) → wpS (model prog w) A E s (jp () n) (fun r st' => match r with
        | .done c' => c' = (none, a₀.size) ∧ Ok a₀ st' ∧ Runs (arrOf st') 0 (pendingOf st').toList a₀.size
        | .yield c' => ∃ lo, c' = (none, lo) ∧ x + 1 ≤ lo ∧ lo ≤ a₀.size ∧ Ok a₀ st' ∧ Runs (arrOf st') 0 (pendingOf st').toList lo) st3 := by
      intro n st3 u3 n1 n2 s3
      have r3 : Runs (arrOf st3) 0 (pendingOf st3).toList lo := by
        rw [u3.pend]
        exact r.congr fun j _ hj => u3.same j hj
      refine wpS_bind (wpS_get ?_)
      extract_lets ln jq
      have hjq : ∀ st4, Ok a₀ st4 → Runs (arrOf st4) 0 (pendingOf st4).toList lo → Seg (arrOf st4) lo (lo + n) → wpS (model prog w) A E s (jq ()) (fun r st' => match r with
          | .done c' => c' = (none, a₀.size) ∧ Ok a₀ st' ∧ Runs (arrOf st') 0 (pendingOf st').toList a₀.size
          | .yield c' => ∃ lo, c' = (none, lo) ∧ x + 1 ≤ lo ∧ lo ≤ a₀.size ∧ Ok a₀ st' ∧ Runs (arrOf st') 0 (pendingOf st').toList lo) st4 := by
        intro st4 ok4 r4 s4
        refine wpS_bind (wpS_modify (wpS_pure ⟨lo + n, rfl, by omega, by omega, ⟨ok4.perm, ok4.kind, ok4.fine⟩, ?_⟩))
        show Runs (arrOf st4) 0 ((pendingOf st4).push (lo, n, 0)).toList (lo + n)
        rw [Array.toList_push]
        exact Runs.app.mpr ⟨lo, r4, rfl, n1, s4, rfl⟩
      clear_value jq
      have ok3 := u3.ok
      clear u3
      cases hbk : (pendingOf st3).back? with
      | none => exact hjq st3 ok3 r3 s3
      | some t =>
        obtain ⟨s1, n1', q1⟩ := t
        dsimp -zeta only
        extract_lets pw
        clear_value pw
        refine wpS_bind (wpS_mono (wpS_forRange (I := fun y c st4 => c = (none, ()) ∧ Ok a₀ st4 ∧ Runs (arrOf st4) 0 (pendingOf st4).toList lo ∧ Seg (arrOf st4) lo (lo + n)) (Q := fun c st4 => c = (none, ()) ∧ Ok a₀ st4 ∧ Runs (arrOf st4) 0 (pendingOf st4).toList lo ∧ Seg (arrOf st4) lo (lo + n)) ?_ ?_ ⟨rfl, ok3, r3, s3⟩) ?_)
        · rintro y c st4 _ hy ⟨rfl, ok4, r4, s4⟩
          refine wpS_bind (wpS_get ?_)
          extract_lets p
          have hpp : p = pendingOf st4 := rfl
          clear_value p
          subst hpp
          by_cases g : (pendingOf st4).size > 1
          · rw [if_pos g]
            have e : (pendingOf st4)[(pendingOf st4).size - 2]? = some (pendingOf st4)[(pendingOf st4).size - 2] := Array.getElem?_eq_getElem (by omega)
            rw [e]
            generalize (pendingOf st4)[(pendingOf st4).size - 2] = t
            obtain ⟨t1, t2, t3⟩ := t
            dsimp -zeta only
            refine wpS_ite (fun _ => wpS_pure ⟨rfl, ok4, r4, s4⟩) fun _ => ?_
            refine wpS_bind (wp_mRuns h0 ok4 r4 b (by omega) fun st5 ok5 e5 r5 k5 => ?_)
            exact wpS_pure ⟨rfl, ok5, r5, s4.congr fun j hj _ => k5 j hj⟩
          · rw [if_neg g]
            exact wpS_pure ⟨rfl, ok4, r4, s4⟩
        · rintro c st4 hh
          exact hh
        · rintro c st4 ⟨rfl, ok4, r4, s4⟩
          refine wpS_bind (wpS_modify (hjq _ ⟨ok4.perm, ok4.kind, ok4.fine⟩ ?_ s4))
          show Runs (arrOf st4) 0 ((pendingOf st4).modify ((pendingOf st4).size - 1) _).toList lo
          rw [Array.toList_modify]
          exact Runs.power (fun x => (x.1, x.2.1, pw)) (fun r => ⟨rfl, rfl⟩) r4 _
    clear_value jp
    refine wpS_ite (fun g => ?_) fun g => wpS_mono (hjp m st2 u2 m1 m2 s2) fun r st' z => by cases r <;> exact z
    have g : m < minrun := g
    refine wpS_bind (wpS_lift (wpAny_rule (And.intro rfl ?_)))
    refine wpS_bind (wp_bin h0 (show lo + min (a₀.size - lo) minrun ≤ a₀.size by omega) (show m ≤ min (a₀.size - lo) minrun by omega) u2.ok s2 fun st3 u3 s3 => ?_)
    have u3' : Upto a₀ lo st' st3 := ⟨u3.ok, u3.pend.trans u2.pend, fun j hj => (u3.same j hj).trans (u2.same j hj)⟩
    exact wpS_mono (hjp (min (a₀.size - lo) minrun) st3 u3' (by omega) (by omega) s3) fun r st' z => by cases r <;> exact z
end
end Tim

set_option Elab.async false
set_option linter.all false
set_option maxRecDepth 100000
set_option maxHeartbeats 1000000
/-! list.sort and sorted, of whole numbers, any length. -/
namespace Tim
open PySem PyProof.Rows
section
variable {prog : Program} {w : World} {A : Around} {E : Value → Shared → Prop} {s : Shared}
theorem tree_sort {a : Addr} {vs : List Value} {ns : List Int} {n : Nat} {P : PySem.Fin → Shared → Prop} (ho : s.heap.get? a = some (seqObj "list" vs.toArray n)) (hI : IntsAre vs ns) (hz : vs.length ≤ sizeLine)
    (h : ∀ (out : Array Value) (ms : List Int), IntsAre out.toList ms → ms.Perm ns → ms.Pairwise (· ≤ ·) → P (.done (.ret .none)) { s with heap := sortedHeap s.heap a vs out }) : wpAny (model prog w) A (Builtin.«list.sort» ⟨[.ref a], []⟩) P E s := by
  rw [list_sort_plain]
  have la := Heap.lt_size ho
  refine wpAny_bind (listItems_at ho rfl (wpAny_bind (listUpdate_at ho rfl ?_ (by simpa using hz) (by simp))))
  have g1 := get?_update_seq ho (fun _ => #[])
  generalize (if (#[] : Array Value).size == vs.toArray.size then n else n + 1) = e1 at g1
  refine wpAny_bind (seqEpoch_at g1 rfl (wpAny_bind (wpAny_newTuple (wpAny_bind (wpAny_newList (wpAny_holding ?_))))))
  have g2 : (((s.heap.update a (Obj.mapSeq fun _ => #[])).push (seqObj "tuple" vs.toArray 0)).push (seqObj "list" #[] 0)).get? a = some (seqObj "list" #[] e1) := Heap.get?_push_of_some _ (Heap.get?_push_of_some _ g1)
  have sz : vs.toArray.size = vs.length := by simp
  have last : ∀ st : SortSt, (arrOf st).Perm (pairsOf vs) → Seg (arrOf st) 0 (pairsOf vs).size → P (.done (.ret .none)) { s with heap := sortedHeap s.heap a vs ((arrOf st).map (·.2)) } := fun st hp hs => by
    obtain ⟨ms, q1, q2, q3⟩ := sorted_out hI hp fun i j h1 h2 => hs i j (Nat.zero_le _) h1 h2
    exact h _ ms q1 q2 q3
  show wpAny (model prog w) A (_ : Sem PySem.Fin) P E { s with heap := ((s.heap.update a (Obj.mapSeq fun _ => #[])).push (seqObj "tuple" vs.toArray 0)).push (seqObj "list" #[] 0) }
  dsimp only
  by_cases c : vs.toArray.size < 2
  · rw [if_pos c, if_pos c]
    refine wpAny_bind (wpAny_pure ?_)
    rw [StateT.run_pure]
    refine wpAny_bind (wpAny_pure (wpAny_bind (seqEpoch_at g2 rfl (wpAny_bind (listUpdate_at g2 rfl ?_ (by simp) (by rw [Array.size_map]; show (pairsOf vs).size ≤ _; rw [pairsOf_size]; omega))))))
    simp only [if_false, bne_self_eq_false, Bool.false_eq_true]
    refine wpAny_pure (last (SortSt.mk' general' (vs.toArray.zip vs.toArray) #[] 7 none) (Array.Perm.refl _) fun i j _ h1 h2 => ?_)
    rw [pairsOf_size] at h2
    rw [show i = j by omega]; exact Int.le_refl _
  · rw [if_neg c, if_neg c]
    match vs, sz, c, hI, last, g2, hz with
    | [], _, c, _, _, _, _ => simp at c
    | [_], _, c, _, _, _, _ => simp at c
    | x :: y :: r, sz, c, hI, last, g2, hz =>
    rw [keyKind_ints hI]
    refine wpAny_bind (wpAny_pure (wpAny_bind (wpAny_mono (wp_sort (a₀ := pairsOf (x :: y :: r)) (st := SortSt.mk' oneType' ((x :: y :: r).toArray.zip (x :: y :: r).toArray) #[] 7 none)
      (Q := fun _ st => Ok (pairsOf (x :: y :: r)) st ∧ Seg (arrOf st) 0 (pairsOf (x :: y :: r)).size) hI.intKeys ⟨Array.Perm.refl _, rfl, rfl⟩ rfl (by rw [pairsOf_size]; simp) fun st q1 q2 => ⟨q1, q2⟩) ?_ fun _ _ e => e)))
    rintro ⟨⟨⟩, st⟩ s1 ⟨rfl, ok, sg⟩
    dsimp only
    refine wpAny_bind (seqEpoch_at g2 rfl (wpAny_bind (listUpdate_at g2 rfl ?_ (by simp) (by
      have e : ((arrOf st).map (·.2)).size = (x :: y :: r).length := by rw [Array.size_map, ok.size, pairsOf_size]
      rw [e]; omega))))
    rw [ok.fine]
    simp only [if_false, bne_self_eq_false, Bool.false_eq_true]
    exact wpAny_pure (last st ok.perm sg)
/-- sorted, once its argument has been walked -/
theorem sorted_of {v : Value} {Q : Value → Shared → Prop} (hc : wpAny (model prog w) A.in1 (collect v) (fun vs s1 => vs.length ≤ sizeLine ∧ ∃ ns, IntsAre vs ns ∧ ∀ (h' : Heap) (out : List Value) (ms : List Int) (e : Nat), (∀ b o, s1.heap.get? b = some o → h'.get? b = some o) →
      h'.get? s1.heap.objs.size = some (seqObj "list" out.toArray e) → IntsAre out ms → ms.Perm ns → ms.Pairwise (· ≤ ·) → Q (.ref s1.heap.objs.size) { s1 with heap := h' }) E s) : wpAny (model prog w) A (call (.builtin "sorted") [v]) Q E s := by
  refine Calls.call_function_entry kind_sorted plain_sorted entry_sorted (args_sorted1 _) (?_ : wpAny _ _ _ _ _ _)
  unfold Builtin.«sorted»
  refine wpAny_bind (m := checkCount "sorted" 1 1 _) (wpAny_pure (wpAny_bind (wpAny_mono hc ?_ fun _ _ e => e)))
  rintro vs s1 ⟨hz, ns, hI, k⟩
  refine (wpAny_bind (wpAny_newList ?_))
  have g : (s1.heap.push (seqObj "list" vs.toArray 0)).get? s1.heap.objs.size = some (seqObj "list" vs.toArray 0) := Heap.get?_push_size _ rfl
  show wpAny (model prog w) A.in1 _ _ E { s1 with heap := s1.heap.push (seqObj "list" vs.toArray 0) }
  refine wpAny_bind (wpAny_holding (wpAny_call_entry slot_list_sort ⟨_, g, rfl⟩ entry_list_sort (tree_sort g hI hz fun out ms q1 q2 q3 => ⟨_, rfl, wpAny_pure ⟨_, rfl, ?_⟩⟩) (args_list_sort _)))
  obtain ⟨e, he⟩ := sortedHeap_at (out := out) g
  refine k _ out.toList ms e (fun b o z => ?_) (by simpa using he) q1 q2 q3
  have lb := Heap.lt_size z
  rw [sortedHeap_old (Nat.ne_of_lt lb) (by rw [size_push']; exact Nat.lt_succ_of_lt lb)]
  exact Heap.get?_push_of_some _ z
end
end Tim

set_option Elab.async false
set_option linter.all false
set_option maxRecDepth 100000
set_option maxHeartbeats 4000000
/-! sorted of a list of whole numbers -/
namespace L2
open PySem PySem.Spec PyProof.Rows
section
variable {X : Cx} {K : PySem.W.Frag}
theorem boot_sorted' : bootBuiltins "sorted" = some (.builtin "sorted") := by decide +kernel
end
end L2

set_option Elab.async false
set_option linter.all false
set_option maxRecDepth 100000
set_option maxHeartbeats 1000000
/-! Sets that can be walked: their tables. -/
namespace Tab
open PySem PyProof.Rows
/-- rising places -/
def Up (xs : Array Nat) : Prop := ∀ i j, i < j → j < xs.size → xs.getD i 0 < xs.getD j 0
theorem getD_in {xs : Array Nat} {i d e : Nat} (h : i < xs.size) : xs.getD i d = xs.getD i e := by simp [Array.getD, h]
theorem below_go {xs : Array Nat} {j : Nat} (up : Up xs) : ∀ (fuel lo hi : Nat), hi - lo ≤ fuel → lo ≤ hi → hi ≤ xs.size → (∀ i, i < lo → xs.getD i 0 < j) → (∀ i, hi ≤ i → i < xs.size → j ≤ xs.getD i 0) →
    ∃ r, SetTable.below.go xs j fuel lo hi = r ∧ r ≤ xs.size ∧ (∀ i, i < r → xs.getD i 0 < j) ∧ ∀ i, r ≤ i → i < xs.size → j ≤ xs.getD i 0
  | 0, lo, hi, h1, h2, h3, h4, h5 => ⟨lo, rfl, by omega, h4, fun i a b => h5 i (by omega) b⟩
  | fuel + 1, lo, hi, h1, h2, h3, h4, h5 => by
    unfold SetTable.below.go
    by_cases c : lo < hi
    · rw [if_pos c]
      dsimp only
      have hm : (lo + hi) / 2 < xs.size := by omega
      rw [getD_in (e := 0) hm]
      have mono : ∀ a b, a ≤ b → b < xs.size → xs.getD a 0 ≤ xs.getD b 0 := fun a b hab hb => by
        by_cases e : a = b
        · rw [e]; exact Nat.le_refl _
        · exact Nat.le_of_lt (up a b (by omega) hb)
      by_cases y : xs.getD ((lo + hi) / 2) 0 < j
      · rw [if_pos y]
        exact below_go up fuel _ _ (by omega) (by omega) h3 (fun i hx => Nat.lt_of_le_of_lt (mono i ((lo + hi) / 2) (by omega) hm) y) h5
      · rw [if_neg y]
        exact below_go up fuel _ _ (by omega) (by omega) (by omega) h4 fun i a b => Nat.le_trans (Nat.le_of_not_lt y) (mono _ _ a b)
    · rw [if_neg c]
      exact ⟨lo, rfl, by omega, h4, fun i a b => h5 i (by omega) b⟩
theorem below_is {xs : Array Nat} (up : Up xs) (j : Nat) : SetTable.below xs j ≤ xs.size ∧ (∀ i, i < SetTable.below xs j → xs.getD i 0 < j) ∧ ∀ i, SetTable.below xs j ≤ i → i < xs.size → j ≤ xs.getD i 0 := by
  obtain ⟨r, e, h1, h2, h3⟩ := below_go (j := j) up xs.size 0 xs.size (by omega) (by omega) (Nat.le_refl _) (fun i hi => by omega) (fun i a b => by omega)
  have : SetTable.below xs j = r := e
  rw [this]; exact ⟨h1, h2, h3⟩
/-- of a place that is taken, or of the one behind it -/
theorem below_at {xs : Array Nat} (up : Up xs) {k : Nat} (hk : k < xs.size) : SetTable.below xs (xs.getD k 0 + 1) = k + 1 := by
  obtain ⟨h1, h2, h3⟩ := below_is up (xs.getD k 0 + 1)
  rcases Nat.lt_trichotomy (SetTable.below xs (xs.getD k 0 + 1)) (k + 1) with z | z | z
  · have := h3 k (by omega) hk; omega
  · exact z
  · have a := h2 (k + 1) z
    have b := up k (k + 1) (by omega) (by omega)
    omega
theorem below_0 {xs : Array Nat} (up : Up xs) : SetTable.below xs 0 = 0 := by
  obtain ⟨h1, h2, h3⟩ := below_is up 0
  rcases Nat.eq_zero_or_pos (SetTable.below xs 0) with z | z
  · exact z
  · have := h2 0 z; omega
theorem up_list {l : List Nat} (h : l.Pairwise (· < ·)) : Up l.toArray := fun i j hij hj => by
  rw [List.size_toArray] at hj
  have := List.pairwise_iff_getElem.mp h i j (by omega) hj hij
  simpa [Array.getD, hj, show i < l.length by omega] using this
theorem list_up {xs : Array Nat} (h : Up xs) : xs.toList.Pairwise (· < ·) := List.pairwise_iff_getElem.mpr fun i j hi hj hij => by
  rw [Array.length_toList] at hi hj
  have := h i j hij hj
  simpa [Array.getD, hj, hi] using this
theorem up_insert {xs : Array Nat} {j : Nat} (up : Up xs) (hj : j ∉ xs.toList) : Up (SetTable.insertAt xs (SetTable.below xs j) j) := by
  obtain ⟨h1, h2, h3⟩ := below_is up j
  have e : (SetTable.insertAt xs (SetTable.below xs j) j) = (SetTable.insertAt xs (SetTable.below xs j) j).toList.toArray := by simp
  rw [e, SetTable.toList_insertAt]
  refine up_list ?_
  have p := list_up up
  have at' : ∀ i (hi : i < xs.size), xs.toList[i]'(by rw [Array.length_toList]; exact hi) = xs.getD i 0 := fun i hi => by simp [Array.getD, hi]
  have hlo : ∀ x ∈ xs.toList.take (SetTable.below xs j), x < j := fun x hx => by
    obtain ⟨i, hi, e⟩ := List.mem_iff_getElem.mp hx
    rw [List.length_take, Array.length_toList] at hi
    rw [List.getElem_take, at' i (by omega)] at e
    rw [← e]; exact h2 i (by omega)
  have hhi : ∀ x ∈ xs.toList.drop (SetTable.below xs j), j < x := fun x hx => by
    have hne : x ≠ j := fun z => hj (z ▸ List.mem_of_mem_drop hx)
    obtain ⟨i, hi, e⟩ := List.mem_iff_getElem.mp hx
    rw [List.length_drop, Array.length_toList] at hi
    rw [List.getElem_drop, at' _ (by omega)] at e
    have := h3 (SetTable.below xs j + i) (by omega) (by omega)
    omega
  refine List.pairwise_append.mpr ⟨p.sublist (List.take_sublist ..), List.pairwise_cons.mpr ⟨fun x hx => hhi x hx, p.sublist (List.drop_sublist ..)⟩, fun x hx y hy => ?_⟩
  rcases List.mem_cons.mp hy with z | z
  · rw [z]; exact hlo x hx
  · exact Nat.lt_trans (hlo x hx) (hhi y z)
theorem slot_free {t : SetTable} {j : Nat} (up : Up t.place) (h : ∀ i, t.slot j ≠ .live i) : j ∉ t.place.toList := fun hm => by
  obtain ⟨i, hi, e⟩ := List.mem_iff_getElem.mp hm
  rw [Array.length_toList] at hi
  obtain ⟨h1, h2, h3⟩ := below_is up j
  have ei : t.place.getD i 0 = j := by rw [← e]; simp [Array.getD, hi]
  have hb : SetTable.below t.place j = i := by
    rcases Nat.lt_trichotomy (SetTable.below t.place j) i with z | z | z
    · have a := h3 _ (Nat.le_refl _) (by omega)
      have b := up (SetTable.below t.place j) i z hi
      omega
    · exact z
    · have := h2 i z; omega
  refine h i ?_
  unfold SetTable.slot
  dsimp only
  rw [hb]
  have : t.place[i]? = some j := by rw [Array.getElem?_eq_getElem hi, ← e]; simp
  rw [this]; simp
theorem probe_free {t : SetTable} {f : Nat → Int} {h : Int} : ∀ (fuel : Nat) (p : SetTable.Probe) (j : Nat) (d : Option Nat), (∀ x, p.dummy = some x → ∀ i, t.slot x ≠ .live i) → SetTable.probe.go t f h fuel p = some (.empty j d) → ∀ i, t.slot (d.getD j) ≠ .live i
  | 0, p, j, d, _, e => by simp [SetTable.probe.go] at e
  | fuel + 1, p, j, d, hd, e => by
    have adv : ∀ q : SetTable.Probe, (t.advance q).dummy = q.dummy := fun q => by unfold SetTable.advance; split <;> rfl
    unfold SetTable.probe.go at e
    cases hs : t.slot p.j with
    | empty =>
      rw [hs] at e
      dsimp only at e
      injection e with e
      injection e with e1 e2
      subst e1 e2
      cases hp : p.dummy with
      | none => intro i; show t.slot p.j ≠ _; rw [hs]; exact fun z => by cases z
      | some x => exact hd x hp
    | dummy =>
      rw [hs] at e
      refine probe_free fuel _ j d (fun x hx => ?_) e
      rw [adv] at hx
      injection hx with hx
      subst hx
      intro i; rw [hs]; exact fun z => by cases z
    | live i =>
      rw [hs] at e
      dsimp only at e
      split at e
      · cases e
      · exact probe_free fuel _ j d (fun x hx => hd x (by rw [adv] at hx; exact hx)) e
theorem free_slot {t : SetTable} {h : Int} {j : Nat} {b : Bool} (up : Up t.place) (e : t.freeSlot h = some (j, b)) : j ∉ t.place.toList := by
  unfold SetTable.freeSlot at e
  split at e
  · rename_i j' d hp
    injection e with e
    injection e with e1 e2
    subst e1
    exact slot_free up (probe_free _ _ j' d (fun x hx => by simp [SetTable.probeStart] at hx) hp)
  · cases e
theorem up_range (n : Nat) : Up (Array.range n) := fun i j hij hj => by
  rw [Array.size_range] at hj
  simpa [Array.getD, hj, show i < n by omega] using hij
theorem stand_up (t : SetTable) (n : Nat) : Up (t.standIn n).place ∧ (t.standIn n).led = t.led := ⟨up_range n, rfl⟩
theorem orStand_up {t : SetTable} {n : Nat} (h : Up t.place) : Up (t.orStandIn n).place ∧ (t.orStandIn n).led = t.led := by
  unfold SetTable.orStandIn
  split
  · exact ⟨h, rfl⟩
  · exact stand_up t n
theorem lay_up {t : SetTable} {es : Array (Int × Value)} {h : Int} {x : Value} (up : Up t.place) : Up (layNew t es h x).2.1.place ∧ (layNew t es h x).2.1.led = t.led := by
  unfold layNew
  split
  · rename_i slot b e
    dsimp only
    have := free_slot up e
    have hu : Up (t.put slot).1.place := up_insert up this
    obtain ⟨h1, h2⟩ := orStand_up (n := (SetTable.insertAt es (t.put slot).2 (h, x)).size) hu
    exact ⟨h1, h2.trans rfl⟩
  · exact stand_up t _
theorem relay_up {t : SetTable} {es : Array (Int × Value)} {n : Nat} (up : Up t.place) : Up (relayAll t es n).2.1.place ∧ (relayAll t es n).2.1.led = t.led := by
  unfold relayAll
  split
  · rename_i t' order e
    dsimp only
    split
    · unfold SetTable.relaid SetTable.laid at e
      cases ho : SetTable.layClean (SetTable.sizeAbove n - 1) (es.map (·.1)) with
      | none => rw [ho] at e; cases e
      | some owner =>
        rw [ho] at e
        have e : some _ = some (t', order) := e
        injection e with e
        injection e with e1 e2
        subst e1
        refine ⟨up_list ?_, rfl⟩
        rw [List.map_filterMap]
        have hr : (List.range (SetTable.sizeAbove n - 1 + 1)).Pairwise (· < ·) := List.pairwise_lt_range
        refine hr.filterMap _ fun a b hab x hx y hy => ?_
        cases h1 : owner.getD a none with
        | none => rw [h1] at hx; cases hx
        | some u =>
          cases h2 : owner.getD b none with
          | none => rw [h2] at hy; cases hy
          | some v =>
            rw [h1] at hx
            rw [h2] at hy
            cases hx
            cases hy
            exact hab
    · exact stand_up t _
  · exact stand_up t _
end Tab

set_option Elab.async false
set_option linter.all false
set_option maxRecDepth 100000
set_option maxHeartbeats 1000000
namespace Tab
open PySem PyProof.Rows
section
variable {prog : Program} {w : World} {K : Type} [DecidableEq K] (knd : KeyKind prog w K)
/-- a set, its table in order -/
def SetS (h : Heap) (a : Addr) (S : K → Bool) (n : Nat) : Prop :=
  ∃ o es ep t, h.get? a = some o ∧ o.ExactSet ∧ o.data = .set es ep t ∧ (ElemsOf knd es.toList ∧ (∀ k, S k = true ↔ ∃ e ∈ es.toList, knd.is k e.2 = true) ∧ es.size < scanBound ∧ t.fits es.size = true ∧ es.size = n) ∧ Up t.place ∧ (w.params.followText "set-order" = true ∨ t.led = true)
variable {knd}
theorem SetS.at {h h' : Heap} {a : Addr} {S : K → Bool} {n : Nat} (x : SetS knd h a S n) (e : ∀ o, h.get? a = some o → h'.get? a = some o) : SetS knd h' a S n := let ⟨o, es, ep, t, h1, r⟩ := x; ⟨o, es, ep, t, e _ h1, r⟩
theorem SetS.congr {h : Heap} {a : Addr} {S S' : K → Bool} {n n' : Nat} (x : SetS knd h a S n) (e : ∀ k, S k = S' k) (en : n = n') : SetS knd h a S' n' := by
  have : S = S' := funext e
  subst this en; exact x
variable {A : Around} {E : Value → Shared → Prop} {s : Shared}
theorem put_S {h : Heap} {a : Addr} {o : Obj} {es : Array (Int × Value)} {ep : Nat} {t : SetTable} (ho : h.get? a = some o) (hex : o.ExactSet) (hd : o.data = .set es ep t) {es' : Array (Int × Value)} {t' : SetTable} {S' : K → Bool} {n : Nat}
    (hel : ElemsOf knd es'.toList) (hmem : ∀ k, S' k = true ↔ ∃ e ∈ es'.toList, knd.is k e.2 = true) (hb : es'.size < scanBound) (hf : t'.fits es'.size = true) (hn : es'.size = n) (up : Up t'.place) (ld : w.params.followText "set-order" = true ∨ t'.led = true) :
    (h.update a (Obj.putSet es' t')).get? a = some { o with data := .set es' (ep + 1) t' } ∧ SetS knd (h.update a (Obj.putSet es' t')) a S' n := by
  have g := (SetOf_store (knd := knd) ho hex hd hel hmem hb hf).1
  exact ⟨g, _, es', ep + 1, t', g, hex, rfl, ⟨hel, hmem, hb, hf, hn⟩, up, ld⟩
theorem add_S {a : Addr} {S : K → Bool} {n : Nat} {k : K} {x : Value} {Q : Bool → Shared → Prop} (hkey : knd.is k x = true) (hsc : x.scannable = true) (hS : SetS knd s.heap a S n) (hroom : n + 1 < scanBound)
    (h : ∀ h', Heap.SameBut a s.heap h' → SetS knd h' a (fun k' => S k' || decide (k' = k)) (if S k then n else n + 1) → Q (!S k) { s with heap := h' }) : wpAny (model prog w) A (setAddHashed a x (knd.hash k)) Q E s := by
  obtain ⟨o, es, ep, t, ho, hex, hd, ⟨hel, hmem, hb, hf, hn⟩, up, ld⟩ := hS
  have gw : ∀ (g : Bool → Sem Unit) (b : Bool) (s1 : Shared) (Q' : Unit → Shared → Prop), (g = fun b => match b with | true => rule "set.scan.the-table-gave-way" | false => pure ()) → Q' () s1 → wpAny (model prog w) A (g b) Q' E s1 := fun g b s1 Q' e q => by
    subst e
    cases b
    · exact wpAny_pure q
    · exact wpAny_rule q
  refine wpAny_holding ?_
  unfold setAddHashedIn
  refine wpAny_bind (wpAny_setState_of ho hd hf ?_)
  dsimp -zeta only
  rw [byScan_of hsc hb hel, if_pos rfl]
  refine wpAny_bind (wpAny_bind (wpAny_rule (wpAny_bind (wpAny_setScan_of hkey ho hd hf hel ?_))))
  cases hr : List.findIdx? (fun e => knd.is k e.2) es.toList with
  | some j =>
    obtain ⟨hj, hpj, _⟩ := List.findIdx?_eq_some_iff_getElem.mp hr
    have hSk : S k = true := (hmem k).mpr ⟨es.toList[j], List.getElem_mem hj, hpj⟩
    have q := h s.heap (Heap.SameBut.refl a s.heap) ⟨o, es, ep, t, ho, hex, hd, ⟨hel, fun k' => by
      rw [Bool.or_eq_true, decide_eq_true_eq, ← hmem k']
      exact ⟨fun z => z.elim id (fun e => by rw [e]; exact hSk), .inl⟩, hb, hf, by rw [hSk]; exact hn⟩, up, ld⟩
    rw [hSk] at q
    exact wpAny_pure (wpAny_pure q)
  | none =>
    have hSk : S k = false := by
      cases hk : S k with
      | false => rfl
      | true =>
        obtain ⟨e, he, hp⟩ := (hmem k).mp hk
        have := List.findIdx?_eq_none_iff.mp hr e he
        rw [hp] at this; cases this
    have lp := layNew_perm t es (knd.hash k) x
    have lf := layNew_fits t es (knd.hash k) x
    have lu := lay_up (es := es) (h := knd.hash k) (x := x) up
    dsimp only
    generalize layNew t es (knd.hash k) x = L at lp lf lu ⊢
    obtain ⟨es1, t1, wd, gave⟩ := L
    dsimp only at lp lf lu ⊢
    rw [Array.toList_push] at lp
    have hel1 : ElemsOf knd es1.toList := (hel.push hkey hsc).perm lp
    have hmem1 := mem_push_iff (S := S) hkey hmem lp
    have hsz1 : es1.size = n + 1 := by rw [← Array.length_toList, lp.length_eq, List.length_append, Array.length_toList, hn]; rfl
    have hb1 : es1.size < scanBound := by omega
    have fin : ∀ h', Heap.SameBut a s.heap h' → SetS knd h' a (fun k' => S k' || decide (k' = k)) (n + 1) → Q true { s with heap := h' } := fun h' sb z => by
      have := h h' sb; rw [hSk] at this; exact this z
    refine wpAny_bind (gw _ _ _ _ rfl ?_)
    have tail : ∀ t2 : SetTable, t2.fits es1.size = true → Up t2.place → t2.led = t.led → wpAny (model prog w) A (do
        storeSet a es1 t2
        if (!wd && t2.tooFull) = true then do
            (match (relayAll t2 es1 (SetTable.grown es1.size)).2.2 with | true => rule "set.scan.the-table-gave-way" | false => pure ())
            storeSet a (relayAll t2 es1 (SetTable.grown es1.size)).1 (relayAll t2 es1 (SetTable.grown es1.size)).2.1
            pure (some true)
          else pure (some true)) (fun r s' => wpAny (model prog w) A (match r with | some added => pure added | none => setAddHashedIn a x (knd.hash k) 99999) Q E s') E s := fun t2 f2 u2 l2 => by
      refine wpAny_bind (wpAny_storeSet_of ho hd ?_ (fits_of_scanBound hb1))
      obtain ⟨g1, S1⟩ := put_S (knd := knd) ho hex hd hel1 hmem1 hb1 f2 hsz1 u2 (by rw [l2]; exact ld)
      have sb1 := Heap.SameBut.update s.heap a (Obj.putSet es1 t2)
      refine wpAny_ite_split (fun _ => ?_) (fun _ => wpAny_pure (wpAny_pure (fin _ sb1 S1)))
      have rp := relayAll_perm t2 es1 (SetTable.grown es1.size)
      have rf := relayAll_fits t2 es1 (SetTable.grown es1.size)
      have ru := relay_up (es := es1) (n := SetTable.grown es1.size) u2
      generalize relayAll t2 es1 (SetTable.grown es1.size) = L at rp rf ru ⊢
      obtain ⟨es2, t3, gave2⟩ := L
      dsimp only at rp rf ru ⊢
      have hsz2 : es2.size = n + 1 := by rw [← Array.length_toList, rp.length_eq, Array.length_toList, hsz1]
      have hb2 : es2.size < scanBound := by omega
      have hmem2 : ∀ k', (S k' || decide (k' = k)) = true ↔ ∃ e ∈ es2.toList, knd.is k' e.2 = true := fun k' => (hmem1 k').trans ⟨fun ⟨e, a, b⟩ => ⟨e, rp.mem_iff.mpr a, b⟩, fun ⟨e, a, b⟩ => ⟨e, rp.mem_iff.mp a, b⟩⟩
      refine wpAny_bind (gw _ _ _ _ rfl (wpAny_bind (wpAny_storeSet_of g1 rfl ?_ (fits_of_scanBound hb2))))
      obtain ⟨_, S2⟩ := put_S (knd := knd) g1 hex rfl (hel1.perm rp) hmem2 hb2 rf hsz2 ru.1 (by rw [ru.2, l2]; exact ld)
      exact wpAny_pure (wpAny_pure (fin _ (sb1.trans (Heap.SameBut.update _ a _)) S2))
    refine wpAny_ite_split (fun _ => ?_) (fun _ => ?_)
    · refine wpAny_bind ?_
      rw [hashByValue_scannable 8 hsc]
      refine wpAny_pure ?_
      cases plainKind x
      · exact tail _ (SetTable.fits_plain_off lf) lu.1 lu.2
      · exact tail _ lf lu.1 lu.2
    · exact wpAny_bind (wpAny_pure (tail _ lf lu.1 lu.2))
end
end Tab

set_option Elab.async false
set_option linter.all false
set_option maxRecDepth 100000
set_option maxHeartbeats 3200000
namespace Tab
open PySem PyProof.Rows
section
variable {prog : Program} {w : World} {A : Around} {R : Result → Shared → Prop} {I : Addr} {fp wr : List Addr} {G : Array GenState → Array GenState → Prop} {n : Nat} {P : Nat → Value → Prop} {St : Nat → Shared → Prop}
theorem loop_S (W : WalksS prog w A.in1 I fp wr G n P St) (Z : Addr) (hZ : Z ∉ fp) (val : Nat → Int) (hval : ∀ i v, P i v → ∃ t, v = .int (val i) t) (hb : n + 1 < scanBound) :
    ∀ (k i : Nat) (s : Shared), n - i = k → i ≤ n → St i s → SetS (intKind prog w) s.heap Z (fun k' => (firstMet val i).any (· == k')) (firstMet val i).length →
      (∀ s', Moved (Z :: wr) G s s' → SetS (intKind prog w) s'.heap Z (fun k' => (firstMet val n).any (· == k')) (firstMet val n).length → R (.ok (.ret .none)) s') →
      codeAny (model prog w) A (.builtin "set.update.loop" ⟨[.ref Z, .ref I], []⟩) R s := by
  have hw : Z ∉ wr := fun z => hZ (W.sub _ z)
  have hsub : ∀ b ∈ wr, b ∈ Z :: wr := fun b z => List.mem_cons_of_mem _ z
  intro k
  induction k with
  | zero =>
    intro i s hk hi st hS hR
    obtain rfl : i = n := by omega
    refine codeAny_builtin F.entry_set_update_loop ?_
    rw [Around.under_plainId F.plain_set_update_loop _]
    refine wpAny_bind (m := pyNext (.ref I)) (W.done s _ _ st fun s1 m1 => ?_)
    exact wpAny_pure (hR s1 (m1.mono hsub) (hS.at fun o e => m1.heap Z _ hw e))
  | succ k ih =>
    intro i s hk hi st hS hR
    refine codeAny_builtin F.entry_set_update_loop ?_
    rw [Around.under_plainId F.plain_set_update_loop _]
    refine wpAny_bind (m := pyNext (.ref I)) (W.item i s _ _ (by omega) st fun v s1 hP st1 m1 => ?_)
    obtain ⟨t, rfl⟩ := hval i v hP
    have hS1 := hS.at fun o e => m1.heap Z _ hw e
    refine wpAny_bind (m := holding [Value.int (val i) t] (setAdd Z (.int (val i) t))) (wpAny_holding ?_)
    unfold setAdd
    refine wpAny_holding (wpAny_bind ((intKind prog w).pyHash (k := val i) (intKind_is _ _ _ _) ?_))
    have fl := firstMet_length_le val i
    refine add_S (knd := intKind prog w) (s := { s1 with toks := s1.toks + 1 }) (intKind_is _ _ _ _) rfl hS1 (by omega) fun h' sb hS2 => ?_
    have hS3 := hS2.congr (S' := fun k' => (firstMet val (i + 1)).any (· == k')) (n' := (firstMet val (i + 1)).length) (fun k' => by rw [firstMet_succ, step_any]) (by rw [firstMet_succ, step_length])
    refine wpAny_pure ⟨plainId_quiet F.plain_set_update_loop _, ih (i + 1) _ (by omega) (by omega) (W.frame _ s1 _ _ st1 (Nat.le_succ _) fun b hb o e => ?_) hS3 fun s2 m2 hS4 => ?_⟩
    · rw [sb.2 b (fun z : b = Z => hZ (by rw [← z]; exact hb))]; exact e
    · refine hR s2 (Moved.trans W.gtrans ((m1.mono hsub).then_heap (Nat.le_succ _) fun b o hb e => ?_) m2) hS4
      rw [sb.2 b (fun z : b = Z => hb (by rw [z]; exact List.mem_cons_self))]; exact e
end
section
variable {prog : Program} {w : World} {A : Around} {E : Value → Shared → Prop} {s : Shared}
abbrev newS (w : World) : Obj := { cls := .type "set", dict := none, data := .set #[] 0 (.fresh 0 0 (!w.params.followText "set-order")) }
theorem make_S (a : Value) {Q₁ : Value → Shared → Prop} (h : Q₁ (.ref s.heap.objs.size) { s with heap := s.heap.push (newS w) }) : codeAny (model prog w) A (.call (.builtin "set.__new__") ⟨[.type "set", a], []⟩) (wants Q₁ E) s := by
  refine codeAny_of_tree (wpAny_bind (m := checkBuiltinCall "set.__new__" ⟨[.type "set", a], []⟩) (wpAny_of_eq (F.newCall_set_1 a) (wpAny_pure ⟨plainId_quiet F.plain_set_new _, codeAny_builtin F.entry_set_new ?_⟩)))
  rw [Around.under_plainId F.plain_set_new _]
  unfold Builtin.«set.__new__» Builtin.Frozenset.newClass
  have hsub := sub_set_self
  obtain ⟨hp, g, d, tk, os⟩ := s
  dsimp only
  wp_walk
  refine wpAny_askSetting (wpAny_pure ?_)
  dsimp only
  simp only [newObj]
  exact wpAny_bind (wpAny_alloc (wpAny_pure (wpAny_pure h)))
theorem fresh_S : SetS (intKind prog w) (s.heap.push (newS w)) s.heap.objs.size (fun _ => false) 0 := by
  obtain ⟨o, es, ep, t, h1, h2, h3, h4, h5, h6, h7, h8⟩ := (PyProof.Rows.setObjOf_fresh (knd := intKind prog w) (!w.params.followText "set-order")).setOf (h := s.heap.push (newS w)) (a := s.heap.objs.size) (Heap.get?_push_size _ rfl) (by unfold scanBound; omega)
  have g : (s.heap.push (newS w)).get? s.heap.objs.size = some (newS w) := Heap.get?_push_size _ rfl
  rw [g] at h1
  injection h1 with h1
  subst h1
  injection h3 with e1 e2 e3
  subst e1 e2 e3
  refine ⟨newS w, _, _, _, g, h2, rfl, ⟨h4, h5, h6, h7, h8⟩, fun i j hij hj => absurd hj (Nat.not_lt_zero _), ?_⟩
  cases z : w.params.followText "set-order" with
  | true => exact .inl rfl
  | false => exact .inr rfl
theorem call_S {l : Addr} {items : Array Value} {ns : List Int} {Q : Value → Shared → Prop} (hh : A.handled = none) (hl : s.heap.IsList l items) (hi : IntsAre items.toList ns) (hb : items.size + 1 < scanBound)
    (h : ∀ (h' : Heap) (tk : Nat), SetS (intKind prog w) h' s.heap.objs.size (fun k' => (firstMet (fun i => ns.getD i 0) items.size).any (· == k')) (firstMet (fun i => ns.getD i 0) items.size).length →
      (∀ b o, b < s.heap.objs.size → s.heap.get? b = some o → h'.get? b = some o) → Q (.ref s.heap.objs.size) { s with heap := h', toks := tk }) : wpAny (model prog w) A (call (.type "set") [.ref l]) Q E s := by
  obtain ⟨c, tl, hmro⟩ := F.called_set.mro
  have hmade := F.called_set.made
  have hsub := F.called_set.sub
  refine wpAny_call (codeAny_of_tree (wpAny_pure ⟨Code.quiet_builtin _ (by decide +kernel), codeAny_builtin F.entry_type_call ?_⟩))
  rw [Around.under_plain (weight_type_call_type "set" [.ref l] []) rfl]
  have h1 := F.called_set.notType
  have h2 := F.called_set.canCreate
  have hct := F.typeCall_set_1 (.ref l)
  repeat (any_goals (first | assumption | wp_step))
  refine codeAny_mono (make_S (.ref l) (E := E) (Q₁ := fun obj s₁ => obj = .ref s.heap.objs.size ∧ s₁ = { s with heap := s.heap.push (newS w) }) ⟨rfl, rfl⟩) fun r s₁ hr => ?_
  cases r with
  | error e => exact hr
  | ok fl =>
    cases fl with
    | ret obj =>
      obtain ⟨rfl, rfl⟩ := hr
      have hS : (s.heap.push (newS w)).get? s.heap.objs.size = some (newS w) := Heap.get?_push_size _ rfl
      have hT : Shared.TypeIs { s with heap := s.heap.push (newS w) } (.ref s.heap.objs.size) "set" := ⟨_, hS, rfl⟩
      have hli := F.called_set.init.lookup
      have hbi := F.called_set.init.bind (.ref s.heap.objs.size)
      repeat (any_goals (first | assumption | wp_step))
      refine codeAny_mono (codeAny_call_builtin (R := wants (fun r s₂ => r = .none ∧ ∃ h' tk, s₂ = { s with heap := h', toks := tk } ∧ SetS (intKind prog w) h' s.heap.objs.size (fun k' => (firstMet (fun i => ns.getD i 0) items.size).any (· == k')) (firstMet (fun i => ns.getD i 0) items.size).length ∧
          (∀ b o, b < s.heap.objs.size → s.heap.get? b = some o → h'.get? b = some o)) E) F.called_set.init.plain F.entry_set_init (check_set_init_1 hT ?_)) fun r₂ s₂ hr₂ => ?_
      · obtain ⟨ol, hol, hcl, nl, hdl⟩ := hl
        obtain ⟨ocls, odict, odata, oslots⟩ := ol
        simp only at hcl hdl
        subst hcl hdl
        have hol' : (s.heap.push (newS w)).get? l = some { cls := .type "list", dict := odict, data := .seq items nl, slots := oslots } := Heap.get?_push_of_some _ hol
        have hsls := F.sub_list_set
        have hslf := F.sub_list_frozenset
        have hne : (Value.type "list" == Value.type "dict") = false := by decide
        have hl1 : (s.heap.push (newS w)).IsList l items := ⟨_, hol', rfl, nl, rfl⟩
        unfold Builtin.«set.__init__» noKeywords Builtin.Frozenset.updateFrom
        generalize hPI : pyIter = PI
        wp_walk
        subst hPI
        refine wpAny_pyIter_list hl1 (wpAny_bind (wpAny_runValue ?_))
        have hlS : l < s.heap.objs.size := Heap.lt_size hol
        have nI : l ≠ (s.heap.push (newS w)).objs.size := by rw [Heap.size_push]; exact Nat.ne_of_lt (Nat.lt_succ_of_lt hlS)
        refine loop_S ((Walks.list (by simp [hh]) _ l nI items).toS) s.heap.objs.size (by rw [Heap.size_push]; simp only [List.mem_cons, List.not_mem_nil, or_false, not_or]; exact ⟨Nat.ne_of_lt (Nat.lt_succ_self _), Nat.ne_of_gt hlS⟩) (fun i => ns.getD i 0)
          (fun i v hv => PyProof.Rows.IntsAre.int_at hi i v (by rw [Array.getElem?_toList]; exact hv)) hb (items.size - 0) 0 _ (by omega) (Nat.zero_le _) ⟨⟨_, Heap.get?_push_size _ rfl, rfl, rfl⟩, (hl1.push _)⟩
          ((fresh_S.at fun o e => Heap.get?_push_of_some _ e).congr (fun _ => rfl) rfl) fun s' hm hS' => ?_
        obtain ⟨h', g', d', tk', os'⟩ := s'
        have eg : g' = s.gens := hm.gens
        have ed : d' = s.drawn := hm.drawn
        have eo : os' = s.os := hm.os
        subst eg ed eo
        refine wpAny_pure (wpAny_pure ⟨rfl, h', tk', rfl, hS', fun b o hb e => ?_⟩)
        refine hm.heap b o ?_ (Heap.get?_push_of_some _ (Heap.get?_push_of_some _ e))
        rw [Heap.size_push]
        simp only [List.mem_cons, List.not_mem_nil, or_false, not_or]
        exact ⟨Nat.ne_of_lt hb, Nat.ne_of_lt (Nat.lt_succ_of_lt hb)⟩
      · cases r₂ with
        | error e => exact hr₂
        | ok fl₂ =>
          cases fl₂ with
          | ret r =>
            obtain ⟨rfl, h', tk, rfl, hS', hk'⟩ := hr₂
            repeat (any_goals (first | assumption | wp_step))
            exact h _ _ hS' hk'
          | _ => exact hr₂.elim
    | _ => exact hr.elim
end
end Tab

set_option Elab.async false
set_option linter.all false
set_option maxRecDepth 100000
set_option maxHeartbeats 3200000
/-! A walk over a set. -/
namespace Tab
open PySem PyProof.Rows
theorem sl_next : Slot "set_iterator" "__next__" "set_iterator.__next__" := .of (owner := "set_iterator") (n := "__next__") (by rw [typeLookup_type, builtinLookup_eq_fast]; kernel_rfl) (by decide +kernel) (by decide +kernel) (by decide +kernel) (by first | exact .inl (by decide +kernel) | exact .inr (by decide +kernel)) (by rw [isSubtype_type]; kernel_rfl)
theorem en_next : entryFor table "set_iterator.__next__" = some Builtin.«set_iterator.__next__» := entryFor_of_tree (by kernel_rfl)
theorem ar_next (a : Value) : argsOk "set_iterator.__next__" ⟨[a], []⟩ := by unfold argsOk; kernel_rfl
theorem sl_self : Slot "set_iterator" "__iter__" "set_iterator.__iter__" := .of (owner := "set_iterator") (n := "__iter__") (by rw [typeLookup_type, builtinLookup_eq_fast]; kernel_rfl) (by decide +kernel) (by decide +kernel) (by decide +kernel) (by first | exact .inl (by decide +kernel) | exact .inr (by decide +kernel)) (by rw [isSubtype_type]; kernel_rfl)
theorem en_self : entryFor table "set_iterator.__iter__" = some Builtin.«dict_keyiterator.__iter__» := entryFor_alias (id' := "dict_keyiterator.__iter__") (by kernel_rfl) rfl (by decide +kernel) (by kernel_rfl)
theorem ar_self (a : Value) : argsOk "set_iterator.__iter__" ⟨[a], []⟩ := by unfold argsOk; kernel_rfl
theorem en_iter : entryFor table "set.__iter__" = some Builtin.«frozenset.__iter__» := entryFor_alias (id' := "frozenset.__iter__") (by kernel_rfl) rfl (by decide +kernel) (by kernel_rfl)
end Tab

set_option Elab.async false
set_option linter.all false
set_option maxRecDepth 100000
set_option maxHeartbeats 3200000
namespace Tab
open PySem PyProof.Rows
theorem erase_perm {α : Type} {l : List α} {i : Nat} (h : i < l.length) : (l[i] :: l.eraseIdx i).Perm l := by
  have e : l = l.take i ++ l[i] :: l.drop (i + 1) := by
    have := (List.take_append_drop i l).symm
    rwa [List.drop_eq_getElem_cons h] at this
  rw [List.eraseIdx_eq_take_drop_succ]
  refine List.perm_middle.symm.trans (List.Perm.of_eq e.symm)
abbrev itO (first : Value) (i : Int) (a : Addr) (n ep : Int) : Obj := { cls := .type "set_iterator", data := .fields #[first, .int i 0, .ref a, .int n 0, .int ep 0] }
def SetAt (h : Heap) (a : Addr) (es : Array (Int × Value)) (ep : Nat) (t : SetTable) : Prop := ∃ o, h.get? a = some o ∧ o.ExactSet ∧ o.data = .set es ep t ∧ t.fits es.size = true
section
variable {prog : Program} {w : World} {A : Around} {E : Value → Shared → Prop} {s : Shared}
theorem wp_choose {n : Nat} {src : Source} {Q : Nat → Shared → Prop} (hn : n ≠ 0) (h : ∀ r d, r < n → Q r { s with drawn := d }) : wpAny (model prog w) A (choose src n) Q E s := fun Γ p _ => ⟨hn, h _ _ (Nat.mod_lt _ (Nat.pos_of_ne_zero hn))⟩
theorem wp_draw {α : Type} : ∀ (n : Nat) (xs : List α) (s : Shared) (Q : List α → Shared → Prop), xs.length = n → (∀ ys d, ys.Perm xs → Q ys { s with drawn := d }) → wpAny (model prog w) A (drawOrder n xs) Q E s
  | 0, xs, s, Q, hl, h => by
    rw [List.eq_nil_of_length_eq_zero hl] at h ⊢
    exact wpAny_pure (h [] s.drawn (List.Perm.refl _))
  | n + 1, [], s, Q, hl, h => by simp at hl
  | n + 1, x :: xs, s, Q, hl, h => by
    refine wpAny_bind (wp_choose (by simp) fun r d hr => ?_)
    have hr : r < (x :: xs).length := hr
    rw [List.getElem?_eq_getElem hr]
    refine wpAny_bind (wp_draw n _ _ _ (by rw [List.length_eraseIdx_of_lt hr]; omega) fun ys d' hp => wpAny_pure (h _ d' ?_))
    have e := erase_perm hr
    exact (hp.cons _).trans e
theorem wp_byText {Q : Bool → Shared → Prop} (h : Q (w.params.followText "set-order") s) : wpAny (model prog w) A setsByText Q E s := wpAny_bind (wpAny_askSetting (wpAny_pure h))
theorem wp_state {a : Addr} {es : Array (Int × Value)} {ep : Nat} {t : SetTable} {Q : (Array (Int × Value) × Nat × SetTable) → Shared → Prop} (x : SetAt s.heap a es ep t) (h : Q (es, ep, t) s) : wpAny (model prog w) A (setState a) Q E s := let ⟨o, h1, _, h3, h4⟩ := x; wpAny_setState_of h1 h3 h4 h
theorem pick_go {α : Type} (next : Nat → Nat) : ∀ (fuel k : Nat) (left : List α) (out : Array α), left.length = fuel → (pickOrder.go next fuel k left out).toList.Perm (out.toList ++ left)
  | 0, k, left, out, h => by rw [List.eq_nil_of_length_eq_zero h, List.append_nil]; exact List.Perm.refl _
  | fuel + 1, k, left, out, h => by
    unfold pickOrder.go
    have hr : next k % left.length < left.length := Nat.mod_lt _ (by omega)
    rw [List.getElem?_eq_getElem hr]
    refine (pick_go next fuel (k + 1) _ _ (by rw [List.length_eraseIdx_of_lt hr]; omega)).trans ?_
    rw [Array.toList_push, List.append_assoc]
    exact (List.Perm.refl _).append (erase_perm hr)
theorem pick_perm {α : Type} (next : Nat → Nat) (xs : Array α) : (pickOrder next xs).toList.Perm xs.toList := by
  have := pick_go next xs.size 0 xs.toList #[] (by rw [Array.length_toList])
  rw [List.nil_append] at this
  exact this
end
end Tab

set_option Elab.async false
set_option linter.all false
set_option maxRecDepth 100000
set_option maxHeartbeats 3200000
namespace Tab
open PySem PyProof.Rows
section
variable {prog : Program} {w : World} {A : Around} {E : Value → Shared → Prop} {s : Shared} {a : Addr} {es : Array (Int × Value)} {ep : Nat} {t : SetTable}
theorem next_text {slot given : Nat} {Q : Option (Value × Nat) → Shared → Prop} (x : SetAt s.heap a es ep t) (bt : w.params.followText "set-order" = true) (h : Q (((pickOrder (w.params.setOrder a ep) es)[given]?).map fun e => (e.2, slot)) s) : wpAny (model prog w) A (setNext a slot given ep) Q E s := by
  refine wpAny_bind (wp_state x (wpAny_bind (wp_byText ?_)))
  rw [bt, if_pos rfl]
  refine wpAny_ite_split (fun z => by simp at z) (fun _ => wpAny_bind ?_)
  refine wpAny_bind (wp_state x (wpAny_bind (wp_byText ?_)))
  rw [bt, if_pos rfl]
  exact wpAny_bind (wpAny_askSetting (wpAny_pure (wpAny_pure h)))
theorem next_place {slot given : Nat} {Q : Option (Value × Nat) → Shared → Prop} (x : SetAt s.heap a es ep t) (bt : w.params.followText "set-order" = false) (pl : (!t.plain && decide (es.size > 1)) = false) (ld : t.led = true)
    (h : Q (match es[SetTable.below t.place slot]?, t.place[SetTable.below t.place slot]? with | some (_, y), some j => some (y, j + 1) | _, _ => none) s) : wpAny (model prog w) A (setNext a slot given ep) Q E s := by
  refine wpAny_bind (wp_state x (wpAny_bind (wp_byText ?_)))
  rw [bt, if_neg Bool.false_ne_true]
  refine wpAny_ite_split (fun z => absurd (show (!t.plain && decide (es.size > 1)) = true from z) (by rw [pl]; exact Bool.false_ne_true)) (fun _ => wpAny_bind ?_)
  refine wpAny_ite_split (fun z => absurd (show (!t.led && !es.isEmpty) = true from z) (by rw [ld]; simp)) (fun _ => wpAny_pure (wpAny_pure h))
theorem it_self {I : Addr} {first : Value} {i n e : Int} {Q : Value → Shared → Prop} (x : s.heap.get? I = some (itO first i a n e)) (h : Q (.ref I) s) : wpAny (model prog w) A (pyIter (.ref I)) Q E s := by
  have ty : s.TypeIs (.ref I) "set_iterator" := ⟨_, x, rfl⟩
  exact wpAny_pyIter_slot ty sl_self (wpAny_call_entry sl_self ty en_self (wpAny_pure ⟨_, rfl, "set_iterator", _, ty, sl_next.lookup, h⟩) (ar_self _))
/-- a turn, by the places -/
theorem step_place {I : Addr} {slot i : Nat} {x : Value} {j : Nat} {Q : Option Value → Shared → Prop} (it : s.heap.get? I = some (itO (.int slot 0) i a es.size ep)) (st : SetAt s.heap a es ep t) (hI : a ≠ I)
    (hn : ∀ (s1 : Shared) (A1 : Around) (E1 : Value → Shared → Prop) (Q1 : Option (Value × Nat) → Shared → Prop), SetAt s1.heap a es ep t → Q1 (some (x, j)) s1 → wpAny (model prog w) A1 (setNext a slot i ep) Q1 E1 s1)
    (h : ∀ h', h'.get? I = some (itO (.int j 0) ((i + 1 : Nat) : Int) a es.size ep) → Heap.SameBut I s.heap h' → Q (some x) { s with heap := h' }) : wpAny (model prog w) A (pyNext (.ref I)) Q E s := by
  have ty : s.TypeIs (.ref I) "set_iterator" := ⟨_, it, rfl⟩
  refine wpAny_bind (wpAny_attempt (wpAny_callSpecial?_slot (name := Str.ofString "__next__") ty sl_next (wpAny_call_entry sl_next ty en_next ?_ (ar_next _))))
  refine wpAny_bind (wpAny_pure (wpAny_bind (wpAny_fieldsOf it rfl ?_)))
  refine wpAny_bind (wpAny_bind (wp_state st (wpAny_pure ?_)))
  dsimp -zeta only
  refine wpAny_ite_split (fun z => by simp at z) (fun _ => ?_)
  refine wpAny_bind (hn s _ _ _ st ?_)
  dsimp -zeta only
  refine wpAny_bind (wpAny_setField it rfl (by simp) ?_)
  have g1 := Heap.get?_update_self (Obj.mapFields (·.setIfInBounds 0 (rawInt (j : Int)))) it (Obj.isFreed_of_fields (Obj.data_mapFields rfl _))
  refine wpAny_bind (wpAny_setField g1 (Obj.data_mapFields rfl _) (by simp) ?_)
  have g2 := Heap.get?_update_self (Obj.mapFields (·.setIfInBounds 1 (rawInt ((i : Int) + 1)))) g1 (Obj.isFreed_of_fields (Obj.data_mapFields (Obj.data_mapFields rfl _) _))
  refine wpAny_pure ⟨_, rfl, wpAny_pure (h _ ?_ ((Heap.SameBut.update ..).trans (Heap.SameBut.update ..)))⟩
  rw [g2]
  rfl
theorem raise_stop {Q : PySem.Fin → Shared → Prop} {E1 : Value → Shared → Prop} (hh : A.handled = none) (h : ∀ (e : Value) (h' : Heap), Shared.TypeIs { s with heap := h' } e "StopIteration" → (∀ b o, s.heap.get? b = some o → h'.get? b = some o) → E1 e { s with heap := h' }) :
    wpAny (model prog w) A (newExc (.type "StopIteration") [] >>= fun e => raiseNew e) Q E1 s := by
  simp only [newExc, newTuple]
  refine wpAny_bind (wpAny_bind (wpAny_newObj_type (wpAny_bind (m := firstArgMember _ _) (wpAny_of_eq (a := Value.none) (by first | rfl | (simp only [firstArgMember]; rfl)) (wpAny_newObj_type ?_ (by size_fits)))) (by size_fits)))
  simp only [raiseNew]
  refine wpAny_bind (wpAny_handled ?_)
  rw [hh]
  refine wpAny_bind (wpAny_pure (wpAny_throw ?_))
  exact h (.ref _) _ ⟨_, Heap.get?_push_size _ rfl, rfl⟩ fun b o e => Heap.get?_push_of_some _ (Heap.get?_push_of_some _ e)
theorem stop_place {I : Addr} {slot i : Nat} {Q : Option Value → Shared → Prop} (hh : A.handled = none) (it : s.heap.get? I = some (itO (.int slot 0) i a es.size ep)) (st : SetAt s.heap a es ep t)
    (hn : ∀ (s1 : Shared) (A1 : Around) (E1 : Value → Shared → Prop) (Q1 : Option (Value × Nat) → Shared → Prop), SetAt s1.heap a es ep t → Q1 none s1 → wpAny (model prog w) A1 (setNext a slot i ep) Q1 E1 s1)
    (h : ∀ h', (∀ b o, b ≠ I → s.heap.get? b = some o → h'.get? b = some o) → Q none { s with heap := h' }) : wpAny (model prog w) A (pyNext (.ref I)) Q E s := by
  have ty : s.TypeIs (.ref I) "set_iterator" := ⟨_, it, rfl⟩
  refine wpAny_bind (wpAny_attempt (wpAny_callSpecial?_slot (name := Str.ofString "__next__") ty sl_next (wpAny_call_entry sl_next ty en_next ?_ (ar_next _))))
  refine wpAny_bind (wpAny_pure (wpAny_bind (wpAny_fieldsOf it rfl ?_)))
  refine wpAny_bind (wpAny_bind (wp_state st (wpAny_pure ?_)))
  dsimp -zeta only
  refine wpAny_ite_split (fun z => by simp at z) (fun _ => ?_)
  refine wpAny_bind (hn s _ _ _ st ?_)
  dsimp -zeta only
  refine wpAny_bind (wpAny_setField it rfl (by simp) (raise_stop (A := A.in1) hh fun e h' te k => ?_))
  refine wpAny_bind (wpAny_isInstance (T := "StopIteration") (b := true) te isSubtype_stop (wpAny_pure (h _ fun b o n z => k _ _ ?_)))
  rw [Heap.get?_update_ne _ _ _ _ n]; exact z
/-- a turn, by drawn places -/
theorem next_drawn {I tp : Addr} {i p : Nat} {k : Int} {x : Value} {Q : Option Value → Shared → Prop} {pl : List Nat} {c : Nat} (it : s.heap.get? I = some (itO (.ref tp) i a es.size ep)) (st : SetAt s.heap a es ep t) (ot : s.heap.get? tp = some (seqObj "tuple" (pl.map fun (y : Nat) => rawInt (y : Int)).toArray c)) (hp : pl[i]? = some p) (hx : es[p]? = some (k, x))
    (h : ∀ h', h'.get? I = some (itO (.ref tp) ((i + 1 : Nat) : Int) a es.size ep) → Heap.SameBut I s.heap h' → Q (some x) { s with heap := h' }) : wpAny (model prog w) A (pyNext (.ref I)) Q E s := by
  have ty : s.TypeIs (.ref I) "set_iterator" := ⟨_, it, rfl⟩
  refine wpAny_bind (wpAny_attempt (wpAny_callSpecial?_slot (name := Str.ofString "__next__") ty sl_next (wpAny_call_entry sl_next ty en_next ?_ (ar_next _))))
  refine wpAny_bind (wpAny_pure (wpAny_bind (wpAny_fieldsOf it rfl ?_)))
  refine wpAny_bind (wpAny_bind (wp_state st (wpAny_pure ?_)))
  dsimp -zeta only
  refine wpAny_ite_split (fun z => by simp at z) (fun _ => ?_)
  refine wpAny_bind (wpAny_bind (wpAny_load ot (wpAny_pure ?_)))
  dsimp -zeta only
  have e1 : (pl.map fun (y : Nat) => rawInt (y : Int)).toArray[((i : Nat) : Int).toNat]? = some (.int (p : Int) 0) := by
    rw [Int.toNat_natCast, List.getElem?_toArray, List.getElem?_map, hp]; rfl
  rw [e1]
  dsimp -zeta only
  refine wpAny_bind (wpAny_bind (wp_state st ?_))
  dsimp -zeta only
  refine wpAny_ite_split (fun z => by simp at z) (fun _ => ?_)
  rw [Int.toNat_natCast, hx]
  refine wpAny_pure (wpAny_bind (wpAny_setField it rfl (by simp) ?_))
  have g1 := Heap.get?_update_self (Obj.mapFields (·.setIfInBounds 1 (rawInt ((i : Int) + 1)))) it (Obj.isFreed_of_fields (Obj.data_mapFields rfl _))
  refine wpAny_pure ⟨_, rfl, wpAny_pure (h _ ?_ (Heap.SameBut.update ..))⟩
  rw [g1]
  rfl
theorem stop_drawn {I tp : Addr} {i : Nat} {Q : Option Value → Shared → Prop} {pl : List Nat} {c : Nat} (hh : A.handled = none) (it : s.heap.get? I = some (itO (.ref tp) i a es.size ep)) (st : SetAt s.heap a es ep t) (ot : s.heap.get? tp = some (seqObj "tuple" (pl.map fun (y : Nat) => rawInt (y : Int)).toArray c)) (hp : pl[i]? = none)
    (h : ∀ h', (∀ b o, b ≠ I → s.heap.get? b = some o → h'.get? b = some o) → Q none { s with heap := h' }) : wpAny (model prog w) A (pyNext (.ref I)) Q E s := by
  have ty : s.TypeIs (.ref I) "set_iterator" := ⟨_, it, rfl⟩
  refine wpAny_bind (wpAny_attempt (wpAny_callSpecial?_slot (name := Str.ofString "__next__") ty sl_next (wpAny_call_entry sl_next ty en_next ?_ (ar_next _))))
  refine wpAny_bind (wpAny_pure (wpAny_bind (wpAny_fieldsOf it rfl ?_)))
  refine wpAny_bind (wpAny_bind (wp_state st (wpAny_pure ?_)))
  dsimp -zeta only
  refine wpAny_ite_split (fun z => by simp at z) (fun _ => ?_)
  refine wpAny_bind (wpAny_bind (wpAny_load ot (wpAny_pure ?_)))
  dsimp -zeta only
  have e1 : (pl.map fun (y : Nat) => rawInt (y : Int)).toArray[((i : Nat) : Int).toNat]? = none := by
    rw [Int.toNat_natCast, List.getElem?_toArray, List.getElem?_map, hp]; rfl
  rw [e1]
  dsimp -zeta only
  refine wpAny_bind (wpAny_setField it rfl (by simp) ?_)
  have g1 := Heap.get?_update_self (Obj.mapFields (·.setIfInBounds 0 (rawInt 0))) it (Obj.isFreed_of_fields (Obj.data_mapFields rfl _))
  refine wpAny_bind (wpAny_setField g1 (Obj.data_mapFields rfl _) (by simp) (raise_stop (A := A.in1) hh fun e h' te k => ?_))
  refine wpAny_bind (wpAny_isInstance (T := "StopIteration") (b := true) te isSubtype_stop (wpAny_pure (h _ fun b o n z => k _ _ ?_)))
  rw [Heap.get?_update_ne _ _ _ _ n, Heap.get?_update_ne _ _ _ _ n]; exact z
end
end Tab

set_option Elab.async false
set_option linter.all false
set_option maxRecDepth 100000
set_option maxHeartbeats 3200000
namespace Tab
open PySem PyProof.Rows
theorem SetAt.at {h h' : Heap} {a : Addr} {es : Array (Int × Value)} {ep : Nat} {t : SetTable} (x : SetAt h a es ep t) (e : ∀ o, h.get? a = some o → h'.get? a = some o) : SetAt h' a es ep t := let ⟨o, h1, r⟩ := x; ⟨o, e _ h1, r⟩
section
variable {prog : Program} {w : World} {A : Around} {E : Value → Shared → Prop} {s : Shared} {a : Addr} {es : Array (Int × Value)} {ep : Nat} {t : SetTable}
/-- how the walk goes by places -/
theorem walks_place {I : Addr} (hh : A.handled = none) (hI : a ≠ I) (ws : List Value) (hl : ws.length = es.size) (Gd : Nat → Nat → Prop)
    (hs : ∀ (i slot : Nat), i < ws.length → Gd i slot → ∃ x j, ws[i]? = some x ∧ Gd (i + 1) j ∧ ∀ (s1 : Shared) (A1 : Around) (E1 : Value → Shared → Prop) (Q1 : Option (Value × Nat) → Shared → Prop), SetAt s1.heap a es ep t → Q1 (some (x, j)) s1 → wpAny (model prog w) A1 (setNext a slot i ep) Q1 E1 s1)
    (he : ∀ slot, Gd ws.length slot → ∀ (s1 : Shared) (A1 : Around) (E1 : Value → Shared → Prop) (Q1 : Option (Value × Nat) → Shared → Prop), SetAt s1.heap a es ep t → Q1 none s1 → wpAny (model prog w) A1 (setNext a slot ws.length ep) Q1 E1 s1) :
    Walks prog w A I [I, a] [I] ws.length (fun i v => ws[i]? = some v) (fun i h => SetAt h a es ep t ∧ ∃ slot, Gd i slot ∧ h.get? I = some (itO (.int (slot : Nat) 0) ((i : Nat) : Int) a es.size ep)) where
  sub := fun b hb => by rw [List.mem_singleton.mp hb]; exact List.mem_cons_self ..
  frame := fun i h h' st k => ⟨st.1.at fun o e => k a (by simp) o e, let ⟨slot, g, e⟩ := st.2; ⟨slot, g, k I (by simp) _ e⟩⟩
  item := fun i s Q E hi st hQ => by
    obtain ⟨x, slot, g, e⟩ := st
    obtain ⟨v, j, hv, gj, hn⟩ := hs i slot hi g
    refine step_place e x hI hn fun h' it' sb => hQ v h' s.toks hv ⟨x.at fun o z => (sb.2 a hI).trans z, j, gj, it'⟩ fun b o hb z => (sb.2 b fun y => hb (by rw [y]; exact List.mem_cons_self ..)).trans z
  done := fun s Q E st hQ => by
    obtain ⟨x, slot, g, e⟩ := st
    exact stop_place hh e x (he slot g) fun h' k => hQ h' s.toks fun b o hb z => k b o (fun y => hb (by rw [y]; exact List.mem_cons_self ..)) z
  self := fun i s Q E st hQ => by
    obtain ⟨x, slot, g, e⟩ := st
    exact it_self e hQ
theorem walks_drawn {I tp : Addr} (hh : A.handled = none) (hI : a ≠ I) (hT : tp ≠ I) (pl : List Nat) (c : Nat) (ws : List Value) (hl : ws.length = pl.length) (hs : ∀ (i : Nat) (v : Value), ws[i]? = some v → ∃ p k, pl[i]? = some p ∧ es[p]? = some (k, v)) :
    Walks prog w A I [I, a, tp] [I] ws.length (fun i v => ws[i]? = some v) (fun i h => SetAt h a es ep t ∧ h.get? tp = some (seqObj "tuple" (pl.map fun (y : Nat) => rawInt (y : Int)).toArray c) ∧ h.get? I = some (itO (.ref tp) ((i : Nat) : Int) a es.size ep)) where
  sub := fun b hb => by rw [List.mem_singleton.mp hb]; exact List.mem_cons_self ..
  frame := fun i h h' st k => ⟨st.1.at fun o e => k a (by simp) o e, k tp (by simp) _ st.2.1, k I (by simp) _ st.2.2⟩
  item := fun i s Q E hi st hQ => by
    obtain ⟨x, ot, e⟩ := st
    have hv : ws[i]? = some ws[i] := List.getElem?_eq_getElem hi
    obtain ⟨p, k, h1, h2⟩ := hs i _ hv
    exact next_drawn e x ot h1 h2 fun h' it' sb => hQ _ h' s.toks hv ⟨x.at fun o z => (sb.2 a hI).trans z, (sb.2 tp hT).trans ot, it'⟩ fun b o hb z => (sb.2 b fun y => hb (by rw [y]; exact List.mem_cons_self ..)).trans z
  done := fun s Q E st hQ => by
    obtain ⟨x, ot, e⟩ := st
    exact stop_drawn hh e x ot (List.getElem?_eq_none (by omega)) fun h' k => hQ h' s.toks fun b o hb z => k b o (fun y => hb (by rw [y]; exact List.mem_cons_self ..)) z
  self := fun i s Q E st hQ => it_self st.2.2 hQ
/-- the iterator: what it will walk -/
theorem iter_S {Q : Value → Shared → Prop} (x : SetAt s.heap a es ep t) (up : Up t.place) (ld : w.params.followText "set-order" = true ∨ t.led = true) (hz : es.size < scanBound)
    (h : ∀ (I : Addr) (fp : List Addr) (h' : Heap) (d : Drawn) (ws : List Value) (St : Nat → Heap → Prop), s.heap.objs.size ≤ I → (∀ b ∈ fp, b = a ∨ s.heap.objs.size ≤ b) → (∀ b o, s.heap.get? b = some o → h'.get? b = some o) → (∀ b, b ∈ fp → b < h'.objs.size) → ws.Perm (es.toList.map (·.2)) →
      (∀ A1 : Around, A1.handled = none → Walks prog w A1 I fp [I] ws.length (fun i v => ws[i]? = some v) St) → St 0 h' → Q (.ref I) { s with heap := h', drawn := d }) : wpAny (model prog w) A (pyIter (.ref a)) Q E s := by
  obtain ⟨o, ho, hex, hd, hf⟩ := id x
  have ty : s.TypeIs (.ref a) "set" := ⟨o, ho, hex.1⟩
  have la : a < s.heap.objs.size := Heap.lt_size ho
  refine wpAny_pyIter_slot ty F.slot_set_iter (wpAny_call_entry F.slot_set_iter ty en_iter ?_ (F.args_set_iter_1 _))
  refine wpAny_bind (m := Builtin.Frozenset.slot0 "__iter__" _) (wpAny_pure (wpAny_bind (wpAny_bind (wpAny_bind (wp_state x (wpAny_pure (wpAny_pure ?_)))))))
  refine wpAny_bind (wpAny_bind (wp_state x (wpAny_bind (wp_byText (wpAny_pure ?_)))))
  have plain : (w.params.followText "set-order" = true ∨ (!t.plain && decide (es.size > 1)) = false) → ∀ (h1 : Heap), SetAt h1 a es ep t → (∀ b o, s.heap.get? b = some o → h1.get? b = some o) → h1.objs.size = s.heap.objs.size → Q (.ref h1.objs.size) { s with heap := h1.push (itO (rawInt 0) ((0 : Nat) : Int) a es.size ep) } := fun hor h1 x1 k1 sz => by
    have hI : a ≠ h1.objs.size := by rw [sz]; exact Nat.ne_of_lt la
    have q := fun ws St => h h1.objs.size [h1.objs.size, a] (h1.push (itO (rawInt 0) ((0 : Nat) : Int) a es.size ep)) s.drawn ws St (by rw [sz]; exact Nat.le_refl _) (fun b hb => by
      rcases List.mem_cons.mp hb with z | z
      · exact .inr (by rw [z, sz]; exact Nat.le_refl _)
      · exact .inl (List.mem_singleton.mp z)) (fun b o e => Heap.get?_push_of_some _ (k1 b o e)) (fun b hb => by
      rw [size_push']
      rcases List.mem_cons.mp hb with z | z
      · rw [z]; exact Nat.lt_succ_self _
      · rw [List.mem_singleton.mp z, sz]; exact Nat.lt_succ_of_lt la)
    have x2 : SetAt (h1.push (itO (rawInt 0) ((0 : Nat) : Int) a es.size ep)) a es ep t := x1.at fun o e => Heap.get?_push_of_some _ e
    cases bt : w.params.followText "set-order" with
    | true =>
      have pp := pick_perm (w.params.setOrder a ep) es
      have pl : (pickOrder (w.params.setOrder a ep) es).size = es.size := by have := pp.length_eq; rwa [Array.length_toList, Array.length_toList] at this
      have wl : ((pickOrder (w.params.setOrder a ep) es).toList.map (·.2)).length = es.size := by rw [List.length_map, Array.length_toList, pl]
      have at' : ∀ i : Nat, ((pickOrder (w.params.setOrder a ep) es).toList.map (·.2))[i]? = ((pickOrder (w.params.setOrder a ep) es)[i]?).map (·.2) := fun i => by rw [List.getElem?_map, Array.getElem?_toList]
      refine q ((pickOrder (w.params.setOrder a ep) es).toList.map (·.2)) _ (pp.map _) (fun A1 h1' => walks_place h1' hI _ wl (fun _ _ => True) (fun i slot hi _ => ?_) fun slot _ s1 A2 E1 Q1 y z => ?_) ⟨x2, 0, trivial, Heap.get?_push_size _ rfl⟩
      · have hi' : i < (pickOrder (w.params.setOrder a ep) es).size := by rw [wl] at hi; rw [pl]; exact hi
        refine ⟨(pickOrder (w.params.setOrder a ep) es)[i].2, slot, by rw [at', Array.getElem?_eq_getElem hi']; rfl, trivial, fun s1 A2 E1 Q1 y z => next_text y bt ?_⟩
        rw [Array.getElem?_eq_getElem hi']; exact z
      · refine next_text y bt ?_
        rw [wl, Array.getElem?_eq_none (by rw [pl]; exact Nat.le_refl _)]; exact z
    | false =>
      have hp := hor.resolve_left (by rw [bt]; exact Bool.false_ne_true)
      have hl := ld.resolve_left (by rw [bt]; exact Bool.false_ne_true)
      have psz : t.place.size = es.size := by
        simp only [SetTable.fits, Bool.and_eq_true, beq_iff_eq] at hf
        exact hf.1
      have wl : (es.toList.map (·.2)).length = es.size := by rw [List.length_map, Array.length_toList]
      refine q (es.toList.map (·.2)) _ (List.Perm.refl _) (fun A1 h1' => walks_place h1' hI _ wl (fun i slot => SetTable.below t.place slot = i) (fun i slot hi g => ?_) fun slot g s1 A2 E1 Q1 y z => ?_) ⟨x2, 0, below_0 up, Heap.get?_push_size _ rfl⟩
      · rw [wl] at hi
        refine ⟨es[i].2, t.place.getD i 0 + 1, by rw [List.getElem?_map, Array.getElem?_toList, Array.getElem?_eq_getElem hi]; rfl, below_at up (by omega), fun s1 A2 E1 Q1 y z => next_place y bt hp hl ?_⟩
        rw [g, Array.getElem?_eq_getElem hi, Array.getElem?_eq_getElem (show i < t.place.size by omega)]
        have : t.place.getD i 0 = t.place[i]'(by omega) := by simp [Array.getD, show i < t.place.size by omega]
        rw [this] at z
        exact z
      · refine next_place y bt hp hl ?_
        rw [g, wl, Array.getElem?_eq_none (Nat.le_refl _)]
        exact z
  refine wpAny_ite_split (fun c => ?_) (fun c => ?_)
  · have c : (!w.params.followText "set-order" && (!t.plain && decide (es.size > 1))) = true := c
    rw [Bool.and_eq_true] at c
    refine wpAny_bind (wp_draw es.size (List.range es.size) s _ List.length_range fun pl d hp => wpAny_bind (wpAny_newTuple ?_ (by rw [List.length_map, hp.length_eq, List.length_range]; exact fits_of_scanBound hz)))
    have x1 : SetAt (s.heap.push (seqObj "tuple" (pl.map fun (y : Nat) => rawInt (y : Int)).toArray 0)) a es ep t := x.at fun o e => Heap.get?_push_of_some _ e
    refine wpAny_bind (wpAny_bind (wp_state x1 (wpAny_pure (wpAny_bind (wpAny_newObj_type (wpAny_pure ⟨_, rfl, "set_iterator", _, ⟨_, Heap.get?_push_size _ rfl, rfl⟩, sl_next.lookup, ?_⟩))))))
    have sz1 : (s.heap.push (seqObj "tuple" (pl.map fun (y : Nat) => rawInt (y : Int)).toArray 0)).objs.size = s.heap.objs.size + 1 := size_push' _ _
    have g0 : (s.heap.push (seqObj "tuple" (pl.map fun (y : Nat) => rawInt (y : Int)).toArray 0)).get? s.heap.objs.size = some (seqObj "tuple" (pl.map fun (y : Nat) => rawInt (y : Int)).toArray 0) := Heap.get?_push_size _ rfl
    have pin : ∀ p ∈ pl, p < es.size := fun p hm => List.mem_range.mp (hp.mem_iff.mp hm)
    have wsl : (pl.map fun p => (es.getD p (0, .none)).2).length = pl.length := List.length_map _
    refine h _ [s.heap.objs.size + 1, a, s.heap.objs.size] _ d (pl.map fun p => (es.getD p (0, .none)).2) (fun i h => SetAt h a es ep t ∧ h.get? s.heap.objs.size = some (seqObj "tuple" (pl.map fun (y : Nat) => rawInt (y : Int)).toArray 0) ∧ h.get? (s.heap.objs.size + 1) = some (itO (.ref s.heap.objs.size) ((i : Nat) : Int) a es.size ep)) (by rw [sz1]; exact Nat.le_succ _) (fun b hb => ?_) (fun b o e => Heap.get?_push_of_some _ (Heap.get?_push_of_some _ e)) (fun b hb => ?_) ?_ (fun A1 h1' => ?_) ?_
    · simp only [List.mem_cons, List.not_mem_nil, or_false] at hb
      rcases hb with z | z | z
      · exact .inr (by rw [z]; exact Nat.le_succ _)
      · exact .inl z
      · exact .inr (by rw [z]; exact Nat.le_refl _)
    · rw [size_push', sz1]
      simp only [List.mem_cons, List.not_mem_nil, or_false] at hb
      rcases hb with z | z | z
      · rw [z]; exact Nat.lt_succ_self _
      · rw [z]; exact Nat.lt_succ_of_lt (Nat.lt_succ_of_lt la)
      · rw [z]; exact Nat.lt_succ_of_lt (Nat.lt_succ_self _)
    · have e1 : es.toList.map (·.2) = (List.range es.size).map fun p => (es.getD p (0, .none)).2 := by
        refine List.ext_getElem? fun i => ?_
        rw [List.getElem?_map, List.getElem?_map, Array.getElem?_toList]
        by_cases z : i < es.size
        · rw [Array.getElem?_eq_getElem z, List.getElem?_range z]; simp [Array.getD, z]
        · rw [Array.getElem?_eq_none (by omega), List.getElem?_eq_none (by rw [List.length_range]; omega)]; rfl
      rw [e1]; exact hp.map _
    · rw [sz1]
      refine walks_drawn (t := t) h1' (Nat.ne_of_lt (Nat.lt_succ_of_lt la)) (Nat.ne_of_lt (Nat.lt_succ_self _)) pl 0 _ wsl fun i v hv => ?_
      rw [List.getElem?_map] at hv
      cases hpi : pl[i]? with
      | none => rw [hpi] at hv; cases hv
      | some p =>
        rw [hpi] at hv
        have hps := pin p (List.mem_of_getElem? hpi)
        refine ⟨p, es[p].1, rfl, ?_⟩
        have : v = es[p].2 := by
          have : some (es.getD p (0, .none)).2 = some v := hv
          injection this with this
          rw [← this]; simp [Array.getD, hps]
        rw [Array.getElem?_eq_getElem hps, this]
    · refine ⟨x1.at fun o e => Heap.get?_push_of_some _ e, Heap.get?_push_of_some _ g0, ?_⟩
      rw [← sz1]
      exact Heap.get?_push_size _ rfl
  · have c : ¬ (!w.params.followText "set-order" && (!t.plain && decide (es.size > 1))) = true := c
    refine wpAny_bind (wpAny_pure (wpAny_bind (wpAny_bind (wp_state x (wpAny_pure (wpAny_bind (wpAny_newObj_type (wpAny_pure ⟨_, rfl, "set_iterator", _, ⟨_, Heap.get?_push_size _ rfl, rfl⟩, sl_next.lookup, ?_⟩))))))))
    refine plain ?_ s.heap x (fun _ _ e => e) rfl
    cases z : w.params.followText "set-order" with
    | true => exact .inl rfl
    | false =>
      rw [z] at c
      exact .inr (by simpa using c)
end
end Tab

set_option Elab.async false
set_option linter.all false
set_option maxRecDepth 100000
set_option maxHeartbeats 3200000
/-! sorted of a set of whole numbers -/
namespace Tab
open PySem PyProof.Rows
theorem perm_of_sub {l1 l2 : List Int} (hn : l2.Nodup) : ∀ {l1 : List Int}, (∀ x ∈ l2, x ∈ l1) → l1.length = l2.length → l1.Perm l2 := by
  induction l2 with
  | nil => intro l1 _ h; rw [List.eq_nil_of_length_eq_zero h]
  | cons y r ih =>
    intro l1 hs hl
    have hy := hs y (List.mem_cons_self ..)
    obtain ⟨h1, h2⟩ := List.nodup_cons.mp hn
    have e := List.perm_cons_erase hy
    refine e.trans ((ih h2 (fun x hx => ?_) ?_).cons y)
    · exact (List.mem_erase_of_ne fun z => h1 (by rw [← z]; exact hx)).mpr (hs x (List.mem_cons_of_mem _ hx))
    · rw [List.length_erase_of_mem hy, hl]; simp
def Got (s : Shared) (h1 : Heap) (S : Addr) (es : Array (Int × Value)) (q : Result) (s' : Shared) : Prop := ∃ (h' : Heap) (tk : Nat) (d : Drawn) (acc : Array Value) (c : Nat), q = .ok (.ret (.ref S)) ∧ s' = { s with heap := h', toks := tk, drawn := d } ∧ h'.get? S = some { cls := .type "list", dict := none, data := .seq acc c, slots := #[] } ∧ (∀ b o, b ≠ S → h1.get? b = some o → h'.get? b = some o) ∧ acc.toList.Perm (es.toList.map (·.2))
section
variable {prog : Program} {w : World} {A : Around} {E : Value → Shared → Prop} {s : Shared} {a : Addr}
theorem hint_S {Q : Bool → Shared → Prop} (hT : s.TypeIs (.ref a) "set") (h : Q false s) : wpAny (model prog w) A (Builtin.List.listLengthHint (.ref a)) Q E s := by
  unfold Builtin.List.listLengthHint
  refine wpAny_bind (wpAny_specialOf hT PySem.F.slot_set_len.lookup ?_)
  generalize hid : ("set.__len__" : String) = id0
  wp_delta
  rw [show splitId id0 = some ("set", "__len__") from by subst hid; decide +kernel]
  subst hid
  refine wpAny_bind (wpAny_isInstance (T := "set") (b := true) hT (by rw [isSubtype_type]; kernel_rfl) (wpAny_ite_split (fun z => absurd z (by decide)) (fun _ => wpAny_ite_split (fun _ => ?_) (fun z => absurd (by decide +kernel) z))))
  exact wpAny_bind (wpAny_typeOf hT (wpAny_pure h))
theorem collect_S {es : Array (Int × Value)} {ep : Nat} {t : SetTable} {R : List Value → Shared → Prop} (x : SetAt s.heap a es ep t) (up : Up t.place) (ld : w.params.followText "set-order" = true ∨ t.led = true) (hz : es.size < scanBound) (hh : A.handled = none)
    (h : ∀ (h' : Heap) (tk : Nat) (d : Drawn) (vs : List Value), s.heap.objs.size ≤ h'.objs.size → (∀ b o, s.heap.get? b = some o → h'.get? b = some o) → vs.Perm (es.toList.map (·.2)) → R vs { s with heap := h', toks := tk, drawn := d }) : wpAny (model prog w) A (collect (.ref a)) R E s := by
  obtain ⟨o, ho, hex, hd, hf⟩ := id x
  have la : a < s.heap.objs.size := Heap.lt_size ho
  refine wpAny_bind (wpAny_runValue (codeAny_builtin entry_proto_collect' ?_))
  rw [Around.under_plainId PySem.F.plain_proto_collect _]
  refine wpAny_bind (m := newList []) (wpAny_newObj_type (wpAny_pure ⟨plainId_quiet PySem.F.plain_list_iadd _, codeAny_builtin entry_list_iadd' ?_⟩))
  rw [Around.under_plainId PySem.F.plain_list_iadd _]
  obtain ⟨S, eS⟩ : ∃ S, S = s.heap.objs.size := ⟨_, rfl⟩
  have hS1 : (s.heap.push { cls := .type "list", data := .seq ([] : List Value).toArray }).get? S = some { cls := .type "list", data := .seq #[] } := by rw [eS]; exact Heap.get?_push_size _ rfl
  have x1 : SetAt (s.heap.push { cls := .type "list", data := .seq ([] : List Value).toArray }) a es ep t := x.at fun o e => Heap.get?_push_of_some _ e
  have sz1 : (s.heap.push { cls := .type "list", data := .seq ([] : List Value).toArray }).objs.size = S + 1 := by rw [eS]; exact size_push' _ _
  have k1 : ∀ b o, s.heap.get? b = some o → (s.heap.push { cls := .type "list", data := .seq ([] : List Value).toArray }).get? b = some o := fun b o e => Heap.get?_push_of_some _ e
  show wpAny _ A.in1 (Builtin.List.listExtendWith (.ref s.heap.objs.size) (.ref a) (.ref s.heap.objs.size)) _ _ _
  rw [← eS]
  generalize s.heap.push { cls := .type "list", data := .seq ([] : List Value).toArray } = h1 at hS1 x1 sz1 k1
  have nSa : S ≠ a := by rw [eS]; exact Nat.ne_of_gt la
  have fin : ∀ (acc : Array Value) (c : Nat) (h' : Heap) (tk : Nat) (d : Drawn), h'.get? S = some { cls := .type "list", dict := none, data := .seq acc c, slots := #[] } → (∀ b o, b ≠ S → h1.get? b = some o → h'.get? b = some o) → acc.toList.Perm (es.toList.map (·.2)) →
      wpAny (model prog w) A (do
        let o ← load S
        match o.data with
        | .seq xs _ => pure xs.toList
        | _ => unsupported "internal:collect") R E { s with heap := h', toks := tk, drawn := d } := fun acc c h' tk d g k hp =>
    wpAny_bind (wpAny_load g (wpAny_pure (h h' tk d acc.toList (by rw [← eS]; exact Nat.le_of_lt (Heap.lt_size g)) (fun b o e => k b o (by rw [eS]; exact Nat.ne_of_lt (Heap.lt_size e)) (k1 b o e)) hp)))
  have key : wpAny (model prog w) A.in1 (Builtin.List.listExtendWith (.ref S) (.ref a) (.ref S))
      (fun fn s' => match fn with | .done f => (Got s h1 S es) (.ok f) s' | .again c' => c'.quiet = true ∧ codeAny (model prog w) A c' (Got s h1 S es) s')
      (fun e s' => False) { s with heap := h1 } := by
    unfold Builtin.List.listExtendWith
    obtain ⟨o1, ho1, hex1, _⟩ := id x1
    refine wpAny_bind (wpAny_typeOf (T := "set") ⟨o1, ho1, hex1.1⟩ ?_)
    have n1 : Builtin.List.listSameRef (.ref S) (.ref a) = false := by simp [Builtin.List.listSameRef, nSa]
    have n2 : (Value.type "set" == Value.type "list") = false := by decide
    have n3 : (Value.type "set" == Value.type "tuple") = false := by decide
    rw [n1, n2, n3, if_neg (by simp)]
    refine wpAny_bind (iter_S x1 up ld hz fun I fp h2 d ws St lI hfp k2 lfp hp W st => ?_)
    have k2' : SetAt h2 a es ep t := x1.at fun o e => k2 _ _ e
    obtain ⟨o2, ho2, hex2, _⟩ := id k2'
    refine wpAny_bind (wpAny_holding (hint_S ⟨o2, ho2, hex2.1⟩ ?_))
    have nSf : S ∉ fp := fun z => by
      rcases hfp S z with y | y
      · exact nSa y
      · have y : h1.objs.size ≤ S := y
        rw [sz1] at y; exact Nat.not_succ_le_self _ y
    have nSI : S ≠ I := by
      intro y
      have z : h1.objs.size ≤ I := lI
      rw [sz1, ← y] at z; exact Nat.not_succ_le_self _ z
    have wl : ws.length ≤ sizeLine := by rw [hp.length_eq, List.length_map, Array.length_toList]; exact fits_of_scanBound hz
    have loop : ∀ (h3 : Heap) (c : Nat), St 0 h3 → (∀ b o, b ≠ S → h1.get? b = some o → h3.get? b = some o) → h3.get? S = some { cls := .type "list", data := .seq #[] c } → codeAny (model prog w) A (.builtin "list.extend.loop" ⟨[.ref S, .ref I, .ref S], []⟩) (Got s h1 S es) { s with heap := h3, drawn := d } := fun h3 c st3 k3 g3 => by
      refine codeAny_extend_loopS (W A.in1 hh).toS wl S nSf (.ref S) ws.length 0 _ #[] c rfl (Nat.zero_le _) st3 g3 (ItemsOf.nil _) fun s' acc c' hm g4 hacc => ?_
      refine ⟨s'.heap, s'.toks, d, acc, c', rfl, Moved.eq_with hm, g4, fun b o hb e => hm.heap b o (fun z => ?_) (k3 b o hb e), ?_⟩
      · rcases List.mem_cons.mp z with y | y
        · exact hb y
        · rw [List.mem_singleton.mp y] at e
          have := Heap.lt_size e
          exact absurd (Nat.lt_of_lt_of_le this lI) (Nat.lt_irrefl _)
      · obtain ⟨q1, q2⟩ := hacc
        have : acc.toList = ws := by
          refine List.ext_getElem? fun i => ?_
          by_cases z : i < ws.length
          · have e : acc.toList[i]? = some (acc.toList[i]'(by rw [Array.length_toList, q1]; exact z)) := List.getElem?_eq_getElem _
            have := q2 i _ (by rw [← Array.getElem?_toList]; exact e)
            rw [e]; exact this.symm
          · rw [List.getElem?_eq_none (by rw [Array.length_toList, q1]; omega), List.getElem?_eq_none (by omega)]
        rw [this]; exact hp
    have gS2 : h2.get? S = some { cls := .type "list", data := .seq #[] } := k2 _ _ hS1
    refine wpAny_ite_split (fun _ => ?_) (fun _ => wpAny_pure ⟨plainId_quiet PySem.F.plain_extend_loop _, loop h2 0 st (fun b o _ e => k2 b o e) gS2⟩)
    refine wpAny_bind (wpAny_rule (wpAny_bind (wpAny_bind (m := updateSeq S (·.push .none)) (wpAny_updateSeq gS2 rfl ?_))))
    have g3 := Heap.get?_update_self (Obj.mapSeq (·.push Value.none)) gS2 rfl
    refine wpAny_updateSeq (hz := by seq_fits) g3 rfl ?_
    have g4 := Heap.get?_update_self (Obj.mapSeq (·.pop)) g3 rfl
    refine wpAny_pure ⟨plainId_quiet PySem.F.plain_extend_loop _, loop _ _ ((W A.in1 hh).frame 0 _ _ st fun b hb o e => ?_) (fun b o hb e => ?_) g4⟩
    · have nb : b ≠ S := fun z => nSf (z ▸ hb)
      exact (Heap.get?_update_other _ _ (Ne.symm nb)).trans ((Heap.get?_update_other _ _ (Ne.symm nb)).trans e)
    · exact (Heap.get?_update_other _ _ (Ne.symm hb)).trans ((Heap.get?_update_other _ _ (Ne.symm hb)).trans (k2 b o e))
  refine wpAny_mono key (fun fn s' z => ?_) fun e s' z => z.elim
  cases fn with
  | done f =>
    obtain ⟨h', tk, d, acc, c, e, rfl, g, k, hp⟩ := z
    cases e
    exact fin acc c h' tk d g k hp
  | again c1 =>
    refine ⟨z.1, codeAny_mono z.2 fun q s2 y => ?_⟩
    obtain ⟨h', tk, d, acc, c, rfl, rfl, g, k, hp⟩ := y
    exact fin acc c h' tk d g k hp
theorem sorted_S {ns : List Int} {Q : Value → Shared → Prop} (hh : A.handled = none) (hn : ns.Nodup) (hS : SetS (intKind prog w) s.heap a (fun k => ns.any (· == k)) ns.length)
    (h : ∀ (h' : Heap) (tk : Nat) (d : Drawn) (b : Addr) (out : List Value) (ms : List Int) (e : Nat), s.heap.objs.size ≤ b → (∀ b o, s.heap.get? b = some o → h'.get? b = some o) → h'.get? b = some (seqObj "list" out.toArray e) → IntsAre out ms → ms.Perm ns → ms.Pairwise (· ≤ ·) → Q (.ref b) { s with heap := h', toks := tk, drawn := d }) :
    wpAny (model prog w) A (call (.builtin "sorted") [.ref a]) Q E s := by
  obtain ⟨o, es, ep, t, ho, hex, hd, ⟨hel, hmem, hb, hf, hsz⟩, up, ld⟩ := hS
  have x : SetAt s.heap a es ep t := ⟨o, ho, hex, hd, hf⟩
  refine Tim.sorted_of (collect_S (A := A.in1) x up ld hb hh fun h' tk d vs lb k hp => ?_)
  have isI : ∀ v ∈ es.toList.map (·.2), ∃ n tt, v = .int n tt := fun v hv => by
    obtain ⟨e, he, rfl⟩ := List.mem_map.mp hv
    obtain ⟨⟨n, hk, _⟩, _⟩ := hel e he
    have hk : Value.isInt n e.2 = true := hk
    cases hv : e.2 with
    | int m tt => exact ⟨m, tt, rfl⟩
    | _ => rw [hv] at hk; cases hk
  have hvI : ∀ v ∈ vs, ∃ n tt, v = .int n tt := fun v hv => isI v (hp.mem_iff.mp hv)
  have hI := intsAre_map vs hvI
  have hvl : vs.length = ns.length := by rw [hp.length_eq, List.length_map, Array.length_toList, hsz]
  refine ⟨by rw [hvl, ← hsz]; exact fits_of_scanBound hb, vs.map numOf, hI, fun h2 out ms e k2 g q1 q2 q3 => ?_⟩
  have hks : (vs.map numOf).Perm ns := by
    refine perm_of_sub (l1 := []) hn (fun n hm => ?_) (by rw [List.length_map, hvl])
    have : ns.any (· == n) = true := List.any_eq_true.mpr ⟨n, hm, beq_self_eq_true _⟩
    obtain ⟨e, he, hk⟩ := (hmem n).mp this
    have hk : Value.isInt n e.2 = true := hk
    refine List.mem_map.mpr ⟨e.2, hp.mem_iff.mpr (List.mem_map.mpr ⟨e, he, rfl⟩), ?_⟩
    cases hv : e.2 with
    | int m tt =>
      rw [hv] at hk
      have : m = n := by simpa [Value.isInt] using hk
      exact this
    | _ => rw [hv] at hk; cases hk
  exact h h2 tk d h'.objs.size out ms e lb (fun b o z => k2 _ _ (k b o z)) g q1 (q2.trans hks) q3
end
end Tab

set_option Elab.async false
set_option linter.all false
set_option maxRecDepth 100000
set_option maxHeartbeats 1000000
/-! The steps i -> 5 i + 1 run through all places of a table of 2^k. -/
namespace Tab
end Tab

set_option Elab.async false
set_option linter.all false
set_option maxRecDepth 100000
set_option maxHeartbeats 1000000
/-! A free place of a table is found. -/
namespace Tab
open PySem PySem.SetTable
end Tab

set_option Elab.async false
set_option linter.all false
set_option maxRecDepth 100000
set_option maxHeartbeats 1000000
/-! A table laid anew holds every element once. -/
namespace Tab
open PySem PySem.SetTable
end Tab

set_option Elab.async false
set_option linter.all false
set_option maxRecDepth 100000
set_option maxHeartbeats 1000000
namespace Tab
open PySem PySem.SetTable
end Tab

set_option Elab.async false
set_option linter.all false
set_option maxRecDepth 100000
set_option maxHeartbeats 3200000
/-! a walk over a set of whole numbers that nobody sees -/
namespace Tab
open PySem PyProof.Rows
section
variable {prog : Program} {w : World} {A : Around} {E : Value → Shared → Prop} {s : Shared}
end
end Tab

set_option Elab.async false
set_option linter.all false
set_option maxRecDepth 100000
set_option maxHeartbeats 3200000
/-! one set put into another: the table laid anew, copied, or filled one by one -/
namespace Tab
open PySem PyProof.Rows
section
variable {prog : Program} {w : World} {A : Around} {E : Value → Shared → Prop} {s : Shared}
end
end Tab

set_option Elab.async false
set_option linter.all false
set_option maxRecDepth 100000
set_option maxHeartbeats 3200000
namespace Tab
open PySem PyProof.Rows
section
variable {prog : Program} {w : World} {A : Around} {E : Value → Shared → Prop} {s : Shared}
end
end Tab

set_option Elab.async false
set_option linter.all false
set_option maxRecDepth 100000
set_option maxHeartbeats 3200000
/-! & and | of sets of whole numbers -/
namespace Tab
open PySem PyProof.Rows
section
variable {prog : Program} {w : World} {A : Around} {E : Value → Shared → Prop} {s : Shared}
end
end Tab

set_option Elab.async false
set_option linter.all false
set_option maxRecDepth 100000
set_option maxHeartbeats 4000000
/-! sorted(set(list)) -/
namespace L2
open PySem PySem.Spec PyProof.Rows
def WS (P : Program) (w : World) (a : Addr) (ns : List Int) : Heap → Prop := fun h => Tab.SetS (intKind P w) h a (fun k => (dd ns).any (· == k)) (dd ns).length
theorem Inv.drw {X : Cx} {pins : List (Addr × Obj)} {σ : St} {H : Hp} {s : Shared} (I : Inv X pins σ H s) (d : Drawn) : Inv X pins σ H { s with drawn := d } := ⟨I.ok, I.os, I.bare, I.base, I.loc, I.cell, I.free, I.freeC, I.pin, I.hok, I.len⟩
theorem dd_nodup (l : List Int) : (dd l).Nodup := by
  have go : ∀ (l acc : List Int), acc.Nodup → (l.foldl (fun acc x => if acc.any (· == x) then acc else acc ++ [x]) acc).Nodup := fun l => by
    induction l with
    | nil => exact fun acc h => h
    | cons y r ih =>
      intro acc h
      refine ih _ ?_
      dsimp only
      by_cases z : acc.any (· == y) = true
      · rw [if_pos z]; exact h
      · rw [if_neg z]
        refine List.nodup_append.mpr ⟨h, by simp, fun a ha b hb e => z (List.any_eq_true.mpr ⟨a, ha, ?_⟩)⟩
        rw [e, List.mem_singleton.mp hb]; simp
  exact go l [] List.nodup_nil
theorem dd_le_len (l : List Int) : (dd l).length ≤ l.length := by
  have go : ∀ (l acc : List Int), (l.foldl (fun acc x => if acc.any (· == x) then acc else acc ++ [x]) acc).length ≤ acc.length + l.length := fun l => by
    induction l with
    | nil => exact fun acc => Nat.le_refl _
    | cons y r ih =>
      intro acc
      refine Nat.le_trans (ih _) ?_
      dsimp only
      by_cases z : acc.any (· == y) = true
      · rw [if_pos z, List.length_cons]; omega
      · rw [if_neg z]; simp only [List.length_append, List.length_cons, List.length_nil]; omega
  have := go l []
  rw [List.length_nil, Nat.zero_add] at this
  exact this
theorem valsI : ∀ {out : List Value} {ms : List Int}, IntsAre out ms → Vals (ms.map V.int) out
  | _, _, .nil => .nil
  | _, _, .cons n t h => .cons ⟨t, rfl⟩ (valsI h)
section
variable {X : Cx} {K : PySem.W.Frag}
theorem call_setW (e : X.K = K) (hc : X.calm = true) : CallR X (.type "set") (fun xs H Q => ∃ (a : Addr) (ns : List Int), xs = [.ref a] ∧ SqL K H a (ns.map V.int) ∧ ns.length ≤ 4000 ∧ ∀ p, H p = none → Q (.ref p) (upd H p (.ext (WS X.prog X.w p ns)))) := by
  subst e
  intro pins s σ H xs us Q I r h
  obtain ⟨a, ns, rfl, ha, hl, q⟩ := h
  obtain ⟨u, rfl, ru⟩ := vals1 r
  cases ru
  obtain ⟨its, rv, p, _⟩ := I.list ha
  have hlen : its.length = ns.length := by have := rv.length; rw [List.length_map] at this; exact this.symm
  refine Tab.call_S (ns := ns) (I.ok.hd hc) p.isList (by simpa using intsAre_of rv) (by rw [List.size_toArray, hlen]; unfold scanBound; omega) fun h' tk hS hk => ?_
  rw [show its.toArray.size = ns.length by rw [List.size_toArray, hlen], dd_first] at hS
  refine ⟨.ref s.heap.objs.size, _, I.laid (o := .ext (WS X.prog X.w s.heap.objs.size ns)) (fun b o z => hk b o (Heap.lt_size z) z) (Nat.le_refl _) ⟨hS, ?_, fun h1 h2 x k => x.at k⟩, rfl, q _ (I.hok.fresh (Nat.le_refl _))⟩
  obtain ⟨o, _, _, _, ho, _⟩ := hS
  exact ⟨o, ho⟩
theorem call_sortedW (hc : X.calm = true) : CallR X (.builtin "sorted") (fun xs H Q => ∃ (a : Addr) (ns : List Int), xs = [.ref a] ∧ H a = some (.ext (WS X.prog X.w a ns)) ∧ ns.length ≤ 4000 ∧ ∀ (p : Addr) (ms : List Int), H p = none → ms.Perm (dd ns) → ms.Pairwise (· ≤ ·) → Q (.ref p) (upd H p (.lst (ms.map V.int)))) := by
  intro pins s σ H xs us Q I r h
  obtain ⟨a, ns, rfl, ha, hl, q⟩ := h
  obtain ⟨u, rfl, ru⟩ := vals1 r
  cases ru
  obtain ⟨hS, _⟩ := (show ObjOk X.prog X.w H s.heap a (.ext (WS X.prog X.w a ns)) from I.hok a _ ha)
  refine Tab.sorted_S (I.ok.hd hc) (dd_nodup ns) hS fun h' tk d b out ms e lb kp g q1 q2 q3 => ?_
  have hl2 : (ms.map V.int).length ≤ sizeLine := by
    have := sizeLine_eq
    have := dd_le_len ns
    rw [List.length_map, q2.length_eq]; omega
  exact ⟨.ref b, _, (I.laid (t' := tk) kp lb (show ObjOk X.prog X.w _ h' _ (.lst (ms.map V.int)) from ⟨hl2, out, e, valsI q1, g⟩)).drw d, rfl, q _ ms (I.hok.fresh lb) q2 q3⟩
def tSortSet (ta : TA) (K : PySem.W.Frag) : TE := fun σ H Q => ta σ H fun vs H1 => ∃ (a : Addr) (ns : List Int), vs = [.ref a] ∧ SqL K H1 a (ns.map V.int) ∧ ns.length ≤ 4000 ∧ ∀ (p : Addr) (ms : List Int) (H' : Hp), H1 p = none → Same H1 H' → H' p = some (.lst (ms.map V.int)) → ms.Perm (dd ns) → ms.Pairwise (· ≤ ·) → Q (.ref p) H'
theorem pe_sortSet {e : Expr} {ta : TA} {p p2 pos pos2 : Pos} (eK : X.K = K) (hc : X.calm = true) (hg : Gl X "sorted") (hm : X.mg "sorted" = none) (hg2 : Gl X "set") (hm2 : X.mg "set" = none) (ha : PA X [e] ta)
    (hs : starEach [e] X.env = [(false, eval e X.env)] := by rfl) (hs2 : starEach [.Call (.Name "set" p2) [e] [] pos2] X.env = [(false, eval (.Call (.Name "set" p2) [e] [] pos2) X.env)] := by rfl) :
    PE X (.Call (.Name "sorted" p) [.Call (.Name "set" p2) [e] [] pos2] [] pos) (tSortSet ta K) := by
  intro pins s σ H Q I h
  refine wpAny_Call_Name_kw (ld_blt I hg hm boot_sorted' (PyProof.Rows.callWith_builtin1 ?_ hs2 rfl))
  rw [hs2]
  refine Calls.spliced_cons (Call_ (ld_blt I hg2 hm2 boot_set' (PyProof.Rows.callWith_type1 (thn (ha pos2 pins s σ H _ I h) fun us s1 ⟨vs, H1, I1, r1, q1⟩ => ?_) hs rfl)))
  obtain ⟨a, ns, rfl, hq, hl, q⟩ := q1
  refine thn (call_setW eK hc pins s1 σ H1 _ us (fun x H2 => ∃ p, x = .ref p ∧ H1 p = none ∧ H2 = upd H1 p (.ext (WS X.prog X.w p ns))) I1 r1 ⟨a, ns, rfl, hq, hl, fun p np => ⟨p, rfl, np, rfl⟩⟩) fun u s2 ⟨x, H2, I2, r2, b, ex, nb, eH⟩ => Calls.spliced_nil ?_
  subst ex eH
  exact call_sortedW hc pins s2 σ _ [.ref b] [u] Q I2 (.cons r2 .nil) ⟨b, ns, rfl, upd_same, hl, fun c ms nc hp hsd => q c ms _ ((Same.new nb).free nc) ((Same.new nb).trans (Same.new nc)) upd_same hp hsd⟩
end
end L2

set_option Elab.async false
set_option linter.all false
set_option maxRecDepth 100000
set_option maxHeartbeats 4000000
/-! Windows side by side. -/
namespace My
open PySem PySem.Spec L2
end My

set_option Elab.async false
set_option linter.all false
set_option maxRecDepth 100000
set_option maxHeartbeats 4000000
/-! Rows alike: last places, next places and plain rows go together. Rows by other names. -/
namespace My
open PySem PySem.Spec L2
end My
namespace L2
open PySem PySem.Spec PyProof.Rows
end L2
namespace My
end My

set_option Elab.async false
set_option linter.all false
set_option maxRecDepth 100000
set_option maxHeartbeats 4000000
/-! First places: their numbers, and those of a row from behind. -/
namespace My
open PySem PySem.Spec L2
theorem dd_id {l : List Int} (h : l.Nodup) : dd l = l := by
  have go : ∀ (l acc : List Int), (acc ++ l).Nodup → l.foldl (fun acc x => if acc.any (· == x) then acc else acc ++ [x]) acc = acc ++ l := fun l => by
    induction l with
    | nil => exact fun acc _ => (List.append_nil _).symm
    | cons y r ih =>
      intro acc h
      have hn : ¬ acc.any (· == y) = true := fun z => by
        obtain ⟨a, h1, h2⟩ := List.any_eq_true.mp z
        have e : a = y := by simpa using h2
        exact (List.nodup_append.mp h).2.2 a h1 y (List.mem_cons_self) e
      show r.foldl _ (if acc.any (· == y) then acc else acc ++ [y]) = _
      rw [if_neg hn, ih (acc ++ [y]) (by rw [List.append_assoc]; exact h), List.append_assoc]; rfl
  have := go l [] h
  exact this
theorem sorted_one {a b : List Int} (hp : a.Perm b) (ha : a.Pairwise (· ≤ ·)) (hb : b.Pairwise (· ≤ ·)) : a = b := hp.eq_of_pairwise (fun x y _ _ h1 h2 => Int.le_antisymm h1 h2) ha hb
end My

set_option Elab.async false
set_option linter.all false
set_option maxRecDepth 100000
set_option maxHeartbeats 4000000
/-! Ends, begins and first places of rows from behind, of other names, within longer rows; != of lists that are alike. -/
namespace My
open PySem PySem.Spec L2
section
variable {a ns c : List Int}
end
end My
namespace L2
open PySem PySem.Spec PyProof.Rows
section
variable {X : Cx}
end
end L2
namespace L2
open PySem PySem.Spec PyProof.Rows
end L2

set_option Elab.async false
set_option linter.all false
set_option maxRecDepth 100000
set_option maxHeartbeats 4000000
/-! sorted of a dict; a list and its copy; partings of any thing. -/
namespace L2
open PySem PySem.Spec PyProof.Rows
section
variable {X : Cx} {K : PySem.W.Frag}
end
end L2
namespace L2
open PySem PySem.Spec PyProof.Rows
section
variable {X : Cx}
end
end L2
namespace My
open PySem PySem.Spec L2
end My
namespace L2
open PySem PySem.Spec PyProof.Rows
end L2
namespace My
open PySem PySem.Spec L2
end My

set_option Elab.async false
set_option linter.all false
set_option maxRecDepth 100000
set_option maxHeartbeats 4000000
/-! Papers of windows, of any things. -/
namespace My
open PySem PySem.Spec L2
end My
namespace My
open PySem PySem.Spec L2
end My

set_option Elab.async false
set_option linter.all false
set_option maxRecDepth 100000
set_option maxHeartbeats 4000000
/-! Numbers that may be truths: +, -, >, str. -/
namespace L2
open PySem PySem.Spec PyProof.Rows
section
variable {X : Cx}
end
end L2

set_option Elab.async false
set_option linter.all false
set_option maxRecDepth 100000
set_option maxHeartbeats 4000000
/-! Tables with a thing otherwise. -/
namespace L2
open PySem PySem.Spec
end L2
namespace My
open PySem PySem.Spec L2
end My

set_option Elab.async false
set_option linter.all false
set_option maxRecDepth 100000
set_option maxHeartbeats 4000000
/-! < of lists of ints, and of tuples of an int and a list of ints. -/

namespace HT
open PySem PySem.Spec PyProof.Rows
open PySem.AutoSeq1 (wpAny_loadPart')
open PySem.MeetsSeq PySem.MeetsSeq2 PySem.MeetsSeq3
end HT

namespace HT
open PySem PySem.Spec PyProof.Rows
open PySem.AutoSeq1 (wpAny_loadPart')
open PySem.MeetsSeq PySem.MeetsSeq2 PySem.MeetsSeq3
def RcLtAt (A : Around) (s : Shared) (y x : Value) (b : Bool) : Prop :=
  ∀ (prog : Program) (w : World) (E : Value → Shared → Prop) (Q : Value → Shared → Prop), Q (.bool b) s → wpAny (model prog w) A (richCompare .Lt y x) Q E s
end HT
namespace L2
open PySem PySem.Spec PyProof.Rows
section
variable {X : Cx} {K : PySem.W.Frag}
end
end L2

set_option Elab.async false
set_option linter.all false
set_option maxRecDepth 100000
set_option maxHeartbeats 4000000
/-! All partings of a row, and which of them is the first. -/
namespace My
open L2
/-! ### the order -/
end My

set_option Elab.async false
set_option linter.all false
set_option maxRecDepth 100000
set_option maxHeartbeats 4000000
/-! & and | of sets, shares, decks. -/
namespace L2
open PySem PySem.Spec PyProof.Rows
section
variable {X : Cx}
end
/-! ### windows, shares, decks -/
end L2

set_option Elab.async false
set_option linter.all false
set_option maxRecDepth 100000
set_option maxHeartbeats 4000000
/-! dict(a list of pairs). -/
namespace LiD
open PySem PySem.Calls PyProof.Rows PySem.Spec L2
section
variable {prog : Program} {w : World} {A : Around} {E : Value → Shared → Prop} {s : Shared}
end
end LiD
namespace L2
open PySem PySem.Spec PyProof.Rows
section
variable {X : Cx}
end
end L2

set_option Elab.async false
set_option linter.all false
set_option maxRecDepth 100000
set_option maxHeartbeats 4000000
/-! The two windows that are most alike. -/
namespace L2
open PySem PySem.Spec PyProof.Rows
section
variable {X : Cx}
end
end L2
namespace My
open L2
end My

set_option Elab.async false
set_option linter.all false
set_option maxRecDepth 100000
set_option maxHeartbeats 4000000
/-! Windows that hold needs. -/
namespace My
open L2
end My

set_option Elab.async false
set_option linter.all false
set_option maxRecDepth 100000
set_option maxHeartbeats 4000000
/-! Held: what is lacking yet. -/
namespace L2
open PySem PySem.Spec PyProof.Rows
section
variable {X : Cx} {K : PySem.W.Frag} {o value : Expr} {ta tv : TE} {f : Str} {tpos pos : Pos}
end
end L2

set_option Elab.async false
set_option linter.all false
set_option maxRecDepth 100000
set_option maxHeartbeats 4000000
/-! A dict held against {}. -/
namespace L2
open PySem PySem.Spec PyProof.Rows
section
variable {X : Cx}
end
end L2
/-! ### a walk over a dict: it is frozen meanwhile -/
namespace L2
open PySem PySem.Spec PyProof.Rows
section
variable {X : Cx} {tg : Expr}
end
end L2

set_option Elab.async false
set_option linter.all false
set_option maxRecDepth 100000
set_option maxHeartbeats 4000000
/-! Needs: counts, what is left, ends. -/
namespace L2
open PySem PySem.Spec PyProof.Rows
end L2
namespace My
open L2
end My
namespace L2
open PySem PySem.Spec PyProof.Rows
end L2
namespace L2
open PySem PySem.Spec PyProof.Rows
section
variable {X : Cx} {K : PySem.W.Frag} {pins : List (Addr × Obj)} {σ : St} {H : Hp} {s : Shared}
end
end L2

set_option Elab.async false
set_option linter.all false
set_option maxRecDepth 100000
set_option maxHeartbeats 4000000
/-! The numbers of needs, taken apart. -/
namespace L2
open PySem PySem.Spec PyProof.Rows
end L2
namespace L2
open PySem PySem.Spec PyProof.Rows
end L2

set_option Elab.async false
set_option linter.all false
set_option maxRecDepth 100000
set_option maxHeartbeats 4000000
/-! The least of a list of pairs. -/
namespace HT
open PySem PySem.Spec PyProof.Rows
open PySem.AutoSeq1 (wpAny_loadPart')
open PySem.MeetsSeq PySem.MeetsSeq2 PySem.MeetsSeq3
def prLt (p q : Int × Int) : Bool := if p.1 = q.1 then decide (p.2 < q.2) else decide (p.1 < q.1)
theorem tuple_lt_ii (l b : Addr) (p q : Int × Int) (t u t' u' : Tok) (n n2 : Nat) (dd dd2 : Option Addr) (sl sl2 : Array (Option Value)) :
    Meets (Builtin.«tuple.__lt__» ⟨[.ref l, .ref b], []⟩)
      (fun A R s => s.heap.get? l = some { cls := .type "tuple", dict := dd, data := .seq #[.int p.1 t, .int p.2 t'] n, slots := sl } ∧ s.heap.get? b = some { cls := .type "tuple", dict := dd2, data := .seq #[.int q.1 u, .int q.2 u'] n2, slots := sl2 } ∧
        R (.ok (.ret (.bool (prLt p q)))) s) :=
  .of_wp fun prog w A R s h => by
    obtain ⟨hp, g, d, tk, os⟩ := s; obtain ⟨hl, hb, h⟩ := h
    have f2 := AutoSeq1.sub_tuple_tuple
    unfold prLt at h
    wp_walk using wpAny_loadPart' hl, wpAny_loadPart' hb, wpAny_forIn_list _ (fun rest b s' => b.1 = none ∧ s' = ⟨hp, g, d, tk, os⟩ ∧
      ((rest = [(.int p.1 t, .int q.1 u), (.int p.2 t', .int q.2 u')]) ∨ (p.1 = q.1 ∧ rest = [(.int p.2 t', .int q.2 u')]) ∨ (p.1 = q.1 ∧ p.2 = q.2 ∧ rest = []))) _
    case turn =>
      rintro ⟨y, x⟩ rest b s' ⟨hb', rfl, hz⟩
      rcases hz with hz | ⟨hac, hz⟩ | ⟨_, _, hz⟩
      · injection hz with hyx hrest
        injection hyx with hy hx
        subst hy hx
        obtain ⟨e, he', hiff⟩ := eqAt_int A.in1 ⟨hp, g, d, tk, os⟩ p.1 t q.1 u
        refine wpAny_bind (he' prog w _ _ ?_)
        cases e with
        | true =>
          wp_walk
          exact ⟨rfl, rfl, .inr (.inl ⟨hiff.mp rfl, hrest⟩)⟩
        | false =>
          rw [if_neg (fun q => absurd (hiff.mpr q) Bool.false_ne_true)] at h
          have hri := rcLt_int A.in1 ⟨hp, g, d, tk, os⟩ p.1 t q.1 u prog w
          wp_walk using hri
          exact ⟨_, rfl, by simpa using h⟩
      · injection hz with hyx hrest
        injection hyx with hy hx
        subst hy hx
        rw [if_pos hac] at h
        obtain ⟨e, he', hiff⟩ := eqAt_int A.in1 ⟨hp, g, d, tk, os⟩ p.2 t' q.2 u'
        refine wpAny_bind (he' prog w _ _ ?_)
        cases e with
        | true =>
          wp_walk
          exact ⟨rfl, rfl, .inr (.inr ⟨hac, hiff.mp rfl, hrest⟩)⟩
        | false =>
          have hri := rcLt_int A.in1 ⟨hp, g, d, tk, os⟩ p.2 t' q.2 u' prog w
          wp_walk using hri
          exact ⟨_, rfl, by simpa using h⟩
      · cases hz
    case fin =>
      rintro ⟨b1, b2⟩ s' ⟨hb', rfl, hz⟩
      simp only at hb'
      subst hb'
      rcases hz with hz | ⟨hac, hz⟩ | ⟨hac, hnm, _⟩
      · cases hz
      · cases hz
      rw [if_pos hac, decide_eq_false (by omega)] at h
      wp_walk
      exact ⟨_, rfl, by simpa [Builtin.Tuple.tupleCompareSizes] using h⟩
    case h => exact ⟨rfl, rfl, .inl rfl⟩
end HT
namespace L2
open PySem PySem.Spec PyProof.Rows
section
variable {X : Cx} {K : PySem.W.Frag} {pins : List (Addr × Obj)} {σ : St} {H : Hp} {s : Shared}
theorem rcLt_pr {A : Around} {t t' : Addr} {p q : Int × Int} (I : Inv X pins σ H s) (e1 : H t = some (.tup [.int p.1, .int p.2])) (e2 : H t' = some (.tup [.int q.1, .int q.2])) (hu : A.units < cLine) : HT.RcLtAt A s (.ref t) (.ref t') (HT.prLt p q) := fun prog w E Q h => by
  obtain ⟨xs, r1, p1, _⟩ := I.tuple (SqT.of e1)
  obtain ⟨ys, r2, p2, _⟩ := I.tuple (SqT.of e2)
  obtain ⟨v1, v2, rfl, ⟨t1, rfl⟩, ⟨t2, rfl⟩⟩ := vals2 r1
  obtain ⟨w1, w2, rfl, ⟨t3, rfl⟩, ⟨t4, rfl⟩⟩ := vals2 r2
  obtain ⟨⟨cls, dd, data, sl⟩, ho, hc, n, hd⟩ := id p1
  obtain ⟨⟨cls2, dd2, data2, sl2⟩, ho2, hc2, n2, hd2⟩ := id p2
  simp only at hc hd hc2 hd2
  subst hc hd hc2 hd2
  exact richCompare_meets_room (op := .Lt) ⟨_, ho, rfl⟩ ⟨_, ho2, rfl⟩ PySem.F.slot_tuple_lt PySem.F.entry_tuple_lt (PySem.F.args_tuple_lt_2 _ _) (HT.tuple_lt_ii t t' p q t1 t3 t2 t4 n n2 dd dd2 sl sl2)
    ⟨ho, ho2, show Value.bool (HT.prLt p q) ≠ Value.notImplemented ∧ Q (.bool (HT.prLt p q)) s from ⟨(fun x => nomatch x), h⟩⟩ hu
end
end L2

set_option Elab.async false
set_option linter.all false
set_option maxRecDepth 100000
set_option maxHeartbeats 4000000
/-! min(list of pairs). -/
namespace L2
open PySem PySem.Spec PyProof.Rows
theorem prLt_iff {p q : Int × Int} : HT.prLt p q = true ↔ p.1 < q.1 ∨ (p.1 = q.1 ∧ p.2 < q.2) := by
  unfold HT.prLt
  by_cases e : p.1 = q.1
  · rw [if_pos e]
    refine ⟨fun h => .inr ⟨e, of_decide_eq_true h⟩, fun h => decide_eq_true (h.elim (fun z => by omega) fun z => z.2)⟩
  · rw [if_neg e]
    exact ⟨fun h => .inl (of_decide_eq_true h), fun h => decide_eq_true (h.elim id fun z => absurd z.1 e)⟩
def PrLe (p q : Int × Int) : Prop := p.1 < q.1 ∨ (p.1 = q.1 ∧ p.2 ≤ q.2)
section
variable {X : Cx} {pins : List (Addr × Obj)} {σ : St} {H : Hp} {l S It : Addr} {ts : List Addr} {ps : List (Int × Int)}
end
end L2

set_option Elab.async false
set_option linter.all false
set_option maxRecDepth 100000
set_option maxHeartbeats 4000000
/-! The shortest windows that hold. -/
namespace My
open L2
end My
namespace L2
open PySem PySem.Spec PyProof.Rows
end L2

set_option Elab.async false
set_option linter.all false
set_option maxRecDepth 100000
set_option maxHeartbeats 4000000
/-! Tight windows within others. -/
namespace My
open L2
end My
namespace L2
open PySem PySem.Spec PyProof.Rows
end L2

set_option Elab.async false
set_option linter.all false
set_option maxRecDepth 100000
set_option maxHeartbeats 4000000
/-! Tight windows of other rows: from behind, of the same hold, of a row's front. -/
namespace My
open L2
end My

set_option Elab.async false
set_option linter.all false
set_option maxRecDepth 100000
set_option maxHeartbeats 4000000
/-! Tight windows with others ahead, and of the row twice. -/
namespace My
open L2
end My

set_option Elab.async false
set_option linter.all false
set_option maxRecDepth 100000
set_option maxHeartbeats 4000000
/-! What numbers come; numbers called otherwise. -/
namespace L2
open PySem PySem.Spec PyProof.Rows
end L2
namespace My
open L2
end My

set_option Elab.async false
set_option linter.all false
set_option maxRecDepth 100000
set_option maxHeartbeats 4000000
/-! What are no needs. -/
namespace L2
open PySem PySem.Spec PyProof.Rows
section
variable {X : Cx} {pins : List (Addr × Obj)} {σ : St} {H : Hp} {s : Shared}
end
/-! a dict of pairs has as many keys as there are unlike ones -/
end L2
namespace My
open PySem PySem.Spec L2
variable {σ : St} {k j : Nat} {X : Cx} {e e1 e2 : Expr} {es : List Expr} {pos : Pos} {p : V → Bool}
/-! a display of things that are no needs, in a for -/
end My

set_option Elab.async false
set_option linter.all false
set_option maxRecDepth 100000
set_option maxHeartbeats 4000000
/-! Lambdas: made, handed on, called; cells that a callee may read. -/
namespace L2
open PySem PySem.Spec PyProof.Rows
/-- a function stands there -/
def FnIs (f : Addr) (fd : FuncData) (h : Heap) : Prop := ∃ o, h.get? f = some o ∧ o.data = .func fd
def CdIs (c : Addr) (q : Str) (h : Heap) : Prop := h.CodeRec (.ref c) q
theorem fnIs_st {f : Addr} {fd : FuncData} (h1 h2 : Heap) (x : FnIs f fd h1) (k : ∀ o, h1.get? f = some o → h2.get? f = some o) : FnIs f fd h2 := let ⟨o, e, d⟩ := x; ⟨o, k o e, d⟩
theorem cdIs_st {c : Addr} {q : Str} (h1 h2 : Heap) (x : CdIs c q h1) (k : ∀ o, h1.get? c = some o → h2.get? c = some o) : CdIs c q h2 := by
  obtain ⟨c', o, vs, t, e, r1, r2⟩ := x
  cases e
  exact ⟨c, o, vs, t, rfl, k o r1, r2⟩
def FnAt (H : Hp) (f : Addr) (fd : FuncData) : Prop := H f = some (.ext (FnIs f fd))
def CdAt (H : Hp) (c : Addr) (q : Str) : Prop := H c = some (.ext (CdIs c q))
section
variable {X : Cx} {pins : List (Addr × Obj)} {σ : St} {H : Hp} {s : Shared}
theorem FnAt.is {P : Program} {w : World} {h : Heap} {f : Addr} {fd : FuncData} (x : FnAt H f fd) (ok : HOk P w H h) : FnIs f fd h := (ok f _ x).1
theorem CdAt.is {P : Program} {w : World} {h : Heap} {c : Addr} {q : Str} (x : CdAt H c q) (ok : HOk P w H h) : h.CodeRec (.ref c) q := (ok c _ x).1
/-! ### making one -/
/-- what is known of the module for it: its builtins, the def's own code record and table -/
def BmAt (base : Heap) (mg : Str → Option Value) : Prop := ∃ bm o, mg "__builtins__" = some (.ref bm) ∧ bm ≠ builtinsNs ∧ bm ≠ mainGlobals ∧ base.get? bm = some o ∧ o.cls = .type "module" ∧ o.dict = some builtinsNs ∧ o.data = .plain
structure LamTxt (K : PySem.W.Frag) (mg : Str → Option Value) (base : Heap) (c P : Addr) : Prop where
  hd : PySem.W.codeHdIn K c P = true
  bm : BmAt base mg
def lamFd (qual : Str) (params : Arguments) (body : Expr) (scope : Scope) (cl : List (Str × Addr)) (pm : Value) (c' : Addr) (ct : Value) : FuncData := PySem.W.kla_fn "<lambda>" qual params body scope cl pm (.ref c') ct
def tblWith (ps : Array Value) (pos : Pos) (c' : Addr) : Array Value := ps ++ #[rawInt pos.line, rawInt pos.col, .ref c']
def lamH (H : Hp) (P : Addr) (ps : Array Value) (pos : Pos) (c' f : Addr) (q : Str) (fd : FuncData) : Hp := upd (upd (upd H P (.tbl (tblWith ps pos c'))) c' (.ext (CdIs c' q))) f (.ext (FnIs f fd))
def tLam (P : Addr) (q : Str) (params : Arguments) (body : Expr) (scope : Scope) (cl : List (Str × Addr)) (pos : Pos) : TE := fun _ H Q => ∃ ps, H P = some (.tbl ps) ∧ TriplesOk ps.toList ∧ codeAmong pos ps.toList = none ∧
  ∀ (f c' : Addr) (pm ct : Value), H f = none → H c' = none → f ≠ c' → Q (.ref f) (lamH H P ps pos c' f q (lamFd q params body scope cl pm c' ct))
theorem pe_lam {c P : Addr} {params : Arguments} {body : Expr} {scope : Scope} {cl : List (Str × Addr)} {pos : Pos} (L : LamTxt X.K X.mg X.base c P) (hc : X.env.code = .ref c) (hcl : closureFor scope X.env = pure cl) (hdef : defaultsOf params X.env = ([], [])) :
    PE X (.Lambda params body scope pos) (tLam P (X.env.qual ++ "<lambda>") params body scope cl pos) := by
  intro pins s σ H Q I ⟨ps, hP, ht, hnf, q⟩
  refine PySem.W.kla_eval hdef ?_
  have oP : s.heap.get? P = some (PySem.W.tabObj ps) := I.hok P _ hP
  have C : PySem.W.CodeHd s.heap c P := PySem.W.codeHd_of_K I.kIn L.hd
  have hg : s.heap.Ns mainGlobals X.mg := I.ok.mod.glob.keeps I.bk
  obtain ⟨bm, o, b1, n1, n2, b3, b4, b5, b6⟩ := L.bm
  have b3' := I.bk _ _ b3
  have hgP : mainGlobals ≠ P := fun z => by
    obtain ⟨o', es, ep, e, hd, _⟩ := hg
    rw [z, oP] at e; cases e; cases hd
  have hbP : bm ≠ P := fun z => by
    rw [z, oP] at b3'; cases b3'; cases b4
  refine PySem.W.kla_makeFunction (mg := X.mg) hcl I.ok.glob hg hc C oP ht hnf hgP ⟨bm, o, b1, n1, n2, hbP, b3', b4, b5, b6⟩ fun c' ct h' tk hx hge hlt hrec htb => ?_
  have hHc : H c' = none := I.hok.fresh hge
  have hsz : s.heap.objs.size ≤ h'.objs.size := Nat.le_trans hge (Nat.le_of_lt hlt)
  have hHf : H h'.objs.size = none := I.hok.fresh hsz
  have nfc : h'.objs.size ≠ c' := Nat.ne_of_gt hlt
  have nPc : P ≠ c' := fun z => by rw [z, hHc] at hP; cases hP
  have nPf : P ≠ h'.objs.size := fun z => by rw [← z] at hHf; rw [hP] at hHf; cases hHf
  have hH : ∀ b, b ≠ P → b ≠ c' → b ≠ h'.objs.size → lamH H P ps pos c' h'.objs.size (X.env.qual ++ "<lambda>") (lamFd (X.env.qual ++ "<lambda>") params body scope cl ((X.mg "__name__").getD .none) c' ct) b = H b := fun b n1 n2 n3 => by
    unfold lamH
    rw [upd_ne n3, upd_ne n2, upd_ne n1]
  have hHP : lamH H P ps pos c' h'.objs.size (X.env.qual ++ "<lambda>") (lamFd (X.env.qual ++ "<lambda>") params body scope cl ((X.mg "__name__").getD .none) c' ct) P = some (.tbl (tblWith ps pos c')) := by
    unfold lamH
    rw [upd_ne nPf, upd_ne nPc, upd_same]
  have hHc2 : lamH H P ps pos c' h'.objs.size (X.env.qual ++ "<lambda>") (lamFd (X.env.qual ++ "<lambda>") params body scope cl ((X.mg "__name__").getD .none) c' ct) c' = some (.ext (CdIs c' (X.env.qual ++ "<lambda>"))) := by
    unfold lamH
    rw [upd_ne nfc.symm, upd_same]
  have hHf2 : lamH H P ps pos c' h'.objs.size (X.env.qual ++ "<lambda>") (lamFd (X.env.qual ++ "<lambda>") params body scope cl ((X.mg "__name__").getD .none) c' ct) h'.objs.size = some (.ext (FnIs h'.objs.size (lamFd (X.env.qual ++ "<lambda>") params body scope cl ((X.mg "__name__").getD .none) c' ct))) := by
    unfold lamH
    rw [upd_same]
  refine ⟨.ref h'.objs.size, _, ?_, rfl, q h'.objs.size c' ((X.mg "__name__").getD .none) ct hHf hHc nfc⟩
  generalize lamH H P ps pos c' h'.objs.size (X.env.qual ++ "<lambda>") (lamFd (X.env.qual ++ "<lambda>") params body scope cl ((X.mg "__name__").getD .none) c' ct) = H3 at hH hHP hHc2 hHf2
  have kp : ∀ b o, b ≠ P → s.heap.get? b = some o → (h'.push (PySem.W.kla_obj "<lambda>" (X.env.qual ++ "<lambda>") params body scope cl ((X.mg "__name__").getD .none) c' ct)).get? b = some o := fun b o n e => Heap.get?_push_of_some _ (hx b o n e)
  have nb : ∀ b, H b = none → b ≠ P := fun b n z => by rw [z, hP] at n; cases n
  have old : ∀ b o, s.heap.get? b = some o → b ≠ c' ∧ b ≠ h'.objs.size := fun b o e => ⟨Nat.ne_of_lt (Nat.lt_of_lt_of_le (Heap.lt_size e) hge), Nat.ne_of_lt (Nat.lt_of_lt_of_le (Heap.lt_size e) hsz)⟩
  have trk : ∀ b u, H b = some u → b ≠ P → H3 b = some u := fun b u e n => by
    rw [hH b n (fun z => by rw [z, hHc] at e; cases e) (fun z => by rw [z, hHf] at e; cases e)]; exact e
  refine I.un ⟨fun b o e n _ _ => kp b o (nb b n) e, fun b o e n _ _ => ⟨o.slots, kp b o (nb b n) e⟩, fun b o e n _ => ?_, fun b o e _ => ?_, fun b xs e => trk b _ e (fun z => by rw [z, hP] at e; cases e), fun b o u e => trk b _ e (fun z => by rw [z, hP] at e; cases e), fun b ps' e => ?_⟩ fun b u e => ?_
  · rw [hH b (nb b n) (old b o e).1 (old b o e).2]; exact n
  · by_cases z : b = P
    · exact ⟨_, by rw [z]; exact Heap.get?_push_of_some _ htb⟩
    · exact ⟨o, kp b o z e⟩
  · by_cases z : b = P
    · rw [z, hP] at e; cases e
      exact ⟨#[rawInt pos.line, rawInt pos.col, .ref c'], by rw [z, hHP]; rfl⟩
    · exact ⟨#[], by rw [trk b _ e z, Array.append_empty]⟩
  · by_cases z1 : b = P
    · rw [z1, hHP] at e; cases e
      rw [z1]
      exact Heap.get?_push_of_some _ htb
    · by_cases z2 : b = h'.objs.size
      · rw [z2, hHf2] at e; cases e
        rw [z2]
        refine ⟨⟨_, Heap.get?_push_size _ rfl, rfl⟩, ⟨_, Heap.get?_push_size _ rfl⟩, fnIs_st⟩
      · by_cases z3 : b = c'
        · rw [z3, hHc2] at e; cases e
          rw [z3]
          obtain ⟨c2, oc, vs, t, e1, e2, e3⟩ := hrec
          cases e1
          exact ⟨⟨c', oc, vs, t, rfl, Heap.get?_push_of_some _ e2, e3⟩, ⟨_, Heap.get?_push_of_some _ e2⟩, cdIs_st⟩
        · rw [hH b z1 z3 z2] at e
          refine (I.hok b u e).stay (fun b' o' hb' e' => kp b' o' ?_ e') (fun b' e' => trk b' _ e' fun z => by rw [z, hP] at e'; cases e') fun b' xs e' => trk b' _ e' fun z => by rw [z, hP] at e'; cases e'
          rcases hb' with z | z
          · rw [z]; exact z1
          · intro y; rw [y, hP] at z; cases z
end
/-! ### what a lambda promises -/
section
variable {P : Program} {w : World} {K : PySem.W.Frag} {mg : Str → Option Value} {base : Heap} {k : Nat} {f c' : Addr} {q : Str} {params : Arguments} {body : Expr} {scope : Scope} {cl : List (Str × Addr)} {pm ct : Value} {x1 x2 : Str} {zs : List V} {D : Int → Int → Prop} {g : Int → Int → Int}
end
/-! ### a call through which a cell of ours may be read -/
section
variable {X : Cx} {pins : List (Addr × Obj)} {σ : St} {H : Hp} {s : Shared}
end
/-! ### the head where the law's own table is known -/
def OnlyT (H : Hp) (P : Addr) : Prop := H P = some (.tbl #[]) ∧ ∀ b, H b = none ∨ b = P ∨ ∃ o xs, H b = some (.frz o (.lst xs))
theorem law_callT {P : Program} {w : World} {K : PySem.W.Frag} {mg mb : Str → Option Value} {CX : CXT} {k : Nat} {fa a c T : Addr} {fd : FuncData} {x : Str} {sp : Sp} {s₁ : Shared} {vs : List Value} {ns : List Int}
    (KX : K.In s₁.heap) (hT : s₁.heap.get? T = some (PySem.W.tabObj #[])) (hKT : K.lookup T = none) (hCd : PySem.W.codeHdIn K c T = true) (hns : s₁.heap.Ns mainGlobals mg) (hb : s₁.heap.Ns builtinsNs mb) (hbb : ∀ x : Str, x ≠ "__name__" → mb x = bootBuiltins x) (hlim : s₁.heap.NoLimit) (hg : s₁.gens = #[])
    (ha : s₁.heap.get? a = some { cls := .type "list", data := .seq vs.toArray }) (hi : IntsAre vs ns) (hl : ns.length ≤ sizeLine) (hr : Room k callerA)
    (hbm : BmAt s₁.heap mg) (F : ∀ base : Heap, K.In base → base.Ns mainGlobals mg → BmAt base mg → FnOk P w K mg base CX k fa fd [x] sp) (hbind : ∀ (s : Shared) (u : Value), BindsTo s fd ⟨[u], []⟩ [(x, u)])
    (hsp : ∀ H : Hp, OnlyT H T → SqL K H a (ns.map V.int) → sp [.ref a] H (fun v _ => v = .bl true) fun _ _ _ => False)
    (hCX : ∀ H e s', CX [] H s₁ (fun _ _ _ => False) e s' → False) :
    codeAny (model P w) callerA (.call (.ref fa) ⟨[.ref a], []⟩) (fun r s' => r = .ok (.ret (.bool true)) ∧ OldK s₁.heap s'.heap ∧ s'.os = s₁.os ∧ AllBare s'.gens) s₁ := by
  have rv := vals_ints hi
  have lenV := hi.length
  have naT : a ≠ T := fun z => by rw [z, hT] at ha; cases ha
  have core : ∀ H : Hp, OnlyT H T → SqL K H a (ns.map V.int) → HOk P w H s₁.heap → (∀ b, H b ≠ none → b = a ∨ b = T) → (H a ≠ none → K.lookup a = none) →
      codeAny (model P w) callerA (.call (.ref fa) ⟨[.ref a], []⟩) (fun r s' => r = .ok (.ret (.bool true)) ∧ OldK s₁.heap s'.heap ∧ s'.os = s₁.os ∧ AllBare s'.gens) s₁ := by
    intro H hO hS hok hA hK
    have base_of : ∀ {b : Addr} {o : Obj}, s₁.heap.get? b = some o → H b = none → (hidT s₁.heap H).get? b = some o := fun e n => hidT_get e n
    have noA : ∀ {b : Addr} {o : Obj} {es : Array DictEntry} {ep : Nat}, s₁.heap.get? b = some o → o.data = .dict es ep → H b = none := fun {b o es ep} e d => by
      cases q : H b with
      | none => rfl
      | some u =>
        rcases hA b (by rw [q]; simp) with e' | e'
        · subst e'
          rw [ha] at e; cases e
          have d' : Data.seq vs.toArray _ = Data.dict es ep := d
          cases d'
        · subst e'
          rw [hT] at e; cases e
          have d' : Data.fields #[] = Data.dict es ep := d
          cases d'
    have nsK : ∀ {b : Addr} {m : Str → Option Value}, s₁.heap.Ns b m → (hidT s₁.heap H).Ns b m := fun {b m} ⟨o, es, ep, e, d, r⟩ => ⟨o, es, ep, base_of e (noA e d), d, r⟩
    have hKb : K.In (hidT s₁.heap H) := fun b o e => base_of (KX b o e) (by
      cases q : H b with
      | none => rfl
      | some u =>
        rcases hA b (by rw [q]; simp) with e' | e'
        · subst e'
          rw [hK (by rw [q]; simp)] at e; cases e
        · subst e'
          rw [hKT] at e; cases e)
    have hM : Mod K mg (hidT s₁.heap H) := ⟨hKb, nsK hns, ⟨mb, nsK hb, hbb⟩, let ⟨mc, h1, h2⟩ := hlim; ⟨mc, nsK h1, h2⟩⟩
    have e0 : Env0 P w K mg (hidT s₁.heap H) callerA [] s₁ H := ⟨rfl, hM, fun b o e => of_hidT e, Nat.le_of_eq (hidT_size _ _), trivial, fun b hb => absurd (show b ∈ ([] : List Addr) from hb) (by simp), hok, .of_eq hg⟩
    have hbmB : BmAt (hidT s₁.heap H) mg := by
      obtain ⟨bm, o, b1, n1, n2, b3, b4, b5, b6⟩ := hbm
      refine ⟨bm, o, b1, n1, n2, base_of b3 ?_, b4, b5, b6⟩
      cases q : H bm with
      | none => rfl
      | some u =>
        rcases hA bm (by rw [q]; simp) with e' | e'
        · rw [e', ha] at b3; cases b3
          have b4 : Value.type "list" = Value.type "module" := b4
          injection b4 with b4
          exact absurd b4 (by decide)
        · rw [e', hT] at b3; cases b3; cases b4
    refine codeAny_mono ((F _ hKb (nsK hns) hbmB).run callerA [] s₁ H ⟨[.ref a], []⟩ [.ref a] [.ref a] _ _ hr e0 (hbind s₁ (.ref a)) (.cons rfl .nil) (hsp H hO hS)) fun r s' h => ?_
    cases r with
    | error e => exact (hCX H e s' h).elim
    | ok fl =>
      cases fl with
      | next => exact False.elim h
      | brk => exact False.elim h
      | cont => exact False.elim h
      | ret u =>
        obtain ⟨v, H', os, bare, un, hok', r', q⟩ := h
        have q' : v = .bl true := q
        subst q'
        obtain rfl : u = Value.bool true := r'
        refine ⟨rfl, ⟨fun b o e => ?_, fun b o e => un.there b o e (by simp)⟩, os, bare⟩
        rcases hO.2 b with z | z | ⟨ob, xs, z⟩
        · exact .inl (un.keep b o e z (by intro y; exact absurd (show b ∈ ([] : List Addr) from y) (by simp)) (by simp))
        · subst z
          obtain ⟨more, hm⟩ := un.tbls b #[] hO.1
          rw [hT] at e; cases e
          exact .inr (.inl ⟨((PySem.W.codeHd_of_K KX hCd).tab hT).isCodeTable, rfl, #[], more, rfl, hok' b _ hm⟩)
        · have z2 := un.frzs b ob _ z
          obtain ⟨e1, _⟩ := hok b _ z
          obtain ⟨e2, _⟩ := hok' b _ z2
          rw [e] at e1; cases e1
          exact .inl e2
  have tokT : ∀ H : Hp, H T = some (.tbl #[]) → ObjOk P w H s₁.heap T (.tbl #[]) := fun H _ => hT
  cases hk : K.lookup a with
  | some o =>
    have e := KX a o hk
    rw [ha] at e
    cases e
    refine core (fun b => if b = T then some (.tbl #[]) else none) ⟨if_pos rfl, fun b => ?_⟩ (.inr ⟨_, vs.toArray, _, hk, rfl, rfl, rfl, by rw [List.size_toArray, lenV]; exact hl, by simpa using rv⟩) (fun b u z => ?_) (fun b z => ?_) fun z => absurd (if_neg naT) z
    · by_cases hb : b = T
      · exact .inr (.inl hb)
      · exact .inl (if_neg hb)
    · by_cases hb : b = T
      · have z' := (if_pos hb).symm.trans z
        cases z'
        subst hb
        exact hT
      · have z' := (if_neg hb).symm.trans z
        cases z'
    · by_cases hb : b = T
      · exact .inr hb
      · exact absurd (if_neg hb) z
  | none =>
    refine core (fun b => if b = T then some (.tbl #[]) else if b = a then some (.frz { cls := .type "list", data := .seq vs.toArray } (.lst (ns.map V.int))) else none) ⟨if_pos rfl, fun b => ?_⟩ (.inl (.inr ⟨{ cls := .type "list", data := .seq vs.toArray }, (if_neg naT).trans (if_pos rfl)⟩)) (fun b u z => ?_) (fun b z => ?_) fun _ => hk
    · by_cases hT' : b = T
      · exact .inr (.inl hT')
      · by_cases hb : b = a
        · exact .inr (.inr ⟨_, _, (if_neg hT').trans (if_pos hb)⟩)
        · exact .inl ((if_neg hT').trans (if_neg hb))
    · by_cases hT' : b = T
      · have z' := (if_pos hT').symm.trans z
        cases z'
        subst hT'
        exact hT
      · have z0 := (if_neg hT').symm.trans z
        by_cases hb : b = a
        · have z' := (if_pos hb).symm.trans z0
          cases z'
          subst hb
          exact ⟨ha, by rw [List.length_map]; exact hl, vs, _, rv, ha⟩
        · have z' := (if_neg hb).symm.trans z0
          cases z'
    · by_cases hT' : b = T
      · exact .inr hT'
      · by_cases hb : b = a
        · exact .inl hb
        · exact absurd ((if_neg hT').trans (if_neg hb)) z
theorem walk_ofT {l : PySem.W.OpenLaw} {n k : Nat} {q : Program} {loose : List Str} {XP : (Str → Option Value) → Heap → Prop} {YP : World → Heap → Prop} {d : DefRec} {K : Params → PySem.W.Frag} {CX : World → CXT} {sp : World → Sp} {x : Str} {T : Addr}
    (hn : l.most = some n) (hn2 : n ≤ sizeLine) (hdf : d.params.defaults = []) (hr : Room k callerA)
    (hY : ∀ (w : World) (h : Heap), YP w h → (K w.params).In h) (hT : ∀ (w : World) (h : Heap), YP w h → h.get? T = some (PySem.W.tabObj #[])) (hKT : ∀ P, (K P).lookup T = none)
    (F : ∀ (w : World) (mg : Str → Option Value) (fa : Addr) (h : Heap), (K w.params).In h → h.Ns mainGlobals mg → mg d.name = some (.ref fa) →
      ∃ fd : FuncData, (∃ c, PySem.W.codeHdIn (K w.params) c T = true) ∧ (∀ (s : Shared) (u : Value), BindsTo s fd ⟨[u], []⟩ [(x, u)]) ∧
        ∀ base : Heap, (K w.params).In base → base.Ns mainGlobals mg → BmAt base mg → FnOk l.prog w (K w.params) mg base (CX w) k fa fd [x] (sp w))
    (hsp : ∀ (w : World) (H : Hp) (a : Addr) (ns : List Int), ns.length ≤ n → OnlyT H T → SqL (K w.params) H a (ns.map V.int) → sp w [.ref a] H (fun v _ => v = .bl true) fun _ _ _ => False)
    (hCX : ∀ (w : World) (H : Hp) (s : Shared) (e : Value) (s' : Shared), CX w [] H s (fun _ _ _ => False) e s' → False) :
    PySem.W.WalkO q loose XP YP l.row.toRowW d [] (fun f vs => PySem.call f vs) := by
  refine Att.attach_call hn hdf fun w s₀ s₁ mg mb fa o pm cd doc a vs ns G Y ho hd hcd hmg hobj hints hlen hg => ?_
  have KX := hY w _ Y
  obtain ⟨fd, ⟨c, hCd⟩, hb, hF⟩ := F w mg fa _ KX G.T.g hmg
  have hbm : BmAt s₁.heap mg := by
    obtain ⟨bm, ob, b1, b2, b3, b4, b5, b6⟩ := G.T.bmain
    refine ⟨bm, ob, b1, b2, fun z => ?_, b3, b4, b5, b6⟩
    obtain ⟨o, es, ep, e, hd, _⟩ := G.T.g
    rw [z, e] at b3; cases b3; rw [hd] at b6; cases b6
  exact law_callT KX (hT w _ Y) (hKT _) hCd G.T.g G.T.b G.T.builtins G.T.nolimit hg hobj hints (Nat.le_trans hlen hn2) hr hbm hF hb (fun H hO hS => hsp w H a ns hlen hO hS) fun H e s' => hCX w H s₁ e s'
end L2

set_option Elab.async false
set_option linter.all false
set_option maxRecDepth 100000
set_option maxHeartbeats 4000000
/-! Lambdas of two numbers, by the text; planted rows' widths. -/
namespace L2
open PySem PySem.Spec PyProof.Rows
def noArgs : Arguments := { posonlyargs := [], args := [], vararg := none, kwonlyargs := [], kw_defaults := [], kwarg := none, defaults := [] }
def noScope : Scope := { kind := .function, names := [], isGenerator := false, isCoroutine := false, more := [] }
def lamArgs : Expr → Arguments
  | .Lambda a _ _ _ => a
  | _ => noArgs
def lamBody : Expr → Expr
  | .Lambda _ b _ _ => b
  | e => e
def lamScope : Expr → Scope
  | .Lambda _ _ s _ => s
  | _ => noScope
def lamPos : Expr → Pos
  | .Lambda _ _ _ p => p
  | _ => ⟨0, 0, 0, 0⟩
section
variable {scope : Scope} {x1 x2 y : Str} {c : Addr}
end
end L2
namespace My
open L2
end My

set_option Elab.async false
set_option linter.all false
set_option maxRecDepth 100000
set_option maxHeartbeats 4000000
/-! min of two by a key that tells pairs. -/
namespace L2
open PySem PySem.Spec PyProof.Rows
theorem min_two_key (a b v : Value) : argsOk "min" ⟨[a, b], [(Str.ofString "key", v)]⟩ := by unfold argsOk; kernel_rfl
def PrV (H : Hp) (y : V) (p : Int × Int) : Prop := ∃ t, y = .ref t ∧ H t = some (.tup [.int p.1, .int p.2])
section
variable {X : Cx} {pins : List (Addr × Obj)} {σ : St} {H : Hp} {s : Shared}
theorem key_callP {k : Nat} {f : Addr} {fd : FuncData} {ps : List Str} {sp : Sp} {x : V} {u : Value} {p : Int × Int} {fp : List Addr} (F : FnOk X.prog X.w X.K X.mg X.base CX0 k f fd ps sp) (hr : Room (k + 1) X.A) (hb : Binds X.K fd ps []) (I : Inv X pins σ H s) (hf : ∀ b ∈ fp, FpOk X pins H b)
    (ho : ∀ b ∈ fp, ∃ o, s.heap.get? b = some o ∧ ∀ v, o.data ≠ .cell v) (rx : RelV x u) (h : sp [x] H (fun y H'' => PrV H'' y p ∧ Same H H'') E0) :
    wpAny (model X.prog X.w) X.A.in1 (call (.ref f) [u]) (fun v s' => ∃ t H', v = .ref t ∧ H' t = some (.tup [.int p.1, .int p.2]) ∧ Inv X pins σ H' s' ∧ Same H H' ∧ ∀ b ∈ fp, ∀ o, s.heap.get? b = some o → s'.heap.get? b = some o ∧ H' b = none) (fun _ _ => False) s := by
  have I' := I.pinned hf ho
  refine thn (run_fn (X := X.inn) (E := E0) F hr.in1 hb .nil pass0 I'.inn (.cons rx .nil) h) fun v s' ⟨y, H', I2, r, ⟨t, e, et⟩, sm⟩ => ?_
  subst e
  cases r
  have I3 := I2.outn I.ok
  refine ⟨t, H', rfl, et, I3.unpinned, sm, fun b hb' o e => ?_⟩
  have := I3.pin (b, o) (List.mem_append_right _ (List.mem_append_right _ (mem_pinsAt hb' e)))
  exact ⟨this.1, this.2.1⟩
theorem min_two {k : Nat} {f : Addr} {fd : FuncData} {ps : List Str} {sp : Sp} {x0 x1 : V} {u0 u1 : Value} {p0 p1 : Int × Int} {Q : Value → Shared → Prop} {E : Value → Shared → Prop} (F : FnOk X.prog X.w X.K X.mg X.base CX0 k f fd ps sp) (hr : Room (k + 1) X.A) (hb : Binds X.K fd ps []) (hc : X.calm = true) (hu : X.A.units + 1 < cLine) (I : Inv X pins σ H s)
    (r0 : RelV x0 u0) (r1 : RelV x1 u1) (h0 : ∀ H', Same H H' → sp [x0] H' (fun y H'' => PrV H'' y p0 ∧ Same H' H'') E0) (h1 : ∀ H', Same H H' → sp [x1] H' (fun y H'' => PrV H'' y p1 ∧ Same H' H'') E0)
    (hQ : ∀ s' H', Inv X pins σ H' s' → Same H H' → Q (if HT.prLt p1 p0 = true then u1 else u0) s') :
    wpAny (model X.prog X.w) X.A (call (.builtin "min") [u0, u1] [(Str.ofString "key", .ref f)]) Q E s := by
  have hname : (toString "min" ++ toString ".loop" : String) = "min.loop" := by decide
  refine kmk_tree PySem.F.kind_min PySem.F.plain_min PySem.F.entry_min (min_two_key _ _ _) ?_
  show wpAny _ X.A.in1 (Builtin.Builtins.bindParams "min" ["key", "default"] 0 ⟨[], [(Str.ofString "key", .ref f)]⟩ >>= _) _ _ s
  refine wpAny_bind (wpAny_of_eq (show Builtin.Builtins.bindParams "min" ["key", "default"] 0 ⟨[], [(Str.ofString "key", .ref f)]⟩ = pure [some (.ref f), none] from rfl) ?_)
  show wpAny _ X.A.in1 (newTuple [u0, u1] >>= _) _ _ s
  refine wpAny_bind (wpAny_newTuple ?_ (by show 2 ≤ sizeLine; decide))
  have gT0 : (s.heap.push { cls := .type "tuple", data := .seq #[u0, u1] }).IsTuple s.heap.objs.size #[u0, u1] := ⟨_, Heap.get?_push_size _ rfl, rfl, _, rfl⟩
  refine wpAny_bind (wpAny_pyIter_tuple (s := { s with heap := s.heap.push { cls := .type "tuple", data := .seq #[u0, u1] } }) gT0 ?_)
  refine wpAny_bind (wpAny_newList ?_ (Nat.zero_le _))
  rw [hname]
  refine wpAny_pure ⟨plainId_quiet PySem.F.plain_min_loop _, ?_⟩
  have z1 : (s.heap.push { cls := .type "tuple", data := .seq #[u0, u1] }).objs.size = s.heap.objs.size + 1 := Heap.size_push ..
  have z2 : ((s.heap.push { cls := .type "tuple", data := .seq #[u0, u1] }).push { cls := .type "tuple_iterator", data := .fields #[.ref s.heap.objs.size, .int 0 0] }).objs.size = s.heap.objs.size + 2 := by rw [Heap.size_push, z1]
  have kp : ∀ b o, s.heap.get? b = some o → (((s.heap.push { cls := .type "tuple", data := .seq #[u0, u1] }).push { cls := .type "tuple_iterator", data := .fields #[.ref s.heap.objs.size, .int 0 0] }).push (seqObj "list" #[] 0)).get? b = some o := fun b o e => Heap.get?_push_of_some _ (Heap.get?_push_of_some _ (Heap.get?_push_of_some _ e))
  have gT : (((s.heap.push { cls := .type "tuple", data := .seq #[u0, u1] }).push { cls := .type "tuple_iterator", data := .fields #[.ref s.heap.objs.size, .int 0 0] }).push (seqObj "list" #[] 0)).get? s.heap.objs.size = some { cls := .type "tuple", data := .seq #[u0, u1] } := Heap.get?_push_of_some _ (Heap.get?_push_of_some _ (Heap.get?_push_size _ rfl))
  have gI : (((s.heap.push { cls := .type "tuple", data := .seq #[u0, u1] }).push { cls := .type "tuple_iterator", data := .fields #[.ref s.heap.objs.size, .int 0 0] }).push (seqObj "list" #[] 0)).get? (s.heap.push { cls := .type "tuple", data := .seq #[u0, u1] }).objs.size = some { cls := .type "tuple_iterator", data := .fields #[.ref s.heap.objs.size, .int 0 0] } := Heap.get?_push_of_some _ (Heap.get?_push_size _ rfl)
  have gS : (((s.heap.push { cls := .type "tuple", data := .seq #[u0, u1] }).push { cls := .type "tuple_iterator", data := .fields #[.ref s.heap.objs.size, .int 0 0] }).push (seqObj "list" #[] 0)).get? ((s.heap.push { cls := .type "tuple", data := .seq #[u0, u1] }).push { cls := .type "tuple_iterator", data := .fields #[.ref s.heap.objs.size, .int 0 0] }).objs.size = some (seqObj "list" #[] 0) := Heap.get?_push_size _ rfl
  have fT : FpOk X pins H s.heap.objs.size := I.fpOk (Nat.le_refl _) (I.hok.fresh (Nat.le_refl _))
  have fI : FpOk X pins H (s.heap.push { cls := .type "tuple", data := .seq #[u0, u1] }).objs.size := I.fpOk (by rw [z1]; omega) (I.hok.fresh (by rw [z1]; omega))
  have fS : FpOk X pins H ((s.heap.push { cls := .type "tuple", data := .seq #[u0, u1] }).push { cls := .type "tuple_iterator", data := .fields #[.ref s.heap.objs.size, .int 0 0] }).objs.size := I.fpOk (by rw [z2]; omega) (I.hok.fresh (by rw [z2]; omega))
  have I0 : Inv X pins σ H { s with heap := ((s.heap.push { cls := .type "tuple", data := .seq #[u0, u1] }).push { cls := .type "tuple_iterator", data := .fields #[.ref s.heap.objs.size, .int 0 0] }).push (seqObj "list" #[] 0) } := I.kept (t' := s.toks) kp
  have nTI : s.heap.objs.size ≠ (s.heap.push { cls := .type "tuple", data := .seq #[u0, u1] }).objs.size := by rw [z1]; omega
  have nTS : s.heap.objs.size ≠ ((s.heap.push { cls := .type "tuple", data := .seq #[u0, u1] }).push { cls := .type "tuple_iterator", data := .fields #[.ref s.heap.objs.size, .int 0 0] }).objs.size := by rw [z2]; omega
  have nSI : ((s.heap.push { cls := .type "tuple", data := .seq #[u0, u1] }).push { cls := .type "tuple_iterator", data := .fields #[.ref s.heap.objs.size, .int 0 0] }).objs.size ≠ (s.heap.push { cls := .type "tuple", data := .seq #[u0, u1] }).objs.size := by rw [z1, z2]; omega
  clear gT0 kp
  generalize ((s.heap.push { cls := .type "tuple", data := .seq #[u0, u1] }).push { cls := .type "tuple_iterator", data := .fields #[.ref s.heap.objs.size, .int 0 0] }).objs.size = S at gS fS nSI nTS ⊢
  generalize ((s.heap.push { cls := .type "tuple", data := .seq #[u0, u1] }).push { cls := .type "tuple_iterator", data := .fields #[.ref s.heap.objs.size, .int 0 0] }).push (seqObj "list" #[] 0) = h0' at gT gI gS I0 ⊢
  generalize (s.heap.push { cls := .type "tuple", data := .seq #[u0, u1] }).objs.size = It at gI fI nSI nTI ⊢
  generalize s.heap.objs.size = T at gT gI fT nTI nTS ⊢
  have hit : h0'.IsTupleIter It T 0 := ⟨_, gI, rfl, rfl⟩
  have pT : h0'.IsTuple T #[u0, u1] := ⟨_, gT, rfl, _, rfl⟩
  -- the first
  refine codeAny_builtin PySem.F.entry_min_loop ?_
  rw [Around.under_plainId PySem.F.plain_min_loop _]
  show wpAny _ X.A.in1 (seqItems? (.ref S) >>= _) _ _ _
  refine wpAny_bind (wpAny_seqItems gS rfl ?_)
  show wpAny _ X.A.in1 (tryCatch (pyNext (.ref It)) _ >>= _) _ _ _
  refine wpAny_bind (wpAny_tryCatch (wpAny_pyNext_tuple_item hit pT (x := u0) rfl fun h' hit' sb => ?_))
  obtain ⟨f0, f1, f2, f3, f4, f5⟩ := id fI
  have I1 : Inv X pins σ H { s with heap := h' } := I0.turned (t' := s.toks) (fun b o hb e => (sb.2 b hb).trans e) f0 f1 f3 f4 f5
  have hS1 : h'.get? S = some (seqObj "list" #[] 0) := (sb.2 S nSI).trans gS
  have hT1 : h'.get? T = some { cls := .type "tuple", data := .seq #[u0, u1] } := (sb.2 T nTI).trans gT
  obtain ⟨oI, hoI, hoc, hod⟩ := id hit'
  have fps : ∀ {H' : Hp}, FpOk X pins H' S → FpOk X pins H' It → FpOk X pins H' T → ∀ b ∈ [S, It, T], FpOk X pins H' b := fun a b c d hd => by
    simp only [List.mem_cons, List.not_mem_nil, or_false] at hd
    rcases hd with rfl | rfl | rfl
    · exact a
    · exact b
    · exact c
  show wpAny _ X.A.in1 (tryCatch (holding [u0] (call (.ref f) [u0])) _ >>= _) _ _ _
  refine wpAny_bind (wpAny_tryCatch (wpAny_holding (wpAny_mono (key_callP (fp := [S, It, T]) F hr hb I1 (fps fS fI fT) (by
    intro b hd
    simp only [List.mem_cons, List.not_mem_nil, or_false] at hd
    rcases hd with rfl | rfl | rfl
    · exact ⟨_, hS1, fun v z => by cases z⟩
    · exact ⟨_, hoI, fun v z => by rw [hod] at z; cases z⟩
    · exact ⟨_, hT1, fun v z => by cases z⟩) r0 (h0 H (Same.refl _))) (fun v s2 he => ?_) fun _ _ hF => hF.elim)))
  obtain ⟨t0, H3, rfl, et0, I3, sm3, hpin⟩ := he
  obtain ⟨hS3, nS3⟩ := hpin S (by simp) _ hS1
  obtain ⟨hI3, nI3⟩ := hpin It (by simp) _ hoI
  obtain ⟨hT3, nT3⟩ := hpin T (by simp) _ hT1
  have fS3 : FpOk X pins H3 S := ⟨nS3, fS.2⟩
  have fI3 : FpOk X pins H3 It := ⟨nI3, fI.2⟩
  have fT3 : FpOk X pins H3 T := ⟨nT3, fT.2⟩
  have s1 := Heap.SameBut.update s2.heap S (Obj.mapSeq fun _ => #[u0, .ref t0])
  obtain ⟨c2, hc2⟩ : ∃ c2, (s2.heap.update S (Obj.mapSeq fun _ => #[u0, .ref t0])).get? S = some (seqObj "list" #[u0, .ref t0] c2) := ⟨_, get?_update_seq hS3 fun _ => #[u0, .ref t0]⟩
  show wpAny _ X.A.in1 (updateSeq S (fun _ => #[u0, .ref t0]) >>= _) _ _ _
  refine wpAny_bind ?_
  refine wpAny_updateSeq hS3 rfl ?_
  rw [hname]
  obtain ⟨g0, g1, g2, g3, g4, g5⟩ := id fS3
  have I4 : Inv X pins σ H3 { s2 with heap := s2.heap.update S (Obj.mapSeq fun _ => #[u0, .ref t0]) } := I3.turned (t' := s2.toks) (fun b o hb e => (s1.2 b hb).trans e) g0 g1 g3 g4 g5
  have hit4 : (s2.heap.update S (Obj.mapSeq fun _ => #[u0, .ref t0])).IsTupleIter It T 1 := ⟨oI, (s1.2 It nSI.symm).trans hI3, hoc, hod⟩
  have hT4 : (s2.heap.update S (Obj.mapSeq fun _ => #[u0, .ref t0])).get? T = some { cls := .type "tuple", data := .seq #[u0, u1] } := (s1.2 T nTS).trans hT3
  generalize s2.heap.update S (Obj.mapSeq fun _ => #[u0, .ref t0]) = h4 at hc2 I4 hit4 hT4 ⊢
  refine wpAny_pure ⟨plainId_quiet PySem.F.plain_min_loop _, ?_⟩
  -- the second
  refine codeAny_builtin PySem.F.entry_min_loop ?_
  rw [Around.under_plainId PySem.F.plain_min_loop _]
  show wpAny _ X.A.in1 (seqItems? (.ref S) >>= _) _ _ _
  refine wpAny_bind (wpAny_seqItems hc2 rfl ?_)
  show wpAny _ X.A.in1 (tryCatch (pyNext (.ref It)) _ >>= _) _ _ _
  refine wpAny_bind (wpAny_tryCatch (wpAny_pyNext_tuple_item hit4 ⟨_, hT4, rfl, _, rfl⟩ (x := u1) rfl fun h5 hit5 sb5 => ?_))
  obtain ⟨f0, f1, f2, f3, f4, f5⟩ := id fI3
  have I5 : Inv X pins σ H3 { s2 with heap := h5 } := I4.turned (t' := s2.toks) (fun b o hb e => (sb5.2 b hb).trans e) f0 f1 f3 f4 f5
  have hS5 : h5.get? S = some (seqObj "list" #[u0, .ref t0] c2) := (sb5.2 S nSI).trans hc2
  have hT5 : h5.get? T = some { cls := .type "tuple", data := .seq #[u0, u1] } := (sb5.2 T nTI).trans hT4
  obtain ⟨oI5, hoI5, hoc5, hod5⟩ := id hit5
  show wpAny _ X.A.in1 (tryCatch (holding [u1] (call (.ref f) [u1])) _ >>= _) _ _ _
  refine wpAny_bind (wpAny_tryCatch (wpAny_holding (wpAny_mono (key_callP (fp := [S, It, T]) F hr hb I5 (fps fS3 fI3 fT3) (by
    intro b hd
    simp only [List.mem_cons, List.not_mem_nil, or_false] at hd
    rcases hd with rfl | rfl | rfl
    · exact ⟨_, hS5, fun v z => by cases z⟩
    · exact ⟨_, hoI5, fun v z => by rw [hod5] at z; cases z⟩
    · exact ⟨_, hT5, fun v z => by cases z⟩) r1 (h1 H3 sm3)) (fun v s6 he => ?_) fun _ _ hF => hF.elim)))
  obtain ⟨t1, H6, rfl, et1, I6, sm6, hpin6⟩ := he
  obtain ⟨hS6, nS6⟩ := hpin6 S (by simp) _ hS5
  obtain ⟨hI6, nI6⟩ := hpin6 It (by simp) _ hoI5
  obtain ⟨hT6, nT6⟩ := hpin6 T (by simp) _ hT5
  have fS6 : FpOk X pins H6 S := ⟨nS6, fS.2⟩
  have fI6 : FpOk X pins H6 It := ⟨nI6, fI.2⟩
  have hit6 : s6.heap.IsTupleIter It T 2 := ⟨oI5, hI6, hoc5, hod5⟩
  -- the third turn
  have last : ∀ (h7 : Heap) (vb vk : Value) (c7 : Nat), Inv X pins σ H6 { s6 with heap := h7 } → h7.get? S = some (seqObj "list" #[vb, vk] c7) → h7.IsTupleIter It T 2 → h7.IsTuple T #[u0, u1] → (∀ s' H', Inv X pins σ H' s' → Same H H' → Q vb s') →
      codeAny (model X.prog X.w) X.A (.builtin "min.loop" ⟨[.ref It, .ref f, .ref S], []⟩) (fun r s' => match r with | .ok (.ret v) => Q v s' | .ok _ => False | .error e => E e s') { s6 with heap := h7 } := fun h7 vb vk c7 I7 hS7 hit7 pT7 hq => by
    refine codeAny_builtin PySem.F.entry_min_loop ?_
    rw [Around.under_plainId PySem.F.plain_min_loop _]
    show wpAny _ X.A.in1 (seqItems? (.ref S) >>= _) _ _ _
    refine wpAny_bind (wpAny_seqItems hS7 rfl ?_)
    show wpAny _ X.A.in1 (tryCatch (pyNext (.ref It)) _ >>= _) _ _ _
    refine wpAny_bind (wpAny_tryCatch (wpAny_pyNext_tuple_end (show X.A.in1.handled = none from I.ok.hd hc) hit7 pT7 rfl fun h' eb => ?_))
    obtain ⟨f0, f1, f2, f3, f4, f5⟩ := fI6
    have I8 : Inv X pins σ H6 { s6 with heap := h' } := I7.turned (t' := s6.toks) (fun b o hb e => eb b o hb e) f0 f1 f3 f4 f5
    have hS' : h'.get? S = some (seqObj "list" #[vb, vk] c7) := eb S _ nSI hS7
    have sb := Heap.SameBut.update h' S (Obj.mapSeq fun _ => (#[] : Array Value))
    obtain ⟨g0, g1, g2, g3, g4, g5⟩ := fS6
    show wpAny _ X.A.in1 (updateSeq S (fun _ => #[]) >>= _) _ _ _
    refine wpAny_bind ?_
    refine wpAny_updateSeq hS' rfl (wpAny_bind (wpAny_letGo (wpAny_pure ?_)))
    exact hq _ H6 (I8.turned (t' := s6.toks) (fun b o hb e => (sb.2 b hb).trans e) g0 g1 g3 g4 g5) (sm3.trans sm6)
  show wpAny _ X.A.in1 (tryCatch (holding [u1, .ref t1] (richCompare .Lt (.ref t1) (.ref t0) >>= _)) _ >>= _) _ _ _
  refine wpAny_bind (wpAny_tryCatch (wpAny_holding (wpAny_bind (rcLt_pr (A := X.A.in1) (p := p1) (q := p0) I6 et1 (sm6 _ _ et0) hu _ _ _ _ ?_))))
  refine wpAny_bind (wpAny_holding (wpAny_truthy_bool ?_))
  refine wpAny_bind (wpAny_letGo (wpAny_pure ?_))
  by_cases hb' : HT.prLt p1 p0 = true
  · have s7 := Heap.SameBut.update s6.heap S (Obj.mapSeq fun _ => #[u1, .ref t1])
    obtain ⟨c7, hc7⟩ : ∃ c7, (s6.heap.update S (Obj.mapSeq fun _ => #[u1, .ref t1])).get? S = some (seqObj "list" #[u1, .ref t1] c7) := ⟨_, get?_update_seq hS6 fun _ => #[u1, .ref t1]⟩
    simp only [hb', if_true]
    refine wpAny_bind ?_
    refine wpAny_updateSeq hS6 rfl (wpAny_bind (wpAny_letGo ?_))
    rw [hname]
    obtain ⟨g0, g1, g2, g3, g4, g5⟩ := id fS6
    refine wpAny_pure ⟨plainId_quiet PySem.F.plain_min_loop _, last _ u1 (.ref t1) c7 (I6.turned (t' := s6.toks) (fun b o hb e => (s7.2 b hb).trans e) g0 g1 g3 g4 g5) hc7 ⟨oI5, (s7.2 It nSI.symm).trans hI6, hoc5, hod5⟩ ⟨_, (s7.2 T nTS).trans hT6, rfl, _, rfl⟩ fun s' H' I' sm => ?_⟩
    have := hQ s' H' I' sm
    rw [if_pos hb'] at this
    exact this
  · simp only [hb', Bool.false_eq_true, if_false]
    refine wpAny_bind (wpAny_letGo ?_)
    rw [hname]
    refine wpAny_pure ⟨plainId_quiet PySem.F.plain_min_loop _, last s6.heap u0 (.ref t0) c2 I6 hS6 hit6 ⟨_, hT6, rfl, _, rfl⟩ fun s' H' I' sm => ?_⟩
    have := hQ s' H' I' sm
    rw [if_neg hb'] at this
    exact this
/-- min(a, b, key=f), f made here -/
def tMin2 (P : Program) (w : World) (K : PySem.W.Frag) (mg : Str → Option Value) (base : Heap) (k : Nat) (te1 te2 tl : TE) : TE := fun σ H Q => te1 σ H fun x0 H1 => te2 σ H1 fun x1 H2 => tl σ H2 fun vf H3 => ∃ (f : Addr) (fd : FuncData) (ps : List Str) (sp : Sp) (p0 p1 : Int × Int), vf = .ref f ∧ FnOk P w K mg base CX0 k f fd ps sp ∧ Binds K fd ps [] ∧
  (∀ H', Same H3 H' → sp [x0] H' (fun y H'' => PrV H'' y p0 ∧ Same H' H'') E0) ∧ (∀ H', Same H3 H' → sp [x1] H' (fun y H'' => PrV H'' y p1 ∧ Same H' H'') E0) ∧ ∀ H', Same H3 H' → Q (if HT.prLt p1 p0 = true then x1 else x0) H'
theorem pe_min2L {k : Nat} {e1 e2 lam : Expr} {te1 te2 tl : TE} {p pos k1 : Pos} (hc : X.calm = true) (hu : X.A.units + 1 < cLine) (hr : Room (k + 1) X.A) (hgm : Gl X "min") (hm : X.mg "min" = none) (h1 : PE X e1 te1) (h2 : PE X e2 te2) (hl : PE X lam tl)
    (hs : starEach [e1, e2] X.env = [(false, eval e1 X.env), (false, eval e2 X.env)] := by rfl) (hs2 : starEach [e2] X.env = [(false, eval e2 X.env)] := by rfl) :
    PE X (.Call (.Name "min" p) [e1, e2] [⟨some "key", lam, k1⟩] pos) (tMin2 X.prog X.w X.K X.mg X.base k te1 te2 tl) := by
  intro pins s σ H Q I q
  refine wpAny_Call_Name_kw (ld_blt I hgm hm boot_min' ?_)
  refine callWith_kw ?_ (he := by rw [hs, hs2]; rfl) (hplain := by rw [hs]; rfl)
  rw [hs]
  refine Calls.spliced_cons (thn (h1 pins s σ H _ I q) fun v s1 ⟨y1, H1, I1, r1, q1⟩ => ?_)
  refine Calls.spliced_cons (thn (h2 pins s1 σ H1 _ I1 q1) fun v2 s2 ⟨y2, H2, I2, r2, q2⟩ => ?_)
  refine Calls.spliced_nil ?_
  refine kws_cons (thn (hl pins s2 σ H2 _ I2 q2) fun vf s3 ⟨y3, H3, I3, r3, q3⟩ => ?_)
  refine kws_nil ?_
  obtain ⟨f, fd, ps, sp, p0, p1, rfl, F, hb, g0, g1, hQ⟩ := q3
  cases r3
  refine min_two F hr hb hc hu I3 r1 r2 g0 g1 fun s' H' I' sm => ⟨_, H', I', ?_, hQ H' sm⟩
  split
  · exact r2
  · exact r1
/-! a tuple in a list of tuples, where it is there -/
def rInT (K : PySem.W.Frag) (neg : Bool) : R2 := fun x y H Q => ∃ (t0 p : Addr) (ns : List Int) (ts : List Addr) (xss : List (List Int)), x = .ref t0 ∧ y = .ref p ∧ H t0 = some (.tup (ns.map V.int)) ∧ SqL K H p (ts.map V.ref) ∧ TupsAt H ts xss ∧ ns ∈ xss ∧ Q (.bl (!neg)) H
open Classical in
noncomputable def tupE (H : Hp) (ns : List Int) (y : Value) : Bool := decide (∃ t, y = .ref t ∧ H t = some (.tup (ns.map V.int)))
theorem tupE_eq {ns xs : List Int} {t : Addr} (e : H t = some (.tup (xs.map V.int))) : tupE H ns (.ref t) = decide (xs = ns) := by
  unfold tupE
  by_cases h : xs = ns
  · rw [decide_eq_true h]
    exact @decide_eq_true _ (Classical.propDecidable _) ⟨t, rfl, by rw [e, h]⟩
  · rw [decide_eq_false h]
    refine @decide_eq_false _ (Classical.propDecidable _) fun ⟨t', z, e'⟩ => ?_
    cases z
    rw [e] at e'
    injection e' with e'
    injection e' with e'
    exact h ((List.map_inj_right (fun x y h => by injection h)).mp e')
theorem tupE_go {A : Around} {t0 : Addr} {ns : List Int} {ts : List Addr} {xss : List (List Int)} {its : List Value} (I : Inv X pins σ H s) (e0 : H t0 = some (.tup (ns.map V.int))) (r : Vals (ts.map V.ref) its) (ht : TupsAt H ts xss) (hu : A.units < cLine) (y : Value) (hy : y ∈ its.toArray) : SeqAt.EqAt A s y (.ref t0) (tupE H ns y) := by
  have hy' : y ∈ its := by simpa using hy
  obtain ⟨j, hj, rfl⟩ := List.mem_iff_getElem.mp hy'
  obtain ⟨t, et, ev⟩ := refs_at (ts := ts) r (j := j) (by simpa using hj)
  have ev : its[j] = .ref t := by simpa using ev
  have hjx : j < xss.length := by rw [← ht.1]; exact (List.getElem?_eq_some_iff.mp et).1
  have ex := ht.2 j t _ et (List.getElem?_eq_getElem hjx)
  rw [ev, tupE_eq ex]
  by_cases z : t = t0
  · subst z
    rw [e0] at ex
    injection ex with ex
    injection ex with ex
    rw [decide_eq_true ((List.map_inj_right (fun x y h => by injection h)).mp ex).symm]
    exact SeqAt.EqAt.same _
  · exact SeqAt.EqAt.of_refs z (rc_tup (A := A) I (SqT.of ex) (SqT.of e0) hu)
theorem tupE_any {ns : List Int} {ts : List Addr} {xss : List (List Int)} {its : List Value} (r : Vals (ts.map V.ref) its) (ht : TupsAt H ts xss) (hm : ns ∈ xss) : its.toArray.any (tupE H ns) = true := by
  obtain ⟨j, hj, e⟩ := List.mem_iff_getElem.mp hm
  have hjt : j < ts.length := by rw [ht.1]; exact hj
  have ex := ht.2 j ts[j] ns (List.getElem?_eq_getElem hjt) (by rw [List.getElem?_eq_getElem hj, e])
  obtain ⟨v, hv, rv⟩ := r.get (i := j) (x := .ref ts[j]) (by rw [List.getElem?_map, List.getElem?_eq_getElem hjt]; rfl)
  cases rv
  rw [show its.toArray.any (tupE H ns) = its.any (tupE H ns) by simp]
  exact List.any_eq_true.mpr ⟨_, List.mem_of_getElem? hv, by rw [tupE_eq ex]; exact decide_eq_true rfl⟩
theorem op_inT {K : PySem.W.Frag} (eK : X.K = K) (hu : X.A.units + 1 < cLine) : OpR X (compareOp .In) (rInT K false) := by
  subst eK
  intro pins s σ H x y v u Q I rx ry h
  obtain ⟨t0, p, ns, ts, xss, rfl, rfl, e0, hq, ht, hm, q⟩ := h
  cases rx
  cases ry
  obtain ⟨its, r, pl, hz⟩ := I.list hq
  refine SeqAt.in_listAt (tupE H ns) pl.isList (fun w hw => tupE_go (A := X.A.in1) I e0 r ht hu w hw) ⟨.bl _, H, I, rfl, ?_⟩
  rw [tupE_any r ht hm]; exact q
theorem op_ninT {K : PySem.W.Frag} (eK : X.K = K) (hu : X.A.units + 1 < cLine) : OpR X (compareOp .NotIn) (rInT K true) := by
  subst eK
  intro pins s σ H x y v u Q I rx ry h
  obtain ⟨t0, p, ns, ts, xss, rfl, rfl, e0, hq, ht, hm, q⟩ := h
  cases rx
  cases ry
  obtain ⟨its, r, pl, hz⟩ := I.list hq
  refine SeqAt.notIn_listAt (tupE H ns) pl.isList (fun w hw => tupE_go (A := X.A.in1) I e0 r ht hu w hw) ⟨.bl _, H, I, rfl, ?_⟩
  rw [tupE_any r ht hm]; exact q
/-! a lambda made again and again -/
def tLam2 (P : Addr) (q : Str) (params : Arguments) (body : Expr) (scope : Scope) (pos : Pos) : TE := fun _ H Q => ∃ ps, H P = some (.tbl ps) ∧ TriplesOk ps.toList ∧
  ((codeAmong pos ps.toList = none ∧ ∀ (f c' : Addr) (pm ct : Value), H f = none → H c' = none → f ≠ c' → Q (.ref f) (lamH H P ps pos c' f q (lamFd q params body scope [] pm c' ct))) ∨
   ∃ c' : Addr, codeAmong pos ps.toList = some (.ref c') ∧ ∀ (f : Addr) (pm ct : Value), H f = none → Q (.ref f) (upd H f (.ext (FnIs f (lamFd q params body scope [] pm c' ct)))))
theorem pe_lam2 {c P : Addr} {params : Arguments} {body : Expr} {scope : Scope} {pos : Pos} (L : LamTxt X.K X.mg X.base c P) (hc : X.env.code = .ref c) (hcl : closureFor scope X.env = pure []) (hdef : defaultsOf params X.env = ([], [])) :
    PE X (.Lambda params body scope pos) (tLam2 P (X.env.qual ++ "<lambda>") params body scope pos) := by
  intro pins s σ H Q I ⟨ps, hP, ht, h⟩
  rcases h with ⟨hnf, q⟩ | ⟨c', hf, q⟩
  · exact pe_lam L hc hcl hdef pins s σ H Q I ⟨ps, hP, ht, hnf, q⟩
  refine PySem.W.kla_eval hdef ?_
  have oP : s.heap.get? P = some (PySem.W.tabObj ps) := I.hok P _ hP
  have C : PySem.W.CodeHd s.heap c P := PySem.W.codeHd_of_K I.kIn L.hd
  have hg : s.heap.Ns mainGlobals X.mg := I.ok.mod.glob.keeps I.bk
  obtain ⟨bm, o, b1, n1, n2, b3, b4, b5, b6⟩ := L.bm
  have b3' := I.bk _ _ b3
  have hbP : bm ≠ P := fun z => by
    rw [z, oP] at b3'; cases b3'; cases b4
  refine PySem.W.kla_makeFunctionHit (mg := X.mg) hcl I.ok.glob hg hc C oP ht hf ⟨bm, o, b1, n1, n2, hbP, b3', b4, b5, b6⟩ fun ct h' tk hk hsz => ?_
  have hHf : H h'.objs.size = none := I.hok.fresh hsz
  refine ⟨.ref h'.objs.size, _, I.laid (t' := tk) (fun b o e => Heap.get?_push_of_some _ (hk b o e)) hsz ?_, rfl, q h'.objs.size ((X.mg "__name__").getD .none) ct hHf⟩
  exact ⟨⟨_, Heap.get?_push_size _ rfl, rfl⟩, ⟨_, Heap.get?_push_size _ rfl⟩, fnIs_st⟩
end
/-- a lambda without free names -/
theorem fn_lamE {P : Program} {w : World} {K : PySem.W.Frag} {mg : Str → Option Value} {base : Heap} {k : Nat} {f c' : Addr} {q : Str} {params : Arguments} {body : Expr} {scope : Scope} {pm ct : Value} {N ps : List Str} {sp : Sp} (S : FnScope N ps scope) (len : ∀ vs H Q E, sp vs H Q E → vs.length = ps.length)
    (hbody : ∀ (A : Around) (outer : List Env) (s : Shared) (H : Hp) (vs : List V) (Q : VK) (E : XK), Room k (A.deeper (envOfC q scope s.heap.objs.size f (.ref c'))) → sp vs H Q E →
      ∃ t, PE (cxOf CX0 P w K mg base N q scope f (.ref c') A outer s H E) body t ∧ t (start N vs) H Q) :
    FnOk P w K mg base CX0 (k + 1) f (lamFd q params body scope [] pm c' ct) ps (fun vs H Q E => FnAt H f (lamFd q params body scope [] pm c' ct) ∧ CdAt H c' q ∧ sp vs H Q E) := by
  refine ⟨fun vs H Q E h => len vs H Q E h.2.2, fun A outer s H args us vs Q E hr e0 hb r ⟨hf, hc, hsp⟩ => ?_⟩
  have hl := len _ _ _ _ hsp
  obtain ⟨of, ef, df⟩ := hf.is e0.hok
  have lim : s.heap.NoLimit := e0.mod.nolimit.keeps fun b o e => (e0.bs b o e).1
  have hkind : ∀ y ∈ ps.zip us, scope.names.lookup y.1 = some .local ∨ (scope.names.lookup y.1 = some .cell ∧ ((cellsFrom (s.heap.objs.size + 1) scope.names []).lookup y.1).isSome = true) := fun ⟨n, v⟩ hy => by
    rcases S.par n (List.of_mem_zip hy).1 with q | q
    · exact .inl q
    · exact .inr ⟨q, PySem.W.cellsFrom_some _ _ _ (.inl q)⟩
  refine PySem.W.kla_callFunE hr.depth ef df S.co S.gen rfl (hc.is e0.hok) (hb _ _ _ _ ?_)
  refine wpAny_newFunctionEnv_cells S.kind hkind fun env he s1 x => ?_
  subst he
  refine ⟨lim.keeps x.toInCall.keep, ?_⟩
  obtain ⟨t, ht, hq⟩ := hbody A outer s H vs Q E (hr.deeper _) hsp
  have I : Inv (cxOf CX0 P w K mg base N q scope f (.ref c') A outer s H E) [] (start N vs) H s1 := inv_start S hr.hd e0 hl r x
  refine PySem.W.kla_codeExpr (wpAny_mono (ht [] s1 (start N vs) H _ I hq) (fun u s' ⟨v, H', J, rv, q⟩ => ⟨v, H', J.os, J.bare, J.base, J.hok, rv, q⟩) fun e s' hs => hs)
end L2

set_option Elab.async false
set_option linter.all false
set_option maxRecDepth 100000
set_option maxHeartbeats 4000000
/-! Tests of four links; stretches by windows. -/
namespace L2
open PySem PySem.Spec PyProof.Rows PySem.Calls
section
variable {X : Cx} {a b c d e : Expr} {ta tb tc td te : TE} {pos : Pos}
def tChain4 (r r' r'' r3 : R2) (ta tb tc td te : TE) : TT := fun σ H Q => ta σ H fun x H1 => tb σ H1 fun y H2 => r x y H2 fun z H3 => ∃ k, z = .bl k ∧
  (if k = true then tc σ H3 fun v H4 => r' y v H4 fun z' H5 => ∃ k', z' = .bl k' ∧ (if k' = true then td σ H5 fun u H6 => r'' v u H6 fun z'' H7 => ∃ k'', z'' = .bl k'' ∧ (if k'' = true then te σ H7 fun u2 H8 => r3 u u2 H8 fun z3 H9 => ∃ k3, z3 = .bl k3 ∧ Q k3 H9 else Q false H7) else Q false H5) else Q false H3)
theorem pt_chain4 {op op' op'' op3 : CmpOp} {r r' r'' r3 : R2} (ho : OpR X (compareOp op) r) (ho' : OpR X (compareOp op') r') (ho'' : OpR X (compareOp op'') r'') (ho3 : OpR X (compareOp op3) r3) (ha : PE X a ta) (hb : PE X b tb) (hc : PE X c tc) (hd : PE X d td) (he : PE X e te)
    (hm : lastMarks [op, op', op'', op3] [b, c, d, e] = false := by with_unfolding_all rfl) : PT X (.Compare a [op, op', op'', op3] [b, c, d, e] pos) (tChain4 r r' r'' r3 ta tb tc td te) := by
  intro pins s σ H Q I h
  refine isTrue_chain (thn (ha pins s σ H _ I h) fun v s1 ⟨x, H1, I1, r1, q1⟩ => test_link (thn (hb pins s1 σ H1 _ I1 q1) fun u s2 ⟨y, H2, I2, r2, q2⟩ =>
    thn (ho pins s2 σ H2 x y v u _ I2 r1 r2 q2) fun dd s3 ⟨z, H3, I3, rr, k, e, q3⟩ => ?_)) hm
  subst e
  cases rr
  refine wpAny_truthy_bool ?_
  cases k with
  | false => exact ite_ff ⟨H3, I3, q3⟩
  | true =>
    refine ite_tt (test_link (thn (hc pins s3 σ H3 _ I3 q3) fun w' s4 ⟨z', H4, I4, r4, q4⟩ => thn (ho' pins s4 σ H4 y z' u w' _ I4 r2 r4 q4) fun d' s5 ⟨z2, H5, I5, r5, k2, e2, q5⟩ => ?_))
    subst e2
    cases r5
    refine wpAny_truthy_bool ?_
    cases k2 with
    | false => exact ite_ff ⟨H5, I5, q5⟩
    | true =>
      refine ite_tt (test_link (thn (hd pins s5 σ H5 _ I5 q5) fun w2 s6 ⟨z3, H6, I6, r6, q6⟩ => thn (ho'' pins s6 σ H6 z' z3 w' w2 _ I6 r4 r6 q6) fun d2 s7 ⟨z4, H7, I7, r7, k3, e3, q7⟩ => ?_))
      subst e3
      cases r7
      refine wpAny_truthy_bool ?_
      cases k3 with
      | false => exact ite_ff ⟨H7, I7, q7⟩
      | true =>
        refine ite_tt (test_last (thn (he pins s7 σ H7 _ I7 q7) fun w3 s8 ⟨z5, H8, I8, r8, q8⟩ => thn (ho3 pins s8 σ H8 z3 z5 w2 w3 _ I8 r6 r8 q8) fun d3 s9 ⟨z6, H9, I9, r9, k4, e4, q9⟩ => ?_))
        subst e4
        cases r9
        exact wpAny_truthy_bool ⟨H9, I9, q9⟩
end
end L2
namespace My
open L2
/-- a stretch, by counts -/
theorem stretch_right {ns : List Int} {m f : Nat} (hf : f < ns.length) (h : HasW ns m f) : f < least ns f m ∧ least ns f m ≤ reach ns f m ∧ reach ns f m ≤ ns.length ∧ cnt ns f (least ns f m) = m ∧ cnt ns f (least ns f m - 1) + 1 = m ∧ cnt ns f (reach ns f m) = m ∧ endV ns f m = .int (least ns f m : Int) ∧ (reach ns f m = ns.length ∨ cnt ns f (reach ns f m + 1) = m + 1) := by
  obtain ⟨h1, h2, h3⟩ := least_reach (Nat.le_of_lt hf) h
  obtain ⟨g1, g2, g3, g4, g5⟩ := gAt_spec (ns := ns) (f := f) (j := m - 1) (Nat.le_of_lt hf) (by have := h.1; have := h.2; omega)
  have hm := h.1
  have e1 : cnt ns f (least ns f m) = m := by unfold least; rw [g4]; omega
  have e2 : cnt ns f (least ns f m - 1) + 1 = m := by unfold least; rw [Nat.add_sub_cancel, g3]; omega
  refine ⟨h1, h2, h3, e1, e2, (cnt_has (by omega) h3).mpr ⟨h, h2, Nat.le_refl _⟩, ?_, ?_⟩
  · have := end_unique (ns := ns) (f := f) (m := m) (e := gAt ns f (m - 1)) g1 g2 hm (by rw [g4]; omega) (by rw [g3]; omega)
    rw [this]; rfl
  · by_cases z : m < cnt ns f ns.length
    · obtain ⟨k1, k2, k3, k4, k5⟩ := gAt_spec (ns := ns) (f := f) (j := m) (Nat.le_of_lt hf) z
      refine .inr ?_
      unfold reach
      rw [if_pos z, k4]
    · refine .inl ?_
      unfold reach
      rw [if_neg z]
theorem end_iff {ns : List Int} {m f : Nat} (hf : f < ns.length) (hm : 0 < m) : endV ns f m = .non ↔ f ∉ fl ns m := by
  constructor
  · intro e hfl
    have h := (fl_mem.mp hfl).2
    rw [(stretch_right hf h).2.2.2.2.2.2.1] at e
    cases e
  · intro hfl
    have : ¬ HasW ns m f := fun h => hfl (fl_mem.mpr ⟨hf, h⟩)
    exact end_non (by unfold HasW at this; omega)
theorem long_same {ns : List Int} {m : Nat} {p q : Nat × Nat} (h : LongP ns m ns.length (some p)) (h' : LongP ns m ns.length (some q)) : p = q := by
  obtain ⟨a1, a2, a3, a4⟩ := h
  obtain ⟨b1, b2, b3, b4⟩ := h'
  have c1 := a4 q.1 b1 b2
  have c2 := b4 p.1 a1 a2
  rw [← b3] at c1
  rw [← a3] at c2
  have e : p.1 = q.1 := by
    rcases Nat.lt_trichotomy p.1 q.1 with z | z | z
    · have := c2.2 z; have := c1.1; omega
    · exact z
    · have := c1.2 z; have := c2.1; omega
  obtain ⟨x, y⟩ := p
  obtain ⟨u, v⟩ := q
  dsimp only at *
  rw [a3, b3, e]
theorem reach_mono {ns : List Int} {f m m' : Nat} (hf : f ≤ ns.length) (h : m ≤ m') : reach ns f m ≤ reach ns f m' := by
  obtain ⟨h1, h2⟩ := reach_le (m := m) hf
  have := (cnt_le_iff (m := m) h1 h2).mpr (Nat.le_refl _)
  exact (cnt_le_iff (m := m') h1 h2).mp (by omega)
def keyP (p : Nat × Nat) : Int × Int := ((p.1 : Int) - (p.2 : Int), (p.1 : Int))
/-- the best of the longest ones of the numbers below k -/
structure BestL (ns : List Int) (k : Nat) (p : Nat × Nat) : Prop where
  of : p = (0, 0) ∨ ∃ j, j < k ∧ LongP ns j ns.length (some p)
  le : ∀ j, j < k → ∀ q, LongP ns j ns.length (some q) → PrLe (keyP p) (keyP q)
theorem BestL.zero (ns : List Int) : BestL ns 0 (0, 0) := ⟨.inl rfl, fun j h => absurd h (Nat.not_lt_zero _)⟩
theorem BestL.none {ns : List Int} {k : Nat} {p : Nat × Nat} (h : BestL ns k p) (hk : LongP ns k ns.length none) : BestL ns (k + 1) p := by
  refine ⟨h.of.imp id fun ⟨j, hj, hp⟩ => ⟨j, by omega, hp⟩, fun j hj q hq => ?_⟩
  rcases Nat.lt_or_ge j k with z | z
  · exact h.le j z q hq
  · have : j = k := by omega
    subst this
    exact absurd hq.2.1 (hk q.1 hq.1)
theorem BestL.some {ns : List Int} {k : Nat} {p q : Nat × Nat} (h : BestL ns k p) (hk : LongP ns k ns.length (some q)) : BestL ns (k + 1) (if HT.prLt (keyP q) (keyP p) = true then q else p) := by
  have hh := prLt_iff (p := keyP q) (q := keyP p)
  by_cases z : HT.prLt (keyP q) (keyP p) = true
  · rw [if_pos z]
    have z := hh.mp z
    refine ⟨.inr ⟨k, Nat.lt_succ_self _, hk⟩, fun j hj r hr => ?_⟩
    rcases Nat.lt_or_ge j k with y | y
    · have := h.le j y r hr
      unfold PrLe at *
      omega
    · have : j = k := by omega
      subst this
      rw [long_same hr hk]
      exact .inr ⟨rfl, Int.le_refl _⟩
  · rw [if_neg z]
    refine ⟨h.of.imp id fun ⟨j, hj, hp⟩ => ⟨j, by omega, hp⟩, fun j hj r hr => ?_⟩
    rcases Nat.lt_or_ge j k with y | y
    · exact h.le j y r hr
    · have : j = k := by omega
      subst this
      rw [long_same hr hk]
      have : ¬ ((keyP q).1 < (keyP p).1 ∨ ((keyP q).1 = (keyP p).1 ∧ (keyP q).2 < (keyP p).2)) := fun y => z (hh.mpr y)
      unfold PrLe
      omega
theorem best_within {ns : List Int} {m f b : Nat} {p : Nat × Nat} (h : BestL ns (m + 1) p) (hw : WithinP ns m f b) : p = (f, b) := by
  rcases hw with ⟨h0, rfl, rfl⟩ | ⟨hf, hb, hbest⟩
  · rcases h.of with e | ⟨j, _, hp⟩
    · exact e
    · have := hp.1; omega
  · have hr := reach_le (m := m) (Nat.le_of_lt hf)
    rw [← hb] at hr
    by_cases hm : m = 0
    · subst hm
      have hz : ∀ j, j < ns.length → reach ns j 0 = j := fun j hj => by
        obtain ⟨r1, r2⟩ := reach_le (m := 0) (Nat.le_of_lt hj)
        rcases Nat.lt_or_ge j (reach ns j 0) with z | z
        · have c1 := (cnt_le_iff (m := 0) r1 r2).mpr (Nat.le_refl _)
          have c2 := cnt_pos (ns := ns) z
          omega
        · omega
      have hf0 : f = 0 := by
        rcases Nat.eq_zero_or_pos f with z | z
        · exact z
        · have := (hbest 0 (by omega)).2 z
          rw [hz f hf, hz 0 (by omega)] at this
          omega
      rw [hz f hf] at hb
      rcases h.of with e | ⟨j, hj, hp⟩
      · rw [e, hb, hf0]
      · have := hp.2.1.1; omega
    · have hlt : f < b := by
        have c : cnt ns f (f + 1) ≤ m := by have := cnt_le ns f (f + 1); omega
        have := (cnt_le_iff (m := m) (Nat.le_succ f) (by omega)).mp c
        omega
      have hcm : cnt ns f b ≤ m := (cnt_le_iff (m := m) hr.1 hr.2).mpr (by rw [hb]; exact Nat.le_refl _)
      have hL : LongP ns (cnt ns f b) ns.length (some (f, b)) := by
        refine ⟨hf, ?_, ?_, fun j hj hj' => ?_⟩
        · exact ((cnt_has hlt hr.2).mp rfl).1
        · refine (reach_is hr.1 hr.2 (Nat.le_refl _) fun z => ?_).symm
          have : ¬ cnt ns f (b + 1) ≤ m := fun y => by
            have := (cnt_le_iff (m := m) (by omega) z).mp y
            omega
          omega
        · have h1 := reach_mono (ns := ns) (f := j) (Nat.le_of_lt hj) hcm
          have h2 := hbest j hj
          rw [← hb] at h2
          exact ⟨by show _ ≤ b - f; omega, fun z => by show _ < b - f; have := h2.2 z; omega⟩
      have hle := h.le _ (by omega) _ hL
      unfold PrLe keyP at hle
      rcases h.of with e | ⟨j, hj, hp⟩
      · rw [e] at hle
        exfalso
        simp only [Int.natCast_zero] at hle
        omega
      · obtain ⟨p1, p2⟩ := p
        obtain ⟨a1, a2, a3, _⟩ := hp
        dsimp only at *
        have r1 := reach_mono (ns := ns) (f := p1) (Nat.le_of_lt a1) (show j ≤ m by omega)
        have r2 := hbest p1 a1
        have r3 := reach_le (ns := ns) (f := p1) (m := j) (Nat.le_of_lt a1)
        rw [← hb] at r2
        rw [← a3] at r1 r3
        have e1 : p1 = f := by
          rcases Nat.lt_trichotomy p1 f with z | z | z
          · have := r2.2 z; omega
          · exact z
          · omega
        subst e1
        have : p2 = b := by omega
        rw [this]
end My

set_option Elab.async false
set_option linter.all false
set_option maxRecDepth 100000
set_option maxHeartbeats 4000000
namespace Prf
open PySem L2
def top (i : Nat) : Stmt := PySem.Challenge.pw_unlikerow_k27_whole_stretches_by_windows.main.body.getD i (.Pass ⟨0, 0, 0, 0⟩)
/-! ### a purse of numbers -/
abbrev st_law_mixed : Stmt := top 22
abbrev st_law_purse : Stmt := top 23
abbrev st_law_next : Stmt := top 24
abbrev st_law_value : Stmt := top 25
section
variable {P : Program} {w : World} {K : PySem.W.Frag} {mg : Str → Option Value} {base : Heap}
theorem sc_law_mixed : FnScope ["cell", "k", "number"] ["cell", "k"] (defScope st_law_mixed) := ⟨rfl, rfl, rfl, by decide +kernel, rfl, by decide +kernel, by decide +kernel⟩
theorem ok_law_mixed {f : Addr} {fd : FuncData} (F : Fun K "_law_mixed" "_law_mixed" st_law_mixed f fd) : FnOk P w K mg base CX0 1 f fd ["cell", "k"] spMixed := by
  refine F.ok sc_law_mixed (fun vs H Q E h => ?_) (fun cdv A outer s H vs Q E hr h => ?_)
  · obtain ⟨c, k, rfl, _⟩ := h
    rfl
  · obtain ⟨c, k, rfl, q⟩ := h
    refine ⟨_, (pss_cons (ps_set (i := 2) sc_law_mixed.nd rfl (Or.inl rfl) (pe_op op_mod (pe_op op_add (pe_op op_mod (pv 0) pe_int) (pe_op op_mul pe_int (pe_op op_add (pv 1) pe_int))) pe_int))
  (pss_cons (ps_set (i := 2) sc_law_mixed.nd rfl (Or.inl rfl) (pe_op op_mod (pe_op op_add (pe_op op_add (pe_op op_mul (pv 2) (pv 2)) (pe_op op_mul pe_int (pv 2))) (pv 1)) pe_int))
  (pss_cons (ps_set (i := 2) sc_law_mixed.nd rfl (Or.inl rfl) (pe_op op_mod (pe_op op_mul (pv 2) (pv 2)) pe_int))
  (pss_one (ps_ret (pe_op op_fdiv (pe_op op_mod (pe_op op_mul (pv 2) pe_int) pe_int) pe_int)))))), ?_⟩
    refine ⟨_, rfl, _, _, rfl, rfl, (show (0 : Int) < 2147483647 by decide), _, rfl, _, _, rfl, rfl, _, _, rfl, rfl, .inl ⟨by decide, by decide⟩, _, _, rfl, rfl, _, _, rfl, rfl, (show (0 : Int) < 2147483647 by decide), ?_⟩
    have b0 : 0 ≤ (c % 2147483647 + 40692 * (k + 1)) % 2147483647 ∧ (c % 2147483647 + 40692 * (k + 1)) % 2147483647 < 2147483647 := ⟨Int.emod_nonneg _ (by decide), Int.emod_lt_of_pos _ (by decide)⟩
    dsimp only [List.set]
    generalize (c % 2147483647 + 40692 * (k + 1)) % 2147483647 = n at b0
    refine ⟨_, rfl, _, rfl, _, _, rfl, rfl, .inl ⟨by omega, by omega⟩, _, rfl, _, _, rfl, rfl, .inl ⟨by decide, by decide⟩, _, _, rfl, rfl, _, rfl, _, _, rfl, rfl, _, _, rfl, rfl, (show (0 : Int) < 2147483647 by decide), ?_⟩
    have b1 : 0 ≤ (n * n + 48271 * n + k) % 2147483647 ∧ (n * n + 48271 * n + k) % 2147483647 < 2147483647 := ⟨Int.emod_nonneg _ (by decide), Int.emod_lt_of_pos _ (by decide)⟩
    dsimp only [List.set]
    generalize (n * n + 48271 * n + k) % 2147483647 = n1 at b1
    refine ⟨_, rfl, _, rfl, _, _, rfl, rfl, .inl ⟨by omega, by omega⟩, _, _, rfl, rfl, (show (0 : Int) < 2147483629 by decide), ?_⟩
    have b2 : 0 ≤ n1 * n1 % 2147483629 ∧ n1 * n1 % 2147483629 < 2147483629 := ⟨Int.emod_nonneg _ (by decide), Int.emod_lt_of_pos _ (by decide)⟩
    dsimp only [List.set]
    generalize n1 * n1 % 2147483629 = n2 at b2
    refine ⟨_, rfl, _, _, rfl, rfl, .inl ⟨by omega, by omega⟩, _, _, rfl, rfl, (show (0 : Int) < 2147483629 by decide), _, _, rfl, rfl, ⟨by decide, by decide⟩, q _ ?_⟩
    have := Int.emod_nonneg (n2 * 69621) (show (2147483629 : Int) ≠ 0 by decide)
    omega
theorem sc_law_purse : FnScope ["script", "at", "step", "many", "cells", "rests", "purse", "k", "place"] ["script", "at", "step", "many"] (defScope st_law_purse) := ⟨rfl, rfl, rfl, by decide +kernel, rfl, by decide +kernel, by decide +kernel⟩
theorem b01 (b : Bool) : -(2 ^ 64) < (if b = true then (1 : Int) else 0) ∧ (if b = true then (1 : Int) else 0) < 2 ^ 64 := by cases b <;> decide
def restM (c : Int) : Int := (if c < 0 then -c else c) * (if decide ((10 : Int) ^ (18 : Int).toNat ≤ if c < 0 then -c else c) = true then 1 else 0)
def restV : V → V
  | .int c => .int (restM c)
  | _ => .non
theorem rest_map (cs : List Int) : ((cs.map V.int).filter fun _ => true).map restV = (cs.map restM).map V.int := by
  rw [List.filter_eq_self.mpr (fun _ _ => rfl), List.map_map, List.map_map]; rfl
theorem rest_nn (c : Int) : 0 ≤ restM c := by
  unfold restM
  refine Int.mul_nonneg ?_ ?_
  · split <;> omega
  · generalize decide ((10 : Int) ^ (18 : Int).toNat ≤ if c < 0 then -c else c) = b
    cases b <;> decide
theorem ok_law_purse {f : Addr} {fd : FuncData} (B : Blt mg) (F : Fun K "_law_purse" "_law_purse" st_law_purse f fd) (h_law_mixed : Has P w K mg base "_law_mixed" 1 ["cell", "k"] spMixed) : FnOk P w K mg base CX0 2 f fd ["script", "at", "step", "many"] (spPurse K) := by
  refine F.ok sc_law_purse (fun vs H Q E h => ?_) (fun cdv A outer s H vs Q E hr h => ?_)
  · obtain ⟨a, ns, i, c, m, rfl, _⟩ := h
    rfl
  · obtain ⟨a, ns, i, c, m, rfl, hq, hn, hc, hm, q⟩ := h
    have hu := hr.units0
    have hs : sizeLine = 16777216 := sizeLine_eq
    refine ⟨_, (pss_cons (ps_set (i := 4) sc_law_purse.nd rfl (Or.inl rfl) (pe_slice3 (K := K) rfl (pv 0) (pv 1) pe_int (pv 2)))
  (pss_cons (ps_if (pt_cmpR (eqLK (K := K) rfl hu) (pv 4) (pe_lst pa_nil) (nomark _))
  (pss_one (ps_set (i := 4) sc_law_purse.nd rfl (Or.inl rfl) (pe_lst (pa_cons (pv 1) pa_nil))))
  pss_nil)
  (pss_cons (ps_setLc (i := 5) (own := ["cell"]) (ix := []) (N := ["cell"]) rfl sc_law_purse.nd rfl rfl (LcOk.of (by rfl)) (piK (K := K) rfl (pv 4)) (fun _ _ _ _ _ => (pg_name (i := 0) (show (["cell"] : List Str).Nodup by decide +kernel) rfl (by first | exact Or.inl rfl | exact Or.inr rfl))) (fun _ _ _ _ _ => pts_nil) (fun _ _ _ _ _ => (pe_op op_mul (pe_callB call_abs (by rfl) B.abs boot_abs' (pa_cons (pv 0) pa_nil)) (pe_callTy call_int1 (by rfl) B.int boot_int' (pa_cons (pe_cmpR op_ge (pe_callB call_abs (by rfl) B.abs boot_abs' (pa_cons (pv 0) pa_nil)) (pe_op op_pow pe_int pe_int) (nomark _)) pa_nil)))))
  (pss_cons (ps_set (i := 6) sc_law_purse.nd rfl (Or.inl rfl) (pe_lst pa_nil))
  (pss_cons (ps_for PassesOwn.never rfl (pi_range1 (by rfl) B.range (pa_cons (pv 3) pa_nil)) (pg_name (i := 7) sc_law_purse.nd rfl (Or.inl rfl))
  (pss_cons (ps_set (i := 8) sc_law_purse.nd rfl (Or.inl rfl) (pe_op op_mod (pv 7) (pe_callB (lenK (K := K) rfl) (by rfl) B.len PySem.boot_len (pa_cons (pv 4) pa_nil))))
  (pss_one (ps_if (pt_cmpR op_gt (pe_ix (ixK (K := K) rfl) (pv 5) (pv 8) (fun _ _ => rfl)) pe_int (nomark _))
  (pss_cons (ps_expr (pe_bm PySem.F.plainAttrs_list PySem.F.slot_list_append PySem.F.type_list_append mt_append (pv 6) (pa_cons (pe_op op_mod (pe_ix (ixK (K := K) rfl) (pv 5) (pv 8) (fun _ _ => rfl)) pe_int) pa_nil)))
  (pss_one (ps_asg (pe_op op_fdiv (pe_ix (ixK (K := K) rfl) (pv 5) (pv 8) (fun _ _ => rfl)) pe_int) (pg_sub (pv 5) (pv 8) set_list))))
  (pss_one (ps_expr (pe_bm PySem.F.plainAttrs_list PySem.F.slot_list_append PySem.F.type_list_append mt_append (pv 6) (pa_cons (pe_callH h_law_mixed (hr.mono (by decide)) (by rfl) (pa_cons (pe_ix (ixK (K := K) rfl) (pv 4) (pv 8) (fun _ _ => rfl)) (pa_cons (pe_op op_fdiv (pv 7) (pe_callB (lenK (K := K) rfl) (by rfl) B.len PySem.boot_len (pa_cons (pv 4) pa_nil))) pa_nil))) pa_nil))))))))
  (pss_one (ps_ret (pe_listRev (K := K) rfl rfl (by rfl) B.reversed (by rfl) B.list (pa_cons (pv 6) pa_nil))))))))), ?_⟩
    refine ⟨_, rfl, _, rfl, i, rfl, _, rfl, _, rfl, c, a, _, rfl, hc, rfl, hq, fun p1 h1 hle => ?_⟩
    obtain ⟨cs, ecs⟩ := My.ints_of (ys := pick3 (ns.map V.int) i 126 c) fun y hy => by
      obtain ⟨z, _, e⟩ := List.mem_map.mp (pick3_mem hy); exact ⟨z, e.symm⟩
    rw [ecs] at hle ⊢
    rw [len_int, len_int] at hle
    have s1 : Same H (upd H p1 (.lst (cs.map V.int))) := Same.new h1
    have e1 : upd H p1 (.lst (cs.map V.int)) p1 = some (.lst (cs.map V.int)) := upd_same
    generalize upd H p1 (.lst (cs.map V.int)) = H1 at s1 e1 ⊢
    refine ⟨_, rfl, by show 0 ≤ sizeLine; decide, fun p2 h2 => ?_⟩
    refine eqNil (SqL.of (Same.new h2 _ _ e1)) (SqL.of upd_same) ⟨_, rfl, ?_⟩
    have s2 : Same H (upd H1 p2 (.lst [])) := s1.trans (Same.new h2)
    have e2 : upd H1 p2 (.lst []) p1 = some (.lst (cs.map V.int)) := Same.new h2 _ _ e1
    generalize upd H1 p2 (.lst []) = H2 at s2 e2 ⊢
    clear s1 e1 h2
    refine ite2 (fun z => ?A) (fun z => ?B)
    case' A =>
      refine ⟨_, rfl, by show 1 ≤ sizeLine; decide, fun p3 h3 => ?_⟩
      have s3 : Same H (upd H2 p3 (.lst [.int i])) := s2.trans (Same.new h3)
      have e3 : upd H2 p3 (.lst [.int i]) p3 = some (.lst (([i] : List Int).map V.int)) := upd_same
      have hpos : 0 < ([i] : List Int).length := Nat.zero_lt_one
      have hle3 : ([i] : List Int).length ≤ 63 := by show 1 ≤ 63; decide
      have h3H : H p3 = none := s2.free h3
      clear h3 s2 e2 hle ecs h1
      revert e3 hpos hle3 h3H s3
      generalize upd H2 p3 (.lst [.int i]) = H3
      generalize ([i] : List Int) = ds
      intro s3 e3 hpos hle3 h3H
    case' B =>
      have s3 := s2
      have e3 := e2
      have hpos : 0 < cs.length := by
        cases cs with
        | nil => exact absurd (decide_eq_true rfl) z
        | cons x r => exact Nat.succ_pos _
      have hle3 : cs.length ≤ 63 := by omega
      have h3H : H p1 = none := h1
      clear s2 e2 h1 ecs hle
      revert e3 hpos hle3 h3H s3
      generalize H2 = H3
      generalize p1 = p3
      generalize cs = ds
      intro s3 e3 hpos hle3 h3H
    all_goals
      clear z
      refine ⟨_, rfl, p3, rfl, ⟨_, SqL.of e3⟩, fun D hD => ?_⟩
      refine lc_list_ev (cap := []) (xs := ds.map V.int) (fun _ => true) restV (small1000 (by rw [len_int]; omega)) hD (SqL.of e3) (fun x H' hx s' => evYes) (fun x H' hx _ s' Q' k => ?_) (fun H4 s4 e4 => ?_)
      · obtain ⟨n, _, rfl⟩ := List.mem_map.mp hx
        refine ⟨_, rfl, _, rfl, _, rfl, _, rfl, _, _, rfl, rfl, ⟨by decide, by decide, by decide⟩, _, _, rfl, rfl, .inr ⟨_, rfl, _, _, rfl, rfl, .inr (b01 _), k H' (Same.refl _)⟩⟩
      rw [rest_map] at e4
      have hDH : H D = none := s3.free hD
      have s34 := s3.trans s4
      have e34 := s4 _ _ e3
      have hrs : (ds.map restM).length = ds.length := List.length_map _
      have hrn : ∀ x ∈ ds.map restM, 0 ≤ x := fun x hx => by obtain ⟨y, _, rfl⟩ := List.mem_map.mp hx; exact rest_nn y
      have nD3 : D ≠ p3 := (ne_of_none e3 hD).symm
      clear hD s4 s3 e3
      generalize ds.map restM = rs at e4 hrs hrn
      refine ⟨by show 0 ≤ sizeLine; decide, fun U hU => ?_⟩
      have hUH : H U = none := s34.free hU
      have nUD : U ≠ D := (ne_of_none e4 hU).symm
      have nU3 : U ≠ p3 := (ne_of_none e34 hU).symm
      refine ⟨_, rfl, _, rfl, by omega, by omega, for_range (fun k σ Hc => ∃ (v7 v8 : Option V) (rs ps : List Int), σ = [some (.ref a), some (.int i), some (.int c), some (.int m), some (.ref p3), some (.ref D), some (.ref U), v7, v8] ∧ Same H Hc ∧ Hc p3 = some (.lst (ds.map V.int)) ∧
        Hc D = some (.lst (rs.map V.int)) ∧ rs.length = ds.length ∧ (∀ x ∈ rs, 0 ≤ x) ∧ Hc U = some (.lst (ps.map V.int)) ∧ ps.length = k ∧ ∀ x ∈ ps, 0 ≤ x) ⟨none, none, rs, [], rfl, s34.trans (Same.new hU), Same.new hU _ _ e34, Same.new hU _ _ e4, hrs, hrn, upd_same, rfl, fun x hx => by simp at hx⟩ ?_ ?_⟩
      · rintro k σ Hc hk ⟨v7, v8, rs, ps, rfl, sc, ec, er, hrl, hrn, eu, hpl, hpn⟩
        have hlpos : (0 : Int) < (ds.map V.int).length := by rw [len_int]; omega
        have m0 := Int.emod_nonneg ((0 : Int) + (k : Int)) (Int.ne_of_gt hlpos)
        have m1 := Int.emod_lt_of_pos ((0 : Int) + (k : Int)) hlpos
        refine ⟨_, rfl, _, rfl, p3, _, rfl, .inl (SqL.of ec), _, _, rfl, rfl, hlpos, ?_⟩
        dsimp only [List.set]
        generalize ((0 : Int) + (k : Int)) % ((ds.map V.int).length : Int) = pl at m0 m1
        rw [len_int] at m1
        refine ⟨_, rfl, _, rfl, D, _, pl, _, rfl, rfl, SqL.of er, atI_int m0 (by omega), _, _, rfl, rfl, _, rfl, ?_⟩
        have hx0 : 0 ≤ rs.getD pl.toNat 0 := getD_all (R := fun x : Int => 0 ≤ x) hrn (by omega)
        refine ite2 (fun _ => ?_) (fun _ => ?_)
        · refine ⟨_, rfl, .inl ⟨rfl, _, SqL.of eu⟩, _, rfl, _, rfl, D, _, pl, _, rfl, rfl, SqL.of er, atI_int m0 (by omega), _, _, rfl, rfl, (show (0 : Int) < 1000003 by decide), U, _, _, rfl, rfl, eu, small1000 (by rw [len_int]; omega), ?_⟩
          refine ⟨_, rfl, _, rfl, D, _, pl, _, rfl, rfl, SqL.of (by rw [upd_ne nUD.symm]; exact er), atI_int m0 (by omega), _, _, rfl, rfl, ⟨by decide, by decide⟩, _, rfl, _, rfl, D, _, _, pl.toNat, rfl, rfl, by rw [upd_ne nUD.symm]; exact er, ixN_int m0 (by rw [len_int]; omega), ?_⟩
          refine ⟨_, _, rs.set pl.toNat (rs.getD pl.toNat 0 / 1000003), ps ++ [rs.getD pl.toNat 0 % 1000003], rfl, ?_, ?_, ?_, by rw [List.length_set]; exact hrl, ?_, ?_, by rw [List.length_append, hpl]; rfl, ?_⟩
          · intro b o z
            rw [upd_ne (ne_of_none z hDH), upd_ne (ne_of_none z hUH)]; exact sc b o z
          · rw [upd_ne nD3.symm, upd_ne nU3.symm]; exact ec
          · rw [upd_same, List.map_set]
          · intro x hx
            rcases List.mem_or_eq_of_mem_set hx with z | z
            · exact hrn x z
            · rw [z]; omega
          · rw [upd_ne nUD, upd_same, List.map_append]; rfl
          · intro x hx
            rcases List.mem_append.mp hx with z | z
            · exact hpn x z
            · rw [List.mem_singleton.mp z]; exact Int.emod_nonneg _ (by decide)
        · refine ⟨_, rfl, .inl ⟨rfl, _, SqL.of eu⟩, _, rfl, _, rfl, p3, _, pl, _, rfl, rfl, SqL.of ec, atI_int m0 (by omega), _, rfl, _, rfl, p3, _, rfl, .inl (SqL.of ec), _, _, rfl, rfl, ⟨hlpos, by rw [len_int]; omega⟩, _, _, rfl, fun r hr0 => ⟨U, _, _, rfl, rfl, eu, small1000 (by rw [len_int]; omega), ?_⟩⟩
          refine ⟨_, _, rs, ps ++ [r], rfl, ?_, ?_, ?_, hrl, hrn, ?_, by rw [List.length_append, hpl]; rfl, ?_⟩
          · intro b o z
            rw [upd_ne (ne_of_none z hUH)]; exact sc b o z
          · rw [upd_ne nU3.symm]; exact ec
          · rw [upd_ne nUD.symm]; exact er
          · rw [upd_same, List.map_append]; rfl
          · intro x hx
            rcases List.mem_append.mp hx with z | z
            · exact hpn x z
            · rw [List.mem_singleton.mp z]; exact hr0
      · rintro σ Hc ⟨v7, v8, rs, ps, rfl, sc, ec, er, hrl, hrn, eu, hpl, hpn⟩
        refine ⟨_, rfl, U, _, rfl, SqL.of eu, fun l nl => ?_⟩
        refine q l _ (sc.free nl) (sc.trans (Same.new nl)) ⟨ps.reverse, by rw [upd_same, List.map_reverse], by rw [List.length_reverse]; omega, fun x hx => hpn x (List.mem_reverse.mp hx)⟩
theorem sc_law_next : FnScope ["purse"] ["purse"] (defScope st_law_next) := ⟨rfl, rfl, rfl, by decide +kernel, rfl, by decide +kernel, by decide +kernel⟩
theorem ok_law_next {f : Addr} {fd : FuncData} (B : Blt mg) (F : Fun K "_law_next" "_law_next" st_law_next f fd) : FnOk P w K mg base CX0 1 f fd ["purse"] spNext := by
  refine F.ok sc_law_next (fun vs H Q E h => ?_) (fun cdv A outer s H vs Q E hr h => ?_)
  · obtain ⟨p, rfl, _⟩ := h
    rfl
  · obtain ⟨p, rfl, ⟨ps, ep, hpl, hpn⟩, q⟩ := h
    have hu := hr.units0
    refine ⟨_, (pss_cons (ps_if (pt_cmpR (eqLK (K := K) rfl hu) (pv 0) (pe_lst pa_nil) (nomark _))
  (pss_one (ps_ret pe_int))
  pss_nil)
  (pss_one (ps_ret (pe_bm0 PySem.F.plainAttrs_list PySem.F.slot_list_pop PySem.F.type_list_pop mt_pop (pv 0))))), ?_⟩
    refine ⟨_, rfl, by show 0 ≤ sizeLine; decide, fun p2 h2 => ?_⟩
    have e2 : upd H p2 (.lst []) p = some (.lst (ps.map V.int)) := Same.new h2 _ _ ep
    refine eqNil (SqL.of e2) (SqL.of upd_same) ⟨_, rfl, ite2 (fun z => ?_) (fun z => ?_)⟩
    · exact q 0 _ (Int.le_refl _) ⟨ps, e2, hpl, hpn⟩ (Same.new h2).x
    · have hne : ps ≠ [] := fun y => z (by rw [y]; rfl)
      have hlen : 0 < ps.length := List.length_pos_iff.mpr hne
      have hlast : (ps.map V.int)[(ps.map V.int).length - 1]? = some (.int (ps.getD (ps.length - 1) 0)) := by
        rw [len_int, List.getElem?_map, List.getD_eq_getElem?_getD, List.getElem?_eq_getElem (by omega)]; rfl
      refine ⟨_, rfl, .inl ⟨rfl, _, SqL.of e2⟩, p, _, _, rfl, rfl, e2, hlast, ?_⟩
      refine q _ _ (getD_all (R := fun x : Int => 0 ≤ x) hpn (by omega)) ⟨ps.dropLast, by rw [upd_same, List.map_dropLast], by rw [List.length_dropLast]; omega, fun x hx => hpn x ((List.dropLast_sublist ps).subset hx)⟩ ?_
      exact (Same.new h2).x.trans SameX.of_upd
theorem sc_law_value : FnScope ["way", "at"] ["way", "at"] (defScope st_law_value) := ⟨rfl, rfl, rfl, by decide +kernel, rfl, by decide +kernel, by decide +kernel⟩
theorem ok_law_value {f : Addr} {fd : FuncData} (F : Fun K "_law_value" "_law_value" st_law_value f fd) : FnOk P w K mg base CX0 1 f fd ["way", "at"] spValue := by
  refine F.ok sc_law_value (fun vs H Q E h => ?_) (fun cdv A outer s H vs Q E hr h => ?_)
  · obtain ⟨x, a, rfl, _⟩ := h
    rfl
  · obtain ⟨x, a, rfl, q⟩ := h
    refine ⟨_, (pss_cons (ps_if (pt_cmpR op_eq (pv 0) pe_int (nomark _))
  (pss_one (ps_ret (pv 1)))
  pss_nil)
  (pss_cons (ps_if (pt_cmpR op_eq (pv 0) pe_int (nomark _))
  (pss_one (ps_ret (pe_op op_sub (pe_op op_pow pe_int pe_int) (pv 1))))
  pss_nil)
  (pss_cons (ps_if (pt_cmpR op_eq (pv 0) pe_int (nomark _))
  (pss_one (ps_ret (pe_op op_mul (pe_ix (ixK (K := K) rfl) (pe_lst (pa_cons (pe_un un_neg pe_int) (pa_cons pe_int pa_nil))) (pe_op op_mod (pv 1) pe_int) (fun _ _ => rfl)) (pe_op op_add (pe_op op_pow pe_int pe_int) (pv 1)))))
  pss_nil)
  (pss_cons (ps_if (pt_cmpR op_eq (pv 0) pe_int (nomark _))
  (pss_one (ps_ret (pe_op op_sub (pv 1) pe_int)))
  pss_nil)
  (pss_one (ps_ret (pe_op op_sub (pe_op op_mul pe_int (pv 1)) (pe_op op_pow pe_int pe_int)))))))), ?_⟩
    unfold valM at q
    refine ⟨_, rfl, rfl, _, rfl, ite2 (fun z => ?_) (fun z => ?_)⟩
    · have z' : x = 0 := by simpa using z
      rw [if_pos z'] at q
      exact ⟨_, rfl, q H (Same.refl _)⟩
    have z0 : ¬ x = 0 := fun y => z (by subst y; rfl)
    rw [if_neg z0] at q
    refine ⟨_, rfl, rfl, _, rfl, ite2 (fun z => ?_) (fun z => ?_)⟩
    · have z' : x = 1 := by simpa using z
      rw [if_pos z'] at q
      exact ⟨_, _, rfl, rfl, ⟨by decide, by decide, by decide⟩, _, rfl, _, _, rfl, rfl, q H (Same.refl _)⟩
    have z1 : ¬ x = 1 := fun y => z (by subst y; rfl)
    rw [if_neg z1] at q
    refine ⟨_, rfl, rfl, _, rfl, ite2 (fun z => ?_) (fun z => ?_)⟩
    · have z' : x = 2 := by simpa using z
      rw [if_pos z'] at q
      have m0 := Int.emod_nonneg a (show (2 : Int) ≠ 0 by decide)
      have m1 := Int.emod_lt_of_pos a (show (0 : Int) < 2 by decide)
      refine ⟨_, rfl, by show 2 ≤ sizeLine; decide, fun p hp => ⟨_, rfl, _, _, rfl, rfl, (show (0 : Int) < 2 by decide), p, _, _, _, rfl, rfl, SqL.of upd_same, atI_int (ns := [-1, 1]) m0 m1, ?_⟩⟩
      have hb : -(2 ^ 64) < [-1, 1].getD (a % 2).toNat (0 : Int) ∧ [-1, 1].getD (a % 2).toNat (0 : Int) < 2 ^ 64 := getD_all (R := fun y : Int => -(2 ^ 64) < y ∧ y < 2 ^ 64) (fun y hy => by
        simp only [List.mem_cons, List.not_mem_nil, or_false] at hy
        rcases hy with rfl | rfl <;> decide) (by show (a % 2).toNat < 2; omega)
      exact ⟨_, _, rfl, rfl, ⟨by decide, by decide, by decide⟩, _, rfl, _, _, rfl, rfl, _, _, rfl, rfl, .inl hb, q _ (Same.new hp)⟩
    have z2 : ¬ x = 2 := fun y => z (by subst y; rfl)
    rw [if_neg z2] at q
    refine ⟨_, rfl, rfl, _, rfl, ite2 (fun z => ?_) (fun z => ?_)⟩
    · have z' : x = 3 := by simpa using z
      rw [if_pos z'] at q
      exact ⟨_, rfl, _, _, rfl, rfl, q H (Same.refl _)⟩
    have z3 : ¬ x = 3 := fun y => z (by subst y; rfl)
    rw [if_neg z3] at q
    exact ⟨_, rfl, _, _, rfl, rfl, .inl ⟨by decide, by decide⟩, _, _, rfl, rfl, ⟨by decide, by decide, by decide⟩, _, _, rfl, rfl, q H (Same.refl _)⟩
end
abbrev st_law_row : Stmt := top 26
section
variable {P : Program} {w : World} {K : PySem.W.Frag} {mg : Str → Option Value} {base : Heap}
def valW (w : Int) : V → V
  | .int a => .int (valM w a)
  | _ => .non
theorem val_map (w : Int) (cs : List Int) : ((cs.map V.int).filter fun _ => true).map (valW w) = (cs.map (valM w)).map V.int := by
  rw [List.filter_eq_self.mpr (fun _ _ => rfl), List.map_map, List.map_map]; rfl
theorem sc_law_row : FnScope ["purse", "most", "unlike", "way", "many", "kind", "places", "k", "drawn", "turns", "size", "wide", "again"] ["purse", "most"] (defScope st_law_row) := ⟨rfl, rfl, rfl, by decide +kernel, rfl, by decide +kernel, by decide +kernel⟩
theorem ok_law_row {f : Addr} {fd : FuncData} (B : Blt mg) (F : Fun K "_law_row" "_law_row" st_law_row f fd) (h_law_next : Has P w K mg base "_law_next" 1 ["purse"] spNext) (h_law_value : Has P w K mg base "_law_value" 1 ["way", "at"] spValue) : FnOk P w K mg base CX0 2 f fd ["purse", "most"] spRowP := by
  refine F.ok sc_law_row (fun vs H Q E h => ?_) (fun cdv A outer s H vs Q E hr h => ?_)
  · obtain ⟨p, m, rfl, _⟩ := h
    rfl
  · obtain ⟨p, m, rfl, hd, hm, q⟩ := h
    have hu := hr.units0
    have hs : sizeLine = 16777216 := sizeLine_eq
    refine ⟨_, (pss_cons (ps_set (i := 2) sc_law_row.nd rfl (Or.inl rfl) (pe_op op_add pe_int (pe_op op_mod (pe_callH h_law_next (hr.mono (by decide)) (by rfl) (pa_cons (pv 0) pa_nil)) (pe_ix (ixK (K := K) rfl) (pe_lst (pa_cons pe_int (pa_cons pe_int (pa_cons pe_int (pa_cons pe_int pa_nil))))) (pe_op op_mod (pe_callH h_law_next (hr.mono (by decide)) (by rfl) (pa_cons (pv 0) pa_nil)) pe_int) (fun _ _ => rfl)))))
  (pss_cons (ps_set (i := 3) sc_law_row.nd rfl (Or.inr rfl) (pe_op op_mod (pe_callH h_law_next (hr.mono (by decide)) (by rfl) (pa_cons (pv 0) pa_nil)) pe_int))
  (pss_cons (ps_set (i := 4) sc_law_row.nd rfl (Or.inl rfl) (pe_op op_mod (pe_callH h_law_next (hr.mono (by decide)) (by rfl) (pa_cons (pv 0) pa_nil)) (pe_ix (ixK (K := K) rfl) (pe_lst (pa_cons pe_int (pa_cons pe_int (pa_cons pe_int (pa_cons pe_int pa_nil))))) (pe_op op_mod (pe_callH h_law_next (hr.mono (by decide)) (by rfl) (pa_cons (pv 0) pa_nil)) pe_int) (fun _ _ => rfl))))
  (pss_cons (ps_set (i := 5) sc_law_row.nd rfl (Or.inl rfl) (pe_op op_mod (pe_callH h_law_next (hr.mono (by decide)) (by rfl) (pa_cons (pv 0) pa_nil)) pe_int))
  (pss_cons (ps_set (i := 6) sc_law_row.nd rfl (Or.inl rfl) (pe_lst pa_nil))
  (pss_cons (ps_for PassesOwn.never rfl (pi_range1 (by rfl) B.range (pa_cons (pv 4) pa_nil)) (pg_name (i := 7) sc_law_row.nd rfl (Or.inl rfl))
  (pss_cons (ps_set (i := 8) sc_law_row.nd rfl (Or.inl rfl) (pe_callH h_law_next (hr.mono (by decide)) (by rfl) (pa_cons (pv 0) pa_nil)))
  (pss_one (ps_expr (pe_bm PySem.F.plainAttrs_list PySem.F.slot_list_append PySem.F.type_list_append mt_append (pv 6) (pa_cons (pe_op op_mod (pe_ix (ixK (K := K) rfl) (QE.un (qe_lst (qa_cons (pv 7) (qa_cons (pe_op op_fdiv (pv 7) pe_int) (qa_cons (pv 8) (qa_cons (pv 8) (qa_cons (pv 8) (qa_cons (pv 8) qa_nil)))))))) (pv 5) (fun _ _ => rfl)) (pv 2)) pa_nil))))))
  (pss_cons (ps_if (PW.pt (pw_and (pt_cmpR op_eq (pe_op op_mod (pe_callH h_law_next (hr.mono (by decide)) (by rfl) (pa_cons (pv 0) pa_nil)) pe_int) pe_int (nomark _)) (pw_and1 (pt_cmpR (neLK (K := K) rfl hu) (pv 6) (pe_lst pa_nil) (nomark _)))))
  (pss_cons (ps_set (i := 9) sc_law_row.nd rfl (Or.inl rfl) (pe_op op_add pe_int (pe_op op_mod (pe_callH h_law_next (hr.mono (by decide)) (by rfl) (pa_cons (pv 0) pa_nil)) (pe_ix (ixK (K := K) rfl) (pe_lst (pa_cons pe_int (pa_cons pe_int pa_nil))) (pe_op op_mod (pe_callH h_law_next (hr.mono (by decide)) (by rfl) (pa_cons (pv 0) pa_nil)) pe_int) (fun _ _ => rfl)))))
  (pss_cons (ps_set (i := 10) sc_law_row.nd rfl (Or.inl rfl) (pe_callB (lenK (K := K) rfl) (by rfl) B.len PySem.boot_len (pa_cons (pv 6) pa_nil)))
  (pss_cons (ps_set (i := 11) sc_law_row.nd rfl (Or.inl rfl) (pe_op op_add (pv 2) (pv 9)))
  (pss_cons (ps_set (i := 12) sc_law_row.nd rfl (Or.inl rfl) (pe_lst pa_nil))
  (pss_cons (ps_for PassesOwn.never rfl (pi_range1 (by rfl) B.range (pa_cons (pv 1) pa_nil)) (pg_name (i := 7) sc_law_row.nd rfl (Or.inl rfl))
  (pss_one (ps_expr (pe_bm PySem.F.plainAttrs_list PySem.F.slot_list_append PySem.F.type_list_append mt_append (pv 12) (pa_cons (pe_op op_mod (pe_op op_add (pe_ix (ixK (K := K) rfl) (pv 6) (pe_op op_mod (pv 7) (pv 10)) (fun _ _ => rfl)) (pe_op op_mod (pe_op op_fdiv (pv 7) (pv 10)) (pv 9))) (pv 11)) pa_nil)))))
  (pss_one (ps_set (i := 6) sc_law_row.nd rfl (Or.inl rfl) (pv 12))))))))
  pss_nil)
  (pss_one (ps_ret (pe_lc (own := ["at"]) (ix := [3]) (N := ["at", "way"]) rfl (LcOk.of (by rfl)) (piK (K := K) rfl (pv 6)) (fun _ _ _ _ _ => (pg_name (i := 0) (show (["at", "way"] : List Str).Nodup by decide +kernel) rfl (by first | exact Or.inl rfl | exact Or.inr rfl))) (fun _ _ _ _ _ => pts_nil) (fun _ _ _ _ _ => (pe_callH h_law_value (hr.mono (by decide)) (by rfl) (pa_cons (pv 1) (pa_cons (pv 0) pa_nil)))))))))))))), ?_⟩
    -- unlike
    refine ⟨_, rfl, p, rfl, hd, fun r1 H1 r10 hd1 sx1 => ⟨by show 4 ≤ sizeLine; decide, fun p1 hp1 => ⟨_, rfl, p, rfl, hd1.new hp1, fun r2 H2 r20 hd2 sx2 => ?_⟩⟩⟩
    refine ⟨_, _, rfl, rfl, (show (0 : Int) < 4 by decide), p1, _, _, _, rfl, rfl, SqL.of (sx2 p1 _ (hd1.ne hp1) upd_same), atI_int (ns := [2, 4, 9, 40]) (Int.emod_nonneg _ (by decide)) (Int.emod_lt_of_pos _ (by decide)), ?_⟩
    have g1 : 0 < [2, 4, 9, 40].getD (r2 % 4).toNat (0 : Int) := getD_all (R := fun x : Int => 0 < x) (fun x hx => by
      simp only [List.mem_cons, List.not_mem_nil, or_false] at hx
      rcases hx with rfl | rfl | rfl | rfl <;> decide) (by show (r2 % 4).toNat < 4; omega)
    generalize [2, 4, 9, 40].getD (r2 % 4).toNat (0 : Int) = lim1 at g1
    refine ⟨_, _, rfl, rfl, g1, _, _, rfl, rfl, ?_⟩
    have u0 : 0 < 1 + r1 % lim1 := by have := Int.emod_nonneg r1 (Int.ne_of_gt g1); omega
    dsimp only [L2.start, List.set]
    generalize 1 + r1 % lim1 = U at u0
    have x2 : SameX p H H2 := sx1.trans ((Same.new hp1).x.trans sx2)
    clear sx1 sx2 hp1 hd1 g1 p1
    -- way
    refine ⟨_, rfl, p, rfl, hd2, fun r3 H3 r30 hd3 sx3 => ⟨_, _, rfl, rfl, (show (0 : Int) < 5 by decide), ?_⟩⟩
    dsimp only [List.set]
    generalize r3 % 5 = way
    have x3 := x2.trans sx3
    clear x2 sx3 hd2
    -- many
    refine ⟨_, rfl, p, rfl, hd3, fun r4 H4 r40 hd4 sx4 => ⟨by show 4 ≤ sizeLine; decide, fun p1 hp1 => ⟨_, rfl, p, rfl, hd4.new hp1, fun r5 H5 r50 hd5 sx5 => ?_⟩⟩⟩
    refine ⟨_, _, rfl, rfl, (show (0 : Int) < 4 by decide), p1, _, _, _, rfl, rfl, SqL.of (sx5 p1 _ (hd4.ne hp1) upd_same), atI_int (ns := [5, 12, 30, 41]) (Int.emod_nonneg _ (by decide)) (Int.emod_lt_of_pos _ (by decide)), ?_⟩
    have g2 : 0 < [5, 12, 30, 41].getD (r5 % 4).toNat (0 : Int) ∧ [5, 12, 30, 41].getD (r5 % 4).toNat (0 : Int) ≤ 41 := getD_all (R := fun x : Int => 0 < x ∧ x ≤ 41) (fun x hx => by
      simp only [List.mem_cons, List.not_mem_nil, or_false] at hx
      rcases hx with rfl | rfl | rfl | rfl <;> decide) (by show (r5 % 4).toNat < 4; omega)
    generalize [5, 12, 30, 41].getD (r5 % 4).toNat (0 : Int) = lim2 at g2
    refine ⟨_, _, rfl, rfl, g2.1, ?_⟩
    have n0 : 0 ≤ r4 % lim2 ∧ r4 % lim2 < 41 := by
      have h1 := Int.emod_nonneg r4 (Int.ne_of_gt g2.1)
      have h2 := Int.emod_lt_of_pos r4 g2.1
      omega
    dsimp only [List.set]
    generalize r4 % lim2 = M at n0
    have x5 : SameX p H H5 := x3.trans (sx4.trans ((Same.new hp1).x.trans sx5))
    clear x3 sx4 sx5 hp1 hd3 hd4 g2 p1
    -- kind
    refine ⟨_, rfl, p, rfl, hd5, fun r6 H6 r60 hd6 sx6 => ⟨_, _, rfl, rfl, (show (0 : Int) < 6 by decide), ?_⟩⟩
    have k0 : 0 ≤ r6 % 6 ∧ r6 % 6 < 6 := by omega
    dsimp only [List.set]
    generalize r6 % 6 = kd at k0
    have x6 := x5.trans sx6
    clear x5 sx6 hd5
    -- places
    refine ⟨by show 0 ≤ sizeLine; decide, fun pl hpl => ?_⟩
    have nplp : pl ≠ p := hd6.ne hpl
    have hplH : H pl = none := x6.free nplp hpl
    refine ⟨_, rfl, _, rfl, by omega, by omega, for_range (fun k σ Hc => ∃ (v7 v8 : Option V) (ms : List Int), σ = [some (.ref p), some (.int m), some (.int U), some (.int way), some (.int M), some (.int kd), some (.ref pl), v7, v8, none, none, none, none] ∧ Hc pl = some (.lst (ms.map V.int)) ∧ ms.length = k ∧ PurseAt Hc p ∧ SameX p H Hc)
      ⟨none, none, [], rfl, upd_same, rfl, hd6.new hpl, x6.put hplH⟩ ?_ ?_⟩
    · rintro k σ Hc hk ⟨v7, v8, ms, rfl, el, hl, hdc, xc⟩
      refine ⟨_, rfl, p, rfl, hdc, fun r Hd r0 hdd sxd => ?_⟩
      have eld := sxd pl _ nplp el
      refine ⟨_, rfl, .inl ⟨rfl, _, SqL.of eld⟩, _, rfl, _, rfl, _, _, rfl, rfl, ⟨by decide, by decide⟩, _, rfl, _, rfl, _, rfl, _, rfl, by show 6 ≤ sizeLine; decide, fun q6 hq6 => ?_⟩
      refine ⟨_, rfl, q6, _, _, _, rfl, rfl, SqL.of upd_same, atI_int (ns := [_, _, _, _, _, _]) k0.1 k0.2, _, rfl, _, _, rfl, rfl, u0, pl, _, _, rfl, rfl, Same.new hq6 _ _ eld, small1000 (by rw [len_int]; omega), ?_⟩
      refine ⟨_, _, ms ++ [_], rfl, by rw [upd_same, List.map_append]; rfl, by rw [List.length_append, hl]; rfl, (hdd.new hq6).put nplp, (((xc.trans sxd).trans (Same.new hq6).x).put hplH)⟩
    · rintro σ Hc ⟨v7, v8, ms, rfl, el, hl, hdc, xc⟩
      refine ⟨_, rfl, p, rfl, hdc, fun r Hd r0 hdd sxd => ⟨_, _, rfl, rfl, (show (0 : Int) < 8 by decide), rfl, _, rfl, ite2 (fun z => ?T) (fun z => iteF ?F)⟩⟩
      case' T =>
        have eld := sxd pl _ nplp el
        refine ⟨_, rfl, by show 0 ≤ sizeLine; decide, fun pe hpe => ?_⟩
        refine neNil (SqL.of (Same.new hpe _ _ eld)) (SqL.of upd_same) ⟨_, rfl, ite2 (fun z2 => ?A) (fun z2 => ?B)⟩
        case' B =>
          have ez : upd Hd pe (.lst []) pl = some (.lst (ms.map V.int)) := Same.new hpe _ _ eld
          have hz := hdd.new (o := .lst []) hpe
          have xz := (xc.trans sxd).trans (Same.new (o := .lst []) hpe).x
          have lz : ms.length ≤ 300 := by omega
          clear hpe eld hdd sxd xc hdc el hplH nplp
          revert ez hz xz lz
          generalize upd Hd pe (.lst []) = Hz
          generalize pl = pz
          generalize ms = ls
          intro ez hz xz lz
        case' A =>
          have hms : 0 < ms.length := by
            cases ms with
            | nil => exact absurd z2 (by decide)
            | cons x r => exact Nat.succ_pos _
          have ela : upd Hd pe (.lst []) pl = some (.lst (ms.map V.int)) := Same.new hpe _ _ eld
          have hda := hdd.new (o := .lst []) hpe
          have xa := (xc.trans sxd).trans (Same.new (o := .lst []) hpe).x
          clear hpe eld hdd sxd xc hdc el
          revert ela hda xa
          generalize upd Hd pe (.lst []) = Ha
          intro ela hda xa
          -- turns
          refine ⟨_, rfl, p, rfl, hda, fun t1 G1 t10 hg1 gx1 => ⟨by show 2 ≤ sizeLine; decide, fun p1 hp1 => ⟨_, rfl, p, rfl, hg1.new hp1, fun t2 G2 t20 hg2 gx2 => ?_⟩⟩⟩
          refine ⟨_, _, rfl, rfl, (show (0 : Int) < 2 by decide), p1, _, _, _, rfl, rfl, SqL.of (gx2 p1 _ (hg1.ne hp1) upd_same), atI_int (ns := [7, 300]) (Int.emod_nonneg _ (by decide)) (Int.emod_lt_of_pos _ (by decide)), ?_⟩
          have g3 : 0 < [7, 300].getD (t2 % 2).toNat (0 : Int) := getD_all (R := fun x : Int => 0 < x) (fun x hx => by
            simp only [List.mem_cons, List.not_mem_nil, or_false] at hx
            rcases hx with rfl | rfl <;> decide) (by show (t2 % 2).toNat < 2; omega)
          generalize [7, 300].getD (t2 % 2).toNat (0 : Int) = lim3 at g3
          refine ⟨_, _, rfl, rfl, g3, _, _, rfl, rfl, ?_⟩
          have u3 : 0 < 1 + t1 % lim3 := by have := Int.emod_nonneg t1 (Int.ne_of_gt g3); omega
          dsimp only [List.set]
          generalize 1 + t1 % lim3 = tn at u3
          have elb : G2 pl = some (.lst (ms.map V.int)) := gx2 pl _ nplp (Same.new hp1 _ _ (gx1 pl _ nplp ela))
          have xb : SameX p H G2 := xa.trans (gx1.trans ((Same.new hp1).x.trans gx2))
          clear xa gx1 gx2 hp1 ela hda hg1
          -- size, wide, again
          refine ⟨_, rfl, pl, _, rfl, .inl (SqL.of elb), ?_⟩
          refine ⟨_, rfl, _, rfl, _, _, rfl, rfl, ?_⟩
          refine ⟨by show 0 ≤ sizeLine; decide, fun ag hag => ?_⟩
          have nagp : ag ≠ p := hg2.ne hag
          have hagH : H ag = none := xb.free nagp hag
          have nagl : ag ≠ pl := (ne_of_none elb hag).symm
          have hsz : (0 : Int) < ((ms.map V.int).length : Int) := by rw [len_int]; omega
          refine ⟨_, rfl, _, rfl, by omega, by omega, for_range (fun k σ Hc => ∃ (v7 : Option V) (ks : List Int), σ = [some (.ref p), some (.int m), some (.int U), some (.int way), some (.int M), some (.int kd), some (.ref pl), v7, v8, some (.int tn), some (.int (ms.map V.int).length), some (.int (U + tn)), some (.ref ag)] ∧ Hc ag = some (.lst (ks.map V.int)) ∧ Hc pl = some (.lst (ms.map V.int)) ∧ ks.length = k ∧ PurseAt Hc p ∧ SameX p H Hc)
            ⟨_, [], rfl, upd_same, Same.new hag _ _ elb, rfl, hg2.new hag, xb.put hagH⟩ ?A1 ?A2⟩
          case A1 =>
            rintro k σ Hc hk ⟨v7, ks, rfl, ea, el, hl, hdc, xc⟩
            have m0 := Int.emod_nonneg ((0 : Int) + (k : Int)) (Int.ne_of_gt hsz)
            have m1 := Int.emod_lt_of_pos ((0 : Int) + (k : Int)) hsz
            have hlm : (ms.map V.int).length ≤ 41 := by rw [len_int]; omega
            refine ⟨_, rfl, .inl ⟨rfl, _, SqL.of ea⟩, _, rfl, _, rfl, _, rfl, _, _, rfl, rfl, hsz, pl, _, _, _, rfl, rfl, SqL.of el, atI_int m0 (by rw [len_int] at m1 ⊢; exact m1), _, rfl, _, rfl, _, _, rfl, rfl, ⟨hsz, by omega⟩, _, rfl, _, _, rfl, rfl, u3, _, _, rfl, rfl, _, rfl, _, _, rfl, rfl, (show 0 < U + tn by omega), ag, _, _, rfl, rfl, ea, small1000 (by rw [len_int]; omega), ?_⟩
            refine ⟨_, ks ++ [_], rfl, by rw [upd_same, List.map_append]; rfl, by rw [upd_ne nagl.symm]; exact el, by rw [List.length_append, hl]; rfl, hdc.put nagp, xc.put hagH⟩
          case' A2 =>
            rintro σ Hc ⟨v7, ks, rfl, ez, el, hl, hz, xz⟩
            refine ⟨_, rfl, ?_⟩
            have lz : ks.length ≤ 300 := by omega
            clear el hl
            revert ez hz xz lz
            generalize Hc = Hz
            generalize ag = pz
            generalize ks = ls
            intro ez hz xz lz
      case' F =>
        have ez := sxd pl _ nplp el
        have hz := hdd
        have xz := xc.trans sxd
        have lz : ms.length ≤ 300 := by omega
        clear hdd sxd xc hdc el hplH nplp
        revert ez hz xz lz
        generalize Hd = Hz
        generalize pl = pz
        generalize ms = ls
        intro ez hz xz lz
      all_goals
        refine ⟨_, rfl, pz, rfl, ⟨_, SqL.of ez⟩, fun D hD => ?_⟩
        have nDp : D ≠ p := hz.ne hD
        refine lc_list_ev (cap := [some (.int way)]) (xs := ls.map V.int) (fun _ => true) (valW way) (small1000 (by rw [len_int]; omega)) hD (SqL.of ez) (fun x H' hx s' => evYes) (fun x H' hx _ s' Q' k => ?_) (fun H4 s4 e4 => ?_)
        · obtain ⟨n, _, rfl⟩ := List.mem_map.mp hx
          exact ⟨_, rfl, _, rfl, _, _, rfl, fun H'' s'' => k H'' s''⟩
        · rw [val_map] at e4
          exact q D _ H4 (xz.free nDp hD) e4 (by rw [List.length_map]; exact lz) (hz.same s4) (xz.trans s4.x)
end
/-! ### the program: kinds -/
abbrev stis_whole : Stmt := top 5
section
variable {P : Program} {w : World} {K : PySem.W.Frag} {mg : Str → Option Value} {base : Heap}
theorem scis_whole : FnScope ["thing"] ["thing"] (defScope stis_whole) := ⟨rfl, rfl, rfl, by decide +kernel, rfl, by decide +kernel, by decide +kernel⟩
theorem ok_is_whole {f : Addr} {fd : FuncData} (B : Blt mg) (F : Fun K "is_whole" "is_whole" stis_whole f fd) : FnOk P w K mg base CX0 1 f fd ["thing"] spWhole := by
  refine F.ok scis_whole (fun vs H Q E h => ?_) (fun cdv A outer s H vs Q E hr h => ?_)
  · obtain ⟨t, rfl, _⟩ := h
    rfl
  · obtain ⟨t, rfl, q⟩ := h
    refine ⟨_, (pss_one (ps_ret (pe_and (pe_callB (isiK (K := K) rfl) (by rfl) B.isinstance boot_isinst' (pa_cons (pv 0) (pa_cons (pe_bltn (v := .ty "int") (by rfl) B.int boot_int' (by rfl)) pa_nil))) (pe_one (pe_not (pe_callB (isiK (K := K) rfl) (by rfl) B.isinstance boot_isinst' (pa_cons (pv 0) (pa_cons (pe_bltn (v := .ty "bool") (by rfl) B.bool boot_bool' (by rfl)) pa_nil)))))))), ?_⟩
    exact ⟨_, rfl, _, "int", _, _, rfl, .int _, kit_same, _, rfl, _, rfl, _, "bool", _, _, rfl, .int _, kit_int_bool, _, rfl, q⟩
end
abbrev stis_place : Stmt := top 6
section
variable {P : Program} {w : World} {K : PySem.W.Frag} {mg : Str → Option Value} {base : Heap}
theorem scis_place : FnScope ["thing", "greatest"] ["thing", "greatest"] (defScope stis_place) := ⟨rfl, rfl, rfl, by decide +kernel, rfl, by decide +kernel, by decide +kernel⟩
theorem ok_is_place {f : Addr} {fd : FuncData} (F : Fun K "is_place" "is_place" stis_place f fd) (his_whole : Has P w K mg base "is_whole" 1 ["thing"] spWhole) : FnOk P w K mg base CX0 2 f fd ["thing", "greatest"] spPlace := by
  refine F.ok scis_place (fun vs H Q E h => ?_) (fun cdv A outer s H vs Q E hr h => ?_)
  · obtain ⟨t, g, rfl, _⟩ := h
    rfl
  · obtain ⟨t, g, rfl, q⟩ := h
    refine ⟨_, (pss_one (ps_ret (pe_and (pe_callH his_whole (hr.mono (by decide)) (by rfl) (pa_cons (pv 0) pa_nil)) (pe_one (pe_chain op_le op_le pe_int (pv 0) (pv 1)))))), ?_⟩
    refine ⟨_, rfl, _, rfl, _, rfl, ?_⟩
    refine ⟨_, rfl, _, _, rfl, rfl, _, rfl, ?_⟩
    by_cases h0 : (0 : Int) ≤ t
    · rw [decide_eq_true h0, Bool.true_and] at q
      refine (if_pos (decide_eq_true h0)).mpr ⟨_, rfl, _, _, rfl, rfl, q⟩
    · rw [decide_eq_false h0, Bool.false_and] at q
      exact (if_neg (by rw [decide_eq_false h0]; exact Bool.false_ne_true)).mpr q
end
/-! ### the program: last and next places -/
abbrev stlast_places : Stmt := top 8
section
variable {P : Program} {w : World} {K : PySem.W.Frag} {mg : Str → Option Value} {base : Heap}
open My
theorem sclast_places : FnScope ["row", "latest", "lasts", "place", "number"] ["row"] (defScope stlast_places) := ⟨rfl, rfl, rfl, by decide +kernel, rfl, by decide +kernel, by decide +kernel⟩
theorem ok_last_places {f : Addr} {fd : FuncData} (B : Blt mg) (F : Fun K "last_places" "last_places" stlast_places f fd) : FnOk P w K mg base CX0 1 f fd ["row"] (spList K lastsM) := by
  refine F.ok sclast_places (fun vs H Q E h => ?_) (fun cdv A outer s H vs Q E hr h => ?_)
  · obtain ⟨a, ns, rfl, _⟩ := h
    rfl
  · obtain ⟨a, ns, rfl, hq, hl, q⟩ := h
    have hu := hr.units0
    have hu1 := hu_of hr
    refine ⟨_, (pss_cons (ps_set (i := 1) sclast_places.nd rfl (Or.inl rfl) pe_dnewK)
  (pss_cons (ps_set (i := 2) sclast_places.nd rfl (Or.inl rfl) (pe_lst pa_nil))
  (pss_cons (ps_for PassesOwn.never rfl (pieK (K := K) rfl (by rfl) B.enumerate (pa_cons (pv 0) pa_nil)) (pgtK (K := K) (n := 2) rfl rfl (pgs_cons (pg_name (i := 3) sclast_places.nd rfl (Or.inl rfl)) (pgs_cons (pg_name (i := 4) sclast_places.nd rfl (Or.inl rfl)) pgs_nil)))
  (pss_cons (ps_expr (pe_bm PySem.F.plainAttrs_list PySem.F.slot_list_append PySem.F.type_list_append mt_append (pv 2) (pa_cons (pe_dget2 hu1 (pv 1) (pv 4) (pe_un un_neg pe_int) ⟨rfl, rfl, rfl, rfl⟩) pa_nil)))
  (pss_one (ps_dput hu1 (pv 1) (pv 4) (pv 3) rfl))))
  (pss_one (ps_ret (pv 2)))))), ?_⟩
    intro d hd
    refine ⟨by show 0 ≤ sizeLine; decide, fun l hl0 => ?_⟩
    have s0 : Same H (upd (upd H d (.dK [])) l (.lst [])) := (Same.new hd).trans (Same.new hl0)
    have ndl : d ≠ l := ne_of_none upd_same hl0
    have hlH : H l = none := (Same.new hd).free hl0
    refine ⟨_, rfl, a, rfl, ⟨_, s0.seq hq⟩, for_enum (K := K) (a := a) (xs := ns.map V.int) (fun i σ Hc => ∃ v3 v4 kvs, σ = [some (.ref a), some (.ref d), some (.ref l), v3, v4] ∧ Same H Hc ∧ Hc d = some (.dK kvs) ∧ Hc l = some (.lst (((lastsM ns).take i).map V.int)) ∧ kvs.length ≤ i ∧
      ∀ x : Int, valV kvs (Sum.inl x : Key) = if lastIx ns x i = -1 then none else some (.int (lastIx ns x i))) ⟨none, none, [], rfl, s0, by rw [upd_ne ndl]; exact upd_same, upd_same, Nat.le_refl _, fun x => rfl⟩ (fun i σ Hc _ ⟨_, _, _, _, s, _⟩ => s.seq hq) ?_ ?_⟩
    · rintro i x p σ Hc hx ⟨v3, v4, kvs, rfl, s, ed, el, hk, hv⟩ hp
      obtain ⟨hi, rfl⟩ := int_at hx
      have npd : d ≠ p := ne_of_none ed hp
      have npl : l ≠ p := ne_of_none el hp
      have ed' : upd Hc p (.tup [.int i, .int (ns.getD i 0)]) d = some (.dK kvs) := by rw [upd_ne npd]; exact ed
      have el' : upd Hc p (.tup [.int i, .int (ns.getD i 0)]) l = some (.lst (((lastsM ns).take i).map V.int)) := by rw [upd_ne npl]; exact el
      have hlen : (((lastsM ns).take i).map V.int).length ≤ 1000 := by rw [List.length_map, List.length_take, len_lasts]; omega
      refine ⟨p, _, rfl, SqT.of upd_same, rfl, _, _, rfl, _, _, rfl, rfl, ?_⟩
      refine ⟨_, rfl, .inl ⟨rfl, _, SqL.of el'⟩, _, rfl, d, rfl, .inl ⟨_, .inl ed'⟩, _, rfl, _, rfl, _, DGet.k (k := Sum.inl (ns.getD i 0)) ed', l, _, _, rfl, rfl, el', small1000 hlen, ?_⟩
      refine ⟨_, rfl, _, rfl, _, rfl, d, _, rfl, DPut.k (k := Sum.inl (ns.getD i 0)) (kvs := kvs) (by rw [upd_ne ndl]; exact ed') (small1000 (by omega)), ?_⟩
      have ev : (valV kvs (Sum.inl (ns.getD i 0) : Key)).getD (.int (-1)) = .int (lastIx ns (ns.getD i 0) i) := by
        rw [hv]
        split
        · rename_i e; rw [e]; rfl
        · rfl
      refine ⟨_, _, _, rfl, ?_, upd_same, ?_, Nat.le_trans (length_putK _ _ _) (Nat.succ_le_succ hk), fun x => ?_⟩
      · intro c o z
        have zc := s c o z
        rw [upd_ne (ne_of_none z hd), upd_ne (ne_of_none z hlH), upd_ne (ne_of_none zc hp)]; exact zc
      · rw [upd_ne ndl.symm, upd_same]
        have : (lastsM ns).take (i + 1) = (lastsM ns).take i ++ [lastIx ns (ns.getD i 0) i] := take_snoc (get_lasts hi)
        rw [this, List.map_append]
        exact congrArg (fun y => some (HO.lst (_ ++ [y]))) ev
      · rw [valV_put]
        show _ = if (if ns.getD i 0 = x then (i : Int) else lastIx ns x i) = -1 then none else some (V.int (if ns.getD i 0 = x then (i : Int) else lastIx ns x i))
        by_cases hxe : ns.getD i 0 = x
        · subst hxe
          rw [if_pos rfl, if_pos rfl, if_neg (by omega)]
        · rw [if_neg (fun z => hxe (by injection z with z; exact z.symm)), if_neg hxe, hv]
    · rintro σ Hc ⟨v3, v4, kvs, rfl, s, ed, el, hk, hv⟩
      refine ⟨_, rfl, q l Hc hlH s ?_⟩
      rw [el, len_int, List.take_of_length_le (by rw [len_lasts]; exact Nat.le_refl _)]
end
abbrev stnext_places : Stmt := top 9
section
variable {P : Program} {w : World} {K : PySem.W.Frag} {mg : Str → Option Value} {base : Heap}
open My
theorem scnext_places : FnScope ["row", "nexts", "place", "last"] ["row"] (defScope stnext_places) := ⟨rfl, rfl, rfl, by decide +kernel, rfl, by decide +kernel, by decide +kernel⟩
theorem ok_next_places {f : Addr} {fd : FuncData} (B : Blt mg) (F : Fun K "next_places" "next_places" stnext_places f fd) (hlast_places : Has P w K mg base "last_places" 1 ["row"] (spList K lastsM)) : FnOk P w K mg base CX0 2 f fd ["row"] (spList K nextsM) := by
  refine F.ok scnext_places (fun vs H Q E h => ?_) (fun cdv A outer s H vs Q E hr h => ?_)
  · obtain ⟨a, ns, rfl, _⟩ := h
    rfl
  · obtain ⟨a, ns, rfl, hq, hl, q⟩ := h
    have hs : sizeLine = 16777216 := sizeLine_eq
    refine ⟨_, (pss_cons (ps_set (i := 1) scnext_places.nd rfl (Or.inl rfl) (pe_op op_rep (pe_lst (pa_cons (pe_callB (lenK (K := K) rfl) (by rfl) B.len PySem.boot_len (pa_cons (pv 0) pa_nil)) pa_nil)) (pe_callB (lenK (K := K) rfl) (by rfl) B.len PySem.boot_len (pa_cons (pv 0) pa_nil))))
  (pss_cons (ps_for PassesOwn.never rfl (pieK (K := K) rfl (by rfl) B.enumerate (pa_cons (pe_callH hlast_places (hr.mono (by decide)) (by rfl) (pa_cons (pv 0) pa_nil)) pa_nil)) (pgtK (K := K) (n := 2) rfl rfl (pgs_cons (pg_name (i := 2) scnext_places.nd rfl (Or.inl rfl)) (pgs_cons (pg_name (i := 3) scnext_places.nd rfl (Or.inl rfl)) pgs_nil)))
  (pss_one (ps_if (pt_cmpR op_ne (pv 3) (pe_un un_neg pe_int) (nomark _))
  (pss_one (ps_asg (pv 2) (pg_sub (pv 1) (pv 3) set_list)))
  pss_nil)))
  (pss_one (ps_ret (pv 1))))), ?_⟩
    refine ⟨_, rfl, a, _, rfl, .inl hq, by show 1 ≤ sizeLine; decide, fun p1 h1 => ?_⟩
    have s1 : Same H (upd H p1 (.lst [.int (ns.map V.int).length])) := Same.new h1
    refine ⟨_, rfl, a, _, rfl, .inl (s1.seq hq), p1, _, _, rfl, rfl, upd_same, by omega, by rw [len_int]; omega, ?_, fun p2 h2 => ?_⟩
    · show 1 * _ ≤ _
      rw [len_int, Int.toNat_natCast]; omega
    have e0 : (List.replicate ((ns.map V.int).length : Int).toNat [V.int (ns.map V.int).length]).flatten = (List.replicate ns.length (ns.length : Int)).map V.int := by
      rw [rep_one, len_int, Int.toNat_natCast, List.map_replicate]
    rw [e0]
    have s2 := s1.trans (Same.new (o := .lst ((List.replicate ns.length (ns.length : Int)).map V.int)) h2)
    have e2 : upd (upd H p1 (.lst [.int (ns.map V.int).length])) p2 (.lst ((List.replicate ns.length (ns.length : Int)).map V.int)) p2 = some (.lst ((List.replicate ns.length (ns.length : Int)).map V.int)) := upd_same
    have hp2 : H p2 = none := s1.free h2
    generalize upd (upd H p1 (.lst [.int (ns.map V.int).length])) p2 (.lst ((List.replicate ns.length (ns.length : Int)).map V.int)) = H2 at s2 e2 ⊢
    clear s1 h1 h2 p1 e0
    refine ⟨_, rfl, a, ns, rfl, s2.seq hq, hl, fun b H3 hb s3 eb => ?_⟩
    have nb2 : b ≠ p2 := (ne_of_none e2 hb).symm
    refine ⟨b, rfl, ⟨_, SqL.of eb⟩, for_enum (K := K) (a := b) (xs := (lastsM ns).map V.int) (fun i σ Hc => ∃ (v3 v4 : Option V) (vs : List Int), σ = [some (.ref a), some (.ref p2), v3, v4] ∧ Same H Hc ∧ Hc b = some (.lst ((lastsM ns).map V.int)) ∧ Hc p2 = some (.lst (vs.map V.int)) ∧ vs.length = ns.length ∧
      ∀ p, p < ns.length → NB ns p i (vs.getD p 0)) ⟨none, none, _, rfl, s2.trans s3, eb, s3 _ _ e2, by rw [List.length_replicate], fun p hp => ?_⟩ (fun i σ Hc _ ⟨_, _, _, _, _, e, _⟩ => SqL.of e) ?_ ?_⟩
    · rw [List.getD_eq_getElem?_getD, List.getElem?_replicate, if_pos hp]; exact NB.zero
    · rintro i x p σ Hc hx ⟨v3, v4, vs, rfl, sm, ebc, e2c, hvl, hnb⟩ hp
      obtain ⟨hi, rfl⟩ := int_at hx
      rw [len_lasts] at hi
      have ex : (lastsM ns).getD i 0 = lastIx ns (ns.getD i 0) i := by rw [List.getD_eq_getElem?_getD, get_lasts hi]; rfl
      have l1 := lastIx_lt ns (ns.getD i 0) i
      have sp := sm.trans (Same.new (o := .tup [.int i, .int ((lastsM ns).getD i 0)]) hp)
      have ebp : upd Hc p (.tup [.int i, .int ((lastsM ns).getD i 0)]) b = _ := (Same.new hp) b _ ebc
      have e2p : upd Hc p (.tup [.int i, .int ((lastsM ns).getD i 0)]) p2 = _ := (Same.new hp) p2 _ e2c
      refine ⟨p, _, rfl, SqT.of upd_same, rfl, _, _, rfl, _, _, rfl, rfl, ?_⟩
      refine ⟨_, rfl, _, rfl, rfl, _, rfl, ?_⟩
      rw [ex] at sp ebp e2p ⊢
      refine ite2 (fun hne => ?_) (fun hne => ?_)
      · have hne' : lastIx ns (ns.getD i 0) i ≠ -1 := by simpa using hne
        have el : lastIx ns (ns.getD i 0) i = ((lastIx ns (ns.getD i 0) i).toNat : Int) := by omega
        refine ⟨_, rfl, _, rfl, _, rfl, p2, _, _, (lastIx ns (ns.getD i 0) i).toNat, rfl, rfl, e2p, ixN_int (by omega) (by rw [len_int]; omega), ?_⟩
        refine ⟨_, _, vs.set (lastIx ns (ns.getD i 0) i).toNat (i : Int), rfl, ?_, ?_, ?_, by rw [List.length_set]; exact hvl, fun r hr => ?_⟩
        · intro c o z
          rw [upd_ne (ne_of_none z hp2)]; exact sp c o z
        · rw [upd_ne nb2]; exact ebp
        · rw [upd_same, List.map_set]
        · by_cases hrl : r = (lastIx ns (ns.getD i 0) i).toNat
          · subst hrl
            rw [getD_set_self (by omega)]
            exact NB.here el
          · rw [getD_set_ne hrl]
            exact (hnb r hr).other el hrl
      · have hne' : lastIx ns (ns.getD i 0) i = -1 := by simpa using hne
        exact ⟨_, _, vs, rfl, sp, ebp, e2p, hvl, fun r hr => (hnb r hr).stay hne'⟩
    · rintro σ Hc ⟨v3, v4, vs, rfl, sm, ebc, e2c, hvl, hnb⟩
      refine ⟨_, rfl, q p2 Hc hp2 sm ?_⟩
      have : vs = nextsM ns := by
        refine List.ext_getElem (by rw [hvl, len_nexts]) fun j h1 h2 => ?_
        have hj : j < ns.length := by omega
        have := (hnb j hj)
        rw [len_int, len_lasts] at this
        have e1 := this.end_ hj
        have e2 := get_nexts hj
        rw [List.getElem?_eq_getElem h2] at e2
        rw [List.getD_eq_getElem?_getD, List.getElem?_eq_getElem h1] at e1
        rw [Option.some.inj e2]; exact e1
      rw [e2c, this]
end
/-! ### the program: a row made ready -/
abbrev stReady___init__ : Stmt := inClass (top 11) 0
section
variable {P : Program} {w : World} {K : PySem.W.Frag} {mg : Str → Option Value} {base : Heap} {C : Addr}
open My
theorem scReady___init__ : FnScope ["self", "row"] ["self", "row"] (defScope stReady___init__) := ⟨rfl, rfl, rfl, by decide +kernel, rfl, by decide +kernel, by decide +kernel⟩
theorem ok_Rinit {f : Addr} {fd : FuncData} (T : RdTxt K C) (F : Fun K "__init__" "Ready.__init__" stReady___init__ f fd) (hlast_places : Has P w K mg base "last_places" 1 ["row"] (spList K lastsM)) (hnext_places : Has P w K mg base "next_places" 2 ["row"] (spList K nextsM)) : FnOk P w K mg base CX0 3 f fd ["self", "row"] (spRInitF K C) := by
  refine F.ok scReady___init__ (fun vs H Q E h => ?_) (fun cdv A outer s H vs Q E hr h => ?_)
  · obtain ⟨p, a, dx, ns, rfl, _⟩ := h
    rfl
  · obtain ⟨p, a, dx, ns, rfl, ep, hq, hl, q⟩ := h
    have nap : ∀ xs, SqL K H a xs → ∀ {o : HO} {H' : Hp}, (∀ b o, b ≠ p → H b = some o → H' b = some o) → SqL K H' a xs := fun xs h o H' s => by
      rcases h with (h | ⟨o, h⟩) | h
      · exact .inl (.inl (s _ _ (ne_of h ep (by intro z; cases z)) h))
      · exact .inl (.inr ⟨o, s _ _ (ne_of h ep (by intro z; cases z)) h⟩)
      · exact .inr h
    refine ⟨_, (pss_cons (ps_fld (pv 0) (pe_callH hlast_places (hr.mono (by decide)) (by rfl) (pa_cons (pv 1) pa_nil)) rfl)
  (pss_one (ps_fld (pv 0) (pe_callH hnext_places (hr.mono (by decide)) (by rfl) (pa_cons (pv 1) pa_nil)) rfl))), ?_⟩
    refine ⟨_, rfl, a, ns, rfl, hq, hl, fun l H1 n1 s1 e1 => ⟨_, rfl, p, C, dx, _, rfl, s1 _ _ ep, T.cl, T.nL, (by show 0 < 1000; decide), ?_⟩⟩
    have npl : p ≠ l := ne_of_none ep n1
    have sA : ∀ b o, b ≠ p → H b = some o → upd H1 p (.ins C dx (putF "lasts" (.ref l) [])) b = some o := fun b o n e => by rw [upd_ne n]; exact s1 b o e
    refine ⟨_, rfl, a, ns, rfl, nap _ hq (o := .lst []) sA, hl, fun n H2 n2 s2 e2 => ⟨_, rfl, p, C, dx, _, rfl, s2 _ _ upd_same, T.cl, T.nN, (by show 1 < 1000; decide), ?_⟩⟩
    have npn : p ≠ n := ne_of_none upd_same n2
    refine q _ ⟨dx, l, n, upd_same, ?_, ?_, n1, ?_⟩ fun b o nb e => ?_
    · rw [upd_ne npl.symm]; exact s2 _ _ (by rw [upd_ne npl.symm]; exact e1)
    · rw [upd_ne npn.symm]; exact e2
    · cases z : H n with
      | none => rfl
      | some o => rw [sA _ _ npn.symm z] at n2; cases n2
    · rw [upd_ne nb]; exact s2 _ _ (sA b o nb e)
end
abbrev stReady_firsts : Stmt := inClass (top 11) 2
section
variable {P : Program} {w : World} {K : PySem.W.Frag} {mg : Str → Option Value} {base : Heap} {C : Addr}
open My
theorem scReady_firsts : FnScope ["self", "first", "behind"] ["self", "first", "behind"] (defScope stReady_firsts) := ⟨rfl, rfl, rfl, by decide +kernel, rfl, by decide +kernel, by decide +kernel⟩
theorem ok_Rfirsts {f : Addr} {fd : FuncData} (B : Blt mg) (T : RdTxt K C) (F : Fun K "firsts" "Ready.firsts" stReady_firsts f fd) (his_place : Has P w K mg base "is_place" 2 ["thing", "greatest"] spPlace) : FnOk P w K mg base CX0 3 f fd ["self", "first", "behind"] (spRFirsts C) := by
  refine F.ok scReady_firsts (fun vs H Q E h => ?_) (fun cdv A outer s H vs Q E hr h => ?_)
  · obtain ⟨p, ns, f, b, rfl, _⟩ := h
    rfl
  · obtain ⟨p, ns, f, b, rfl, ⟨dx, l, n, ep, el, en⟩, hfb, hb, hl, q⟩ := h
    refine ⟨_, (pss_cons (ps_if (PW.pt (pw_or (pt_not (pt_val (pe_callH his_place (hr.mono (by decide)) (by rfl) (pa_cons (pv 2) (pa_cons (pe_callB (lenK (K := K) rfl) (by rfl) B.len PySem.boot_len (pa_cons (fldK (K := K) rfl (pv 0) rfl) pa_nil)) pa_nil))))) (pw_or1 (pt_not (pt_val (pe_callH his_place (hr.mono (by decide)) (by rfl) (pa_cons (pv 1) (pa_cons (pv 2) pa_nil))))))))
  (pss_one ps_never)
  pss_nil)
  (pss_one (ps_ret (pe_lc (own := ["place"]) (ix := [1, 0]) (N := ["place", "first", "self"]) rfl (LcOk.of (by rfl)) (pi_range2 (by rfl) B.range (pa_cons (pv 1) (pa_cons (pv 2) pa_nil))) (fun _ _ _ _ _ => (pg_name (i := 0) (show (["place", "first", "self"] : List Str).Nodup by decide +kernel) rfl (by first | exact Or.inl rfl | exact Or.inr rfl))) (fun _ _ _ _ _ => (pts_one (pt_cmpR op_lt (pe_ix (ixK (K := K) rfl) (fldK (K := K) rfl (pv 2) rfl) (pv 0) (fun _ _ => rfl)) (pv 1) (nomark _)))) (fun _ _ _ _ _ => (pv 0)))))), ?_⟩
    refine ⟨_, rfl, _, rfl, p, C, dx, _, _, rfl, ep, T.cl, T.nL, flds_l _ _, l, _, rfl, .inl (SqL.of el), _, _, rfl, _, rfl, iteNB ?_ ?_⟩
    · rw [len_int, len_lasts, decide_eq_true (by omega), decide_eq_true (by omega)]; rfl
    refine ⟨_, rfl, _, rfl, _, _, rfl, _, rfl, iteNB ?_ ?_⟩
    · rw [decide_eq_true (by omega), decide_eq_true (by omega)]; rfl
    refine ⟨_, rfl, _, rfl, _, _, rfl, ⟨by omega, by omega, by omega, by omega⟩, fun D hD => ?_⟩
    have e0 : ((b : Int) - (f : Int)).toNat = b - f := by omega
    refine lc_range_ev (cap := [some (.int f), some (.ref p)]) (fun i => decide (lastIx ns (ns.getD (f + i) 0) (f + i) < (f : Int))) (fun i => .int ((f : Int) + (i : Int))) (small1000 (by omega)) hD (fun i H' hi s' Q' k => ?_) (fun i H' hi _ _ Q' k => ⟨_, rfl, k H' (Same.refl _)⟩) (fun H3 s3 e3 => ?_)
    · have hfi : f + i < ns.length := by omega
      have ea : atI ((lastsM ns).map V.int) ((f : Int) + (i : Int)) = some (.int (lastIx ns (ns.getD (f + i) 0) (f + i))) := by
        have := atI_at (ns := lastsM ns) (j := f + i) (by rw [len_lasts]; exact hfi)
        rw [show ((f + i : Nat) : Int) = (f : Int) + (i : Int) by omega] at this
        rw [this, List.getD_eq_getElem?_getD, get_lasts hfi]; rfl
      exact ⟨_, rfl, p, C, dx, _, _, rfl, s' _ _ ep, T.cl, T.nL, flds_l _ _, _, rfl, l, _, _, _, rfl, rfl, SqL.of (s' _ _ el), ea, _, rfl, _, _, rfl, rfl, _, rfl, k H' (Same.refl _)⟩
    · refine q D H3 hD s3 ?_
      rw [e3, e0]
      unfold firstsM
      rw [List.map_map]
      congr 2
end
abbrev stReady_unlike : Stmt := inClass (top 11) 1
section
variable {P : Program} {w : World} {K : PySem.W.Frag} {mg : Str → Option Value} {base : Heap} {C : Addr}
open My
theorem scReady_unlike : FnScope ["self", "first", "behind"] ["self", "first", "behind"] (defScope stReady_unlike) := ⟨rfl, rfl, rfl, by decide +kernel, rfl, by decide +kernel, by decide +kernel⟩
theorem ok_Runlike {f : Addr} {fd : FuncData} (B : Blt mg) (T : RdTxt K C) (F : Fun K "unlike" "Ready.unlike" stReady_unlike f fd) (hm_firsts : HasM P w K mg base C "firsts" 3 ["self", "first", "behind"] (spRFirsts C)) : FnOk P w K mg base CX0 4 f fd ["self", "first", "behind"] (spRUnlike C) := by
  refine F.ok scReady_unlike (fun vs H Q E h => ?_) (fun cdv A outer s H vs Q E hr h => ?_)
  · obtain ⟨p, ns, f, b, rfl, _⟩ := h
    rfl
  · obtain ⟨p, ns, f, b, rfl, R, hfb, hb, hl, q⟩ := h
    obtain ⟨dx, l, n, ep, el, en⟩ := R.ex
    refine ⟨_, (pss_one (ps_ret (pe_callB (lenK (K := K) rfl) (by rfl) B.len PySem.boot_len (pa_cons (pe_methH hm_firsts T.cl (hr.mono (by decide)) (pv 0) (pa_cons (pv 1) (pa_cons (pv 2) pa_nil))) pa_nil)))), ?_⟩
    refine ⟨_, rfl, p, dx, _, rfl, ep, flds_no _ _ (by decide +kernel) (by decide +kernel), _, rfl, _, rfl, p, ns, f, b, rfl, R, hfb, hb, hl, fun D H' hD s' e' => ⟨D, _, rfl, .inl (SqL.of e'), ?_⟩⟩
    rw [len_int]
    exact q H' s'
end
abbrev stReady_end_of : Stmt := inClass (top 11) 3
section
variable {P : Program} {w : World} {K : PySem.W.Frag} {mg : Str → Option Value} {base : Heap} {C : Addr}
open My
theorem scReady_end_of : FnScope ["self", "first", "many", "length", "gains"] ["self", "first", "many"] (defScope stReady_end_of) := ⟨rfl, rfl, rfl, by decide +kernel, rfl, by decide +kernel, by decide +kernel⟩
theorem ok_Rend {f : Addr} {fd : FuncData} (B : Blt mg) (T : RdTxt K C) (F : Fun K "end_of" "Ready.end_of" stReady_end_of f fd) (his_place : Has P w K mg base "is_place" 2 ["thing", "greatest"] spPlace) (hm_firsts : HasM P w K mg base C "firsts" 3 ["self", "first", "behind"] (spRFirsts C)) : FnOk P w K mg base CX0 4 f fd ["self", "first", "many"] (spREnd C) := by
  refine F.ok scReady_end_of (fun vs H Q E h => ?_) (fun cdv A outer s H vs Q E hr h => ?_)
  · obtain ⟨p, ns, f, m, rfl, _⟩ := h
    rfl
  · obtain ⟨p, ns, f, m, rfl, R, hf, hl, q⟩ := h
    obtain ⟨dx, l, n, ep, el, en⟩ := R.ex
    refine ⟨_, (pss_cons (ps_set (i := 3) scReady_end_of.nd rfl (Or.inl rfl) (pe_callB (lenK (K := K) rfl) (by rfl) B.len PySem.boot_len (pa_cons (fldK (K := K) rfl (pv 0) rfl) pa_nil)))
  (pss_cons (ps_if (pt_not (pt_val (pe_callH his_place (hr.mono (by decide)) (by rfl) (pa_cons (pv 1) (pa_cons (pv 3) pa_nil)))))
  (pss_one ps_never)
  pss_nil)
  (pss_cons (ps_if (pt_cmpR op_eq (pv 2) pe_int (nomark _))
  (pss_one (ps_ret (pv 1)))
  pss_nil)
  (pss_cons (ps_set (i := 4) scReady_end_of.nd rfl (Or.inl rfl) (pe_methH hm_firsts T.cl (hr.mono (by decide)) (pv 0) (pa_cons (pv 1) (pa_cons (pv 3) pa_nil))))
  (pss_one (ps_ret (pe_ifExp (pt_cmpR op_le (pv 2) (pe_callB (lenK (K := K) rfl) (by rfl) B.len PySem.boot_len (pa_cons (pv 4) pa_nil)) (nomark _)) (pe_op op_add (pe_ix (ixK (K := K) rfl) (pv 4) (pe_op op_sub (pv 2) pe_int) (fun _ _ => rfl)) pe_int) pe_non))))))), ?_⟩
    refine ⟨_, rfl, p, C, dx, _, _, rfl, ep, T.cl, T.nL, flds_l _ _, l, _, rfl, .inl (SqL.of el), ?_⟩
    rw [len_int, len_lasts]
    refine ⟨_, rfl, _, rfl, _, _, rfl, _, rfl, iteNB ?_ ?_⟩
    · rw [decide_eq_true (by omega), decide_eq_true (by omega)]; rfl
    refine ⟨_, rfl, rfl, _, rfl, ite2 (fun z => ?_) (fun z => ?_)⟩
    · have hm : m = 0 := by simpa using z
      have := q H (Same.refl _)
      rw [hm, end_0] at this
      exact ⟨_, rfl, this⟩
    have hm : m ≠ 0 := fun e => z (by subst e; rfl)
    refine ⟨_, rfl, p, dx, _, rfl, ep, flds_no _ _ (by decide +kernel) (by decide +kernel), _, rfl, _, rfl, p, ns, f, ns.length, rfl, R, hf, Nat.le_refl _, hl, fun D H' hD s' e' => ?_⟩
    refine ⟨_, rfl, _, rfl, D, _, rfl, .inl (SqL.of e'), _, _, rfl, rfl, _, rfl, ?_⟩
    have hq := q H' s'
    unfold endV at hq
    rw [if_neg hm] at hq
    rw [len_int]
    refine ite2 (fun z => ?_) (fun z => ?_)
    · have hle : m ≤ cnt ns f ns.length := by have := of_decide_eq_true z; show m ≤ (firstsM ns f ns.length).length; omega
      rw [if_pos hle] at hq
      refine ⟨_, rfl, _, rfl, _, _, rfl, rfl, D, _, _, _, rfl, rfl, SqL.of e', ?_, _, _, rfl, rfl, hq⟩
      have := atI_at (ns := firstsM ns f ns.length) (j := m - 1) (by show m - 1 < cnt ns f ns.length; omega)
      rw [show ((m - 1 : Nat) : Int) = (m : Int) - 1 by omega] at this
      exact this
    · have hle : ¬ m ≤ cnt ns f ns.length := fun h => z (decide_eq_true (by have : m ≤ (firstsM ns f ns.length).length := h; omega))
      rw [if_neg hle] at hq
      exact hq
end
abbrev streach_of : Stmt := top 13
abbrev ststretches : Stmt := top 14
section
variable {P : Program} {w : World} {K : PySem.W.Frag} {mg : Str → Option Value} {base : Heap} {C : Addr}
open My
theorem screach_of : FnScope ["ready", "length", "first", "many", "beyond"] ["ready", "length", "first", "many"] (defScope streach_of) := ⟨rfl, rfl, rfl, by decide +kernel, rfl, by decide +kernel, by decide +kernel⟩
theorem ok_reach_of {f : Addr} {fd : FuncData} (T : RdTxt K C) (F : Fun K "reach_of" "reach_of" streach_of f fd) (hm_end_of : HasM P w K mg base C "end_of" 4 ["self", "first", "many"] (spREnd C)) : FnOk P w K mg base CX0 5 f fd ["ready", "length", "first", "many"] (spReach C) := by
  refine F.ok screach_of (fun vs H Q E h => ?_) (fun cdv A outer s H vs Q E hr h => ?_)
  · obtain ⟨p, ns, f, m, rfl, _⟩ := h
    rfl
  · obtain ⟨p, ns, f, m, rfl, R, hf, hl, q⟩ := h
    obtain ⟨dx, l, n, ep, el, en⟩ := R.ex
    refine ⟨_, (pss_cons (ps_set (i := 4) screach_of.nd rfl (Or.inl rfl) (pe_methH hm_end_of T.cl (hr.mono (by decide)) (pv 0) (pa_cons (pv 2) (pa_cons (pe_op op_add (pv 3) pe_int) pa_nil))))
  (pss_one (ps_ret (pe_ifExp (pt_cmpR op_isN (pv 4) pe_non (nomark _)) (pv 1) (pe_op op_sub (pv 4) pe_int))))), ?_⟩
    refine ⟨_, rfl, p, dx, _, rfl, ep, flds_no _ _ (by decide +kernel) (by decide +kernel), _, rfl, _, rfl, _, _, rfl, rfl, p, ns, f, m + 1, rfl, R, hf, hl, fun H1 s1 => ?_⟩
    refine ⟨_, rfl, rfl, _, rfl, ?_⟩
    have hq := q H1 s1
    unfold reach at hq
    unfold endV
    rw [if_neg (Nat.succ_ne_zero m)]
    by_cases z : m < cnt ns f ns.length
    · rw [if_pos (show m + 1 ≤ cnt ns f ns.length from z)]
      rw [if_pos z] at hq
      refine iteF ⟨_, rfl, _, _, rfl, rfl, ?_⟩
      have e := (gAt_spec hf z).2.2.2.2
      rw [Nat.add_sub_cancel, e]
      show Q (V.int ((gAt ns f m : Int) + 1 - 1)) H1
      rw [show (gAt ns f m : Int) + 1 - 1 = (gAt ns f m : Int) by omega]
      exact hq
    · rw [if_neg (show ¬ m + 1 ≤ cnt ns f ns.length from z)]
      rw [if_neg z] at hq
      exact iteT ⟨_, rfl, hq⟩
theorem scstretches : FnScope ["row", "many", "ready", "told", "first", "least"] ["row", "many"] (defScope ststretches) := ⟨rfl, rfl, rfl, by decide +kernel, rfl, by decide +kernel, by decide +kernel⟩
theorem ok_stretches {f : Addr} {fd : FuncData} (B : Blt mg) (T : RdTxt K C) (F : Fun K "stretches" "stretches" ststretches f fd) (hReady : HasC P w K mg base "Ready" C 3 ["self", "row"] (spRInit K C)) (hm_end_of : HasM P w K mg base C "end_of" 4 ["self", "first", "many"] (spREnd C))
    (hreach_of : Has P w K mg base "reach_of" 5 ["ready", "length", "first", "many"] (spReach C)) : FnOk P w K mg base CX0 6 f fd ["row", "many"] (spStretch K) := by
  refine F.ok scstretches (fun vs H Q E h => ?_) (fun cdv A outer s H vs Q E hr h => ?_)
  · obtain ⟨a, ns, m, rfl, _⟩ := h
    rfl
  · obtain ⟨a, ns, m, rfl, hq, hn, q⟩ := h
    refine ⟨_, (pss_cons (ps_if (pt_cmpR op_eq (pv 1) pe_int (nomark _))
  (pss_one (ps_ret (pe_lst pa_nil)))
  pss_nil)
  (pss_cons (ps_set (i := 2) scstretches.nd rfl (Or.inl rfl) (pe_makeH hReady (hr.mono (by decide)) (by rfl) (pa_cons (pv 0) pa_nil)))
  (pss_cons (ps_set (i := 3) scstretches.nd rfl (Or.inl rfl) (pe_lst pa_nil))
  (pss_cons (ps_for PassesOwn.never rfl (pi_range1 (by rfl) B.range (pa_cons (pe_callB (lenK (K := K) rfl) (by rfl) B.len PySem.boot_len (pa_cons (pv 0) pa_nil)) pa_nil)) (pg_name (i := 4) scstretches.nd rfl (Or.inl rfl))
  (pss_cons (ps_set (i := 5) scstretches.nd rfl (Or.inl rfl) (pe_methH hm_end_of T.cl (hr.mono (by decide)) (pv 2) (pa_cons (pv 4) (pa_cons (pv 1) pa_nil))))
  (pss_one (ps_if (pt_cmpR op_notN (pv 5) pe_non (nomark _))
  (pss_one (ps_expr (pe_bm PySem.F.plainAttrs_list PySem.F.slot_list_append PySem.F.type_list_append mt_append (pv 3) (pa_cons (pe_tup (pa_cons (pv 4) (pa_cons (pv 5) (pa_cons (pe_callH hreach_of (hr.mono (by decide)) (by rfl) (pa_cons (pv 2) (pa_cons (pe_callB (lenK (K := K) rfl) (by rfl) B.len PySem.boot_len (pa_cons (pv 0) pa_nil)) (pa_cons (pv 4) (pa_cons (pv 1) pa_nil))))) pa_nil)))) pa_nil))))
  pss_nil))))
  (pss_one (ps_ret (pv 3))))))), ?_⟩
    refine ⟨_, rfl, rfl, _, rfl, ite2 (fun z => ?_) (fun z => ?_)⟩
    · have z' : m = 0 := by simpa using z
      refine ⟨by show 0 ≤ sizeLine; decide, fun l nl => q l [] _ nl (fun t ht => by simp at ht) (Same.new nl) upd_same ?_⟩
      unfold stretchM
      rw [if_pos z']
      exact ⟨rfl, fun i t xs h => by simp at h⟩
    have hm : m ≠ 0 := fun y => z (by subst y; rfl)
    refine ⟨_, rfl, make_rdA hq (by omega) fun p H1 np s1 R1 => ?_⟩
    refine ⟨by show 0 ≤ sizeLine; decide, fun l nl => ?_⟩
    have hlH : H l = none := s1.free nl
    obtain ⟨dx, la, nx, ep, _, _⟩ := R1.ex
    refine ⟨_, rfl, a, _, rfl, .inl ((s1.trans (Same.new nl)).seq hq), _, rfl, by omega, by rw [len_int]; omega, for_range (fun k σ Hc => ∃ (v4 v5 : Option V) (ts : List Addr), σ = [some (.ref a), some (.int m), some (.ref p), some (.ref l), v4, v5] ∧ Same H1 Hc ∧ Hc l = some (.lst (ts.map V.ref)) ∧ (∀ t ∈ ts, H t = none ∧ t ≠ l) ∧ TupsAt Hc ts (stretchP ns m k))
      ⟨none, none, [], rfl, Same.new nl, upd_same, fun t ht => by simp at ht, rfl, fun i t xs h => by simp at h⟩ ?_ ?_⟩
    · rintro k σ Hc hk ⟨v4, v5, ts, rfl, sc, el, hts, htt⟩
      have hk' : k < ns.length := by rw [len_int] at hk; omega
      have Rc := R1.same sc
      refine ⟨_, rfl, p, dx, _, rfl, sc _ _ ep, flds_no _ _ (by decide +kernel) (by decide +kernel), _, rfl, _, rfl, p, ns, k, m, by rw [Int.zero_add]; rfl, Rc, by omega, by omega, fun H2 s2 => ?_⟩
      have el2 := s2 _ _ el
      have tt2 := htt.same s2
      unfold endV
      rw [if_neg hm]
      refine ⟨_, rfl, rfl, _, rfl, ?_⟩
      have hlen : ts.length ≤ k := by rw [htt.1]; exact stretchP_le ns m k
      by_cases zc : m ≤ cnt ns k ns.length
      · rw [if_pos zc]
        refine iteT ?_
        refine ⟨_, rfl, .inl ⟨rfl, _, SqL.of el2⟩, _, rfl, _, rfl, _, rfl, _, rfl, a, _, rfl, .inl (((s1.trans sc).trans s2).seq hq), _, rfl, _, rfl, p, ns, k, m, by rw [len_int, Int.zero_add]; rfl, Rc.same s2, by omega, by omega, fun H3 s3 => ?_⟩
        refine ⟨by show 3 ≤ sizeLine; decide, fun t nt => ?_⟩
        have el3 := s3 _ _ el2
        have ntl : t ≠ l := (ne_of_none el3 nt).symm
        refine ⟨l, _, _, rfl, rfl, Same.new nt _ _ el3, small1000 (by rw [List.length_map]; omega), ?_⟩
        have htH : H t = none := s1.free (sc.free (s2.free (s3.free nt)))
        refine ⟨_, _, ts ++ [t], rfl, fun b o z => ?_, by rw [upd_same, List.map_append]; rfl, fun t' ht' => ?_, ?_⟩
        · rw [upd_ne (ne_of_none z nl)]; exact Same.new nt _ _ (s3 _ _ (s2 _ _ (sc b o z)))
        · rcases List.mem_append.mp ht' with y | y
          · exact hts t' y
          · rw [List.mem_singleton.mp y]; exact ⟨htH, ntl⟩
        · have e := (gAt_spec (ns := ns) (f := k) (j := m - 1) (by omega) (by omega)).2.2.2.2
          rw [stretchP_yes zc]
          refine TupsAt.snoc ?_ ?_
          · refine ⟨tt2.1, fun i t' xs h1 h2 => ?_⟩
            rw [upd_ne (hts t' (List.mem_of_getElem? h1)).2]
            exact Same.new nt _ _ (s3 _ _ (tt2.2 i t' xs h1 h2))
          · rw [upd_ne ntl, upd_same, e, Int.zero_add]; rfl
      · rw [if_neg zc]
        refine iteF ?_
        refine ⟨_, _, ts, rfl, sc.trans s2, el2, hts, ?_⟩
        rw [stretchP_no zc]; exact tt2
    · rintro σ Hc ⟨v4, v5, ts, rfl, sc, el, hts, htt⟩
      refine ⟨_, rfl, q l ts Hc hlH (fun t ht => (hts t ht).1) (s1.trans sc) el ?_⟩
      unfold stretchM
      rw [if_neg hm]
      rw [len_int] at htt
      exact htt
end
abbrev sthow_many : Stmt := top 15
section
variable {P : Program} {w : World} {K : PySem.W.Frag} {mg : Str → Option Value} {base : Heap} {C : Addr}
open My
theorem schow_many : FnScope ["row", "many"] ["row", "many"] (defScope sthow_many) := ⟨rfl, rfl, rfl, by decide +kernel, rfl, by decide +kernel, by decide +kernel⟩
theorem ok_how_many {f : Addr} {fd : FuncData} (B : Blt mg) (F : Fun K "how_many" "how_many" sthow_many f fd) (hstretches : Has P w K mg base "stretches" 6 ["row", "many"] (spStretch K)) : FnOk P w K mg base CX0 7 f fd ["row", "many"] (spMany K) := by
  refine F.ok schow_many (fun vs H Q E h => ?_) (fun cdv A outer s H vs Q E hr h => ?_)
  · obtain ⟨a, ns, m, rfl, _⟩ := h
    rfl
  · obtain ⟨a, ns, m, rfl, hq, hn, q⟩ := h
    refine ⟨_, (pss_one (ps_ret (pe_callB (sumK (K := K) rfl rfl) (by rfl) B.sum boot_sum' (pa_cons (pe_lc (own := ["first", "least", "greatest"]) (ix := []) (N := ["first", "least", "greatest"]) rfl (LcOk.of (by rfl)) (piK (K := K) rfl (pe_callH hstretches (hr.mono (by decide)) (by rfl) (pa_cons (pv 0) (pa_cons (pv 1) pa_nil)))) (fun _ _ _ _ _ => (pgtK (K := K) (n := 3) rfl rfl (pgs_cons (pg_name (i := 0) (show (["first", "least", "greatest"] : List Str).Nodup by decide +kernel) rfl (by first | exact Or.inl rfl | exact Or.inr rfl)) (pgs_cons (pg_name (i := 1) (show (["first", "least", "greatest"] : List Str).Nodup by decide +kernel) rfl (by first | exact Or.inl rfl | exact Or.inr rfl)) (pgs_cons (pg_name (i := 2) (show (["first", "least", "greatest"] : List Str).Nodup by decide +kernel) rfl (by first | exact Or.inl rfl | exact Or.inr rfl)) pgs_nil))))) (fun _ _ _ _ _ => pts_nil) (fun _ _ _ _ _ => (pe_op op_add (pe_op op_sub (pv 2) (pv 1)) pe_int))) pa_nil)))), ?_⟩
    refine ⟨_, rfl, _, rfl, a, ns, m, rfl, hq, hn, fun l ts H1 nl nts s1 el htt => ⟨l, rfl, ⟨_, SqL.of el⟩, fun D hD => ?_⟩⟩
    have hlen : ts.length ≤ ns.length := by rw [htt.1]; exact stretch_le ns m
    refine lc_list (K := K) (a := l) (xs := ts.map V.ref) (fun i σ Hc => ∃ (v0 v1 v2 : Option V), σ = [v0, v1, v2] ∧ Same H1 Hc ∧ Hc D = some (.lst ((((stretchM ns m).take i).map fun t => t.getD 2 0 - t.getD 1 0 + 1).map V.int)))
      ⟨none, none, none, rfl, Same.new hD, upd_same⟩ (fun i σ Hc _ ⟨_, _, _, _, sc, _⟩ => SqL.of (sc _ _ el)) ?_ ?_
    · rintro i x σ Hc hx ⟨v0, v1, v2, rfl, sc, eD⟩
      rw [List.getElem?_map] at hx
      obtain ⟨t, ht, rfl⟩ : ∃ t, ts[i]? = some t ∧ x = .ref t := by
        cases z : ts[i]? with
        | none => rw [z] at hx; cases hx
        | some t => rw [z] at hx; exact ⟨t, rfl, (Option.some.inj hx).symm⟩
      have hil : i < (stretchM ns m).length := by rw [← htt.1]; exact (List.getElem?_eq_some_iff.mp ht).1
      have hxs : (stretchM ns m)[i]? = some ((stretchM ns m)[i]) := List.getElem?_eq_getElem hil
      obtain ⟨x0, x1, x2, e3⟩ := stretch3 (List.getElem_mem hil)
      have et := htt.2 i t _ ht hxs
      rw [e3] at hxs et
      refine ⟨t, _, rfl, SqT.of (sc _ _ et), rfl, _, _, rfl, _, _, rfl, _, _, rfl, rfl, ?_⟩
      refine ⟨_, rfl, _, rfl, _, _, rfl, rfl, _, _, rfl, rfl, _, eD, small1000 (by have := stretch_le ns m; rw [List.length_map, List.length_map, List.length_take]; omega), _, _, _, rfl, fun b o z => by rw [upd_ne (ne_of_none z hD)]; exact sc b o z, ?_⟩
      rw [upd_same, take_snoc hxs, List.map_append, List.map_append]; rfl
    · rintro σ Hc ⟨v0, v1, v2, rfl, sc, eD⟩
      rw [List.length_map, htt.1, List.take_of_length_le (Nat.le_refl _)] at eD
      refine ⟨D, _, rfl, SqL.of eD, ?_⟩
      rw [many_sum]
      exact q _ (s1.trans sc)
end
abbrev stcounts : Stmt := top 16
section
variable {P : Program} {w : World} {K : PySem.W.Frag} {mg : Str → Option Value} {base : Heap} {C : Addr}
open My
theorem stop_at {ns : List Int} {f j : Nat} (hf : f ≤ ns.length) (hj : j < cnt ns f ns.length) : ((firstsM ns f ns.length).drop 1 ++ [(ns.length : Int)]).getD j 0 = (reach ns f (j + 1) : Int) := by
  unfold reach
  have hlen : ((firstsM ns f ns.length).drop 1).length = cnt ns f ns.length - 1 := by rw [List.length_drop]; rfl
  by_cases h : j + 1 < cnt ns f ns.length
  · rw [if_pos h, getD_app_l (by rw [hlen]; omega), drop_at, Nat.add_comm]
    exact (gAt_spec hf h).2.2.2.2
  · rw [if_neg h]
    exact getD_app_at (by rw [hlen]; omega)
theorem sccounts : FnScope ["row", "length", "ready", "told", "first", "gains", "rank", "stop"] ["row"] (defScope stcounts) := ⟨rfl, rfl, rfl, by decide +kernel, rfl, by decide +kernel, by decide +kernel⟩
theorem ok_counts {f : Addr} {fd : FuncData} (B : Blt mg) (T : RdTxt K C) (F : Fun K "counts" "counts" stcounts f fd) (hReady : HasC P w K mg base "Ready" C 3 ["self", "row"] (spRInit K C)) (hm_unlike : HasM P w K mg base C "unlike" 4 ["self", "first", "behind"] (spRUnlike C))
    (hm_firsts : HasM P w K mg base C "firsts" 3 ["self", "first", "behind"] (spRFirsts C)) : FnOk P w K mg base CX0 5 f fd ["row"] (spCounts K) := by
  refine F.ok sccounts (fun vs H Q E h => ?_) (fun cdv A outer s H vs Q E hr h => ?_)
  · obtain ⟨a, ns, rfl, _⟩ := h
    rfl
  · obtain ⟨a, ns, rfl, hq, hn, q⟩ := h
    have hs : sizeLine = 16777216 := sizeLine_eq
    refine ⟨_, (pss_cons (ps_set (i := 1) sccounts.nd rfl (Or.inl rfl) (pe_callB (lenK (K := K) rfl) (by rfl) B.len PySem.boot_len (pa_cons (pv 0) pa_nil)))
  (pss_cons (ps_set (i := 2) sccounts.nd rfl (Or.inl rfl) (pe_makeH hReady (hr.mono (by decide)) (by rfl) (pa_cons (pv 0) pa_nil)))
  (pss_cons (ps_set (i := 3) sccounts.nd rfl (Or.inl rfl) (pe_op op_rep (pe_lst (pa_cons pe_int pa_nil)) (pe_op op_add (pe_methH hm_unlike T.cl (hr.mono (by decide)) (pv 2) (pa_cons pe_int (pa_cons (pv 1) pa_nil))) pe_int)))
  (pss_cons (ps_for PassesOwn.never rfl (pi_range1 (by rfl) B.range (pa_cons (pv 1) pa_nil)) (pg_name (i := 4) sccounts.nd rfl (Or.inl rfl))
  (pss_cons (ps_set (i := 5) sccounts.nd rfl (Or.inl rfl) (pe_methH hm_firsts T.cl (hr.mono (by decide)) (pv 2) (pa_cons (pv 4) (pa_cons (pv 1) pa_nil))))
  (pss_one (ps_for PassesOwn.never rfl (pieK (K := K) rfl (by rfl) B.enumerate (pa_cons (pe_op op_cat (pe_slice (slK (K := K) rfl) (pv 5) (po_some pe_int) po_none) (pe_lst (pa_cons (pv 1) pa_nil))) pa_nil)) (pgtK (K := K) (n := 2) rfl rfl (pgs_cons (pg_name (i := 6) sccounts.nd rfl (Or.inl rfl)) (pgs_cons (pg_name (i := 7) sccounts.nd rfl (Or.inl rfl)) pgs_nil)))
  (pss_one (ps_augS (pv 3) (pe_op op_add (pv 6) pe_int) (get_listK (K := K) rfl) (pe_op op_sub (pv 7) (pe_ix (ixK (K := K) rfl) (pv 5) (pv 6) (fun _ _ => rfl))) ip_add set_list))))))
  (pss_one (ps_ret (pv 3))))))), ?_⟩
    refine ⟨_, rfl, a, _, rfl, .inl hq, ?_⟩
    rw [len_int]
    refine ⟨_, rfl, make_rdA hq (by omega) fun p H1 np s1 R1 => ?_⟩
    obtain ⟨dx, la, nx, ep, _, _⟩ := R1.ex
    have hc0 := cnt_le ns 0 ns.length
    refine ⟨by show 1 ≤ sizeLine; decide, fun p5 n5 => ?_⟩
    refine ⟨_, rfl, p, dx, _, rfl, Same.new n5 _ _ ep, flds_no _ _ (by decide +kernel) (by decide +kernel), _, rfl, p, ns, 0, ns.length, rfl, R1.same (Same.new n5), Nat.zero_le _, Nat.le_refl _, by omega, fun H2 s2 => ?_⟩
    have e5 := s2 _ _ (upd_same (H := H1) (a := p5) (o := .lst [V.int 0]))
    have k2 : Same H1 H2 := (Same.new n5).trans s2
    refine ⟨_, _, rfl, rfl, p5, _, _, rfl, rfl, e5, by omega, by omega, ?_, fun D nD => ?_⟩
    · show 1 * _ ≤ _
      omega
    have er : (List.replicate ((cnt ns 0 ns.length : Int) + 1).toNat [V.int 0]).flatten = ((List.range (cnt ns 0 ns.length + 1)).map (countAt ns 0)).map V.int := by
      rw [rep_one, show ((cnt ns 0 ns.length : Int) + 1).toNat = cnt ns 0 ns.length + 1 by omega]
      refine List.ext_getElem (by simp) fun i h1 h2 => ?_
      simp [countAt, sumR]
    rw [er]
    clear e5 s2 n5
    have ep2 := k2 _ _ ep
    have R2 := R1.same k2
    have hDH : H D = none := s1.free (k2.free nD)
    have ndxD : True := trivial
    refine ⟨_, rfl, _, rfl, by omega, by omega, for_range (fun k σ Hc => ∃ (v4 v5 v6 v7 : Option V), σ = [some (.ref a), some (.int ns.length), some (.ref p), some (.ref D), v4, v5, v6, v7] ∧ Same H2 Hc ∧ Hc D = some (.lst (((List.range (cnt ns 0 ns.length + 1)).map (countAt ns k)).map V.int)))
      ⟨none, none, none, none, rfl, Same.new nD, upd_same⟩ ?_ ?_⟩
    · rintro k σ Hc hk ⟨v4, v5, v6, v7, rfl, sc, eD⟩
      have hk' : k < ns.length := by omega
      refine ⟨_, rfl, p, dx, _, rfl, sc _ _ ep2, flds_no _ _ (by decide +kernel) (by decide +kernel), _, rfl, _, rfl, p, ns, k, ns.length, by rw [Int.zero_add]; rfl, R2.same sc, by omega, Nat.le_refl _, by omega, fun g H3 ng s3 eg => ?_⟩
      have hcl : (firstsM ns k ns.length).length = cnt ns k ns.length := rfl
      have hcp := cnt_pos (ns := ns) (f := k) (b := ns.length) hk'
      have hcd := cnt_dn (ns := ns) (f := 0) (g := k) (b := ns.length) (Nat.le_refl _) (Nat.zero_le _) (by omega)
      have eD3 := s3 _ _ eD
      have ngD : g ≠ D := (ne_of_none eD ng).symm
      have k3 := sc.trans s3
      refine ⟨_, rfl, _, rfl, g, _, rfl, SqL.of eg, fun d nd => ?_⟩
      have ec : cutV ((firstsM ns k ns.length).map V.int) (some 1) none = ((firstsM ns k ns.length).drop 1).map V.int := by
        rw [show (1 : Int) = ((1 : Nat) : Int) from rfl, cutV_drop, List.map_drop]
      rw [ec]
      refine ⟨_, rfl, by show 1 ≤ sizeLine; decide, fun o no => ?_⟩
      have ndo : d ≠ o := ne_of_none upd_same no
      refine ⟨d, o, _, _, rfl, rfl, by rw [upd_ne ndo]; exact upd_same, upd_same, ?_, fun c nc => ?_⟩
      · rw [List.length_map, List.length_drop]; show _ + 1 ≤ _; omega
      have em : ((firstsM ns k ns.length).drop 1).map V.int ++ [V.int (ns.length : Int)] = ((firstsM ns k ns.length).drop 1 ++ [(ns.length : Int)]).map V.int := by rw [List.map_append]; rfl
      rw [em]
      have s4 := ((Same.new (o := .lst (((firstsM ns k ns.length).drop 1).map V.int)) nd).trans (Same.new (o := .lst [V.int (ns.length : Int)]) no)).trans (Same.new (o := .lst (((firstsM ns k ns.length).drop 1 ++ [(ns.length : Int)]).map V.int)) nc)
      have e4 := upd_same (H := upd (upd H3 d (.lst (((firstsM ns k ns.length).drop 1).map V.int))) o (.lst [V.int (ns.length : Int)])) (a := c) (o := .lst (((firstsM ns k ns.length).drop 1 ++ [(ns.length : Int)]).map V.int))
      generalize upd (upd (upd H3 d (.lst (((firstsM ns k ns.length).drop 1).map V.int))) o (.lst [V.int (ns.length : Int)])) c (.lst (((firstsM ns k ns.length).drop 1 ++ [(ns.length : Int)]).map V.int)) = H4 at s4 e4 ⊢
      clear nd no nc em ec ndo
      have eg4 := s4 _ _ eg
      have eD4 := s4 _ _ eD3
      have k4 := k3.trans s4
      have hxl : ((firstsM ns k ns.length).drop 1 ++ [(ns.length : Int)]).length = cnt ns k ns.length := by rw [List.length_append, List.length_drop, hcl]; show _ + 1 = _; omega
      have ncD : c ≠ D := fun z => by
        subst z
        rw [eD4] at e4
        have e6 : ((List.range (cnt ns 0 ns.length + 1)).map (countAt ns k)).map V.int = ((firstsM ns k ns.length).drop 1 ++ [(ns.length : Int)]).map V.int := by injection e4 with y; injection y
        have := congrArg List.length e6
        rw [List.length_map, List.length_map, List.length_range, List.length_map, hxl] at this
        omega
      refine ⟨c, rfl, ⟨_, SqL.of e4⟩, for_enum (K := K) (a := c) (xs := ((firstsM ns k ns.length).drop 1 ++ [(ns.length : Int)]).map V.int) (fun j σ Hd => ∃ (v6 v7 : Option V), σ = [some (.ref a), some (.int ns.length), some (.ref p), some (.ref D), some (.int ((0 : Int) + (k : Int))), some (.ref g), v6, v7] ∧ Same H2 Hd ∧ Hd c = some (.lst (((firstsM ns k ns.length).drop 1 ++ [(ns.length : Int)]).map V.int)) ∧ Hd g = some (.lst ((firstsM ns k ns.length).map V.int)) ∧ Hd D = some (.lst (((List.range (cnt ns 0 ns.length + 1)).map fun c' => countAt ns k c' + if 1 ≤ c' ∧ c' ≤ j then manyAt ns k c' else 0).map V.int)))
        ⟨_, _, rfl, k4, e4, eg4, by rw [eD4]; congr 3; refine List.map_congr_left fun w _ => ?_; rw [if_neg (by omega), Int.add_zero]⟩ (fun j σ Hd _ ⟨_, _, _, _, e, _⟩ => SqL.of e) ?_ ?_⟩
      · rintro j x pp σ Hd hx ⟨v6, v7, rfl, sd, ec, eg, eD⟩ hpp
        obtain ⟨hj, rfl⟩ := int_at hx
        rw [hxl] at hj
        rw [stop_at (by omega) hj]
        have npD : pp ≠ D := (ne_of_none eD hpp).symm
        have eDp := Same.new (o := .tup [.int j, .int (reach ns k (j + 1))]) hpp _ _ eD
        have egp := Same.new (o := .tup [.int j, .int (reach ns k (j + 1))]) hpp _ _ eg
        have ecp := Same.new (o := .tup [.int j, .int (reach ns k (j + 1))]) hpp _ _ ec
        refine ⟨pp, _, rfl, SqT.of upd_same, rfl, _, _, rfl, _, _, rfl, rfl, ?_⟩
        have hat : ((List.range (cnt ns 0 ns.length + 1)).map fun c' => countAt ns k c' + if 1 ≤ c' ∧ c' ≤ j then manyAt ns k c' else 0)[j + 1]? = some (countAt ns k (j + 1)) := by
          rw [List.getElem?_map, List.getElem?_range (by omega)]
          show some (countAt ns k (j + 1) + if 1 ≤ j + 1 ∧ j + 1 ≤ j then manyAt ns k (j + 1) else 0) = _
          rw [if_neg (by omega), Int.add_zero]
        have ea : atI ((firstsM ns k ns.length).map V.int) (j : Int) = some (.int (gAt ns k j)) := by
          rw [atI_at (by rw [hcl]; exact hj), (gAt_spec (by omega) hj).2.2.2.2]
        refine ⟨_, rfl, _, rfl, _, _, rfl, rfl, D, _, _, .int (countAt ns k (j + 1)), rfl, rfl, SqL.of eDp, by omega, ?_, ?_⟩
        · rw [show ((j : Int) + 1).toNat = j + 1 by omega, List.getElem?_map, hat]; rfl
        refine ⟨_, rfl, _, rfl, _, rfl, g, _, _, _, rfl, rfl, SqL.of egp, ea, _, _, rfl, rfl, _, _, rfl, rfl, D, _, _, j + 1, rfl, rfl, eDp, ?_, ?_⟩
        · rw [ixN_int (by omega) (by rw [len_int, List.length_map, List.length_range]; omega)]
          congr 1
        have hma := many_at (ns := ns) (f := k) (c := j + 1) (by omega) (by omega) (by omega)
        refine ⟨_, _, rfl, fun b o z => ?_, ?_, ?_, ?_⟩
        · rw [upd_ne (ne_of_none z nD)]; exact Same.new hpp _ _ (sd b o z)
        · rw [upd_ne ncD]; exact ecp
        · rw [upd_ne ngD]; exact egp
        · rw [upd_same, ← List.map_set]
          congr 3
          refine set_range ?_ fun w hw _ => ?_
          · dsimp only
            rw [if_pos (by omega), hma, Nat.add_sub_cancel]; omega
          · by_cases z : 1 ≤ w ∧ w ≤ j
            · rw [if_pos z, if_pos (by omega)]
            · rw [if_neg z, if_neg (by omega)]
      · rintro σ Hd ⟨v6, v7, rfl, sd, ec, eg, eD⟩
        refine ⟨_, _, _, _, rfl, sd, ?_⟩
        rw [eD, len_int, hxl]
        congr 3
        refine List.map_congr_left fun w _ => ?_
        show _ = countAt ns k w + manyAt ns k w
        congr 1
        by_cases z : 1 ≤ w ∧ w ≤ cnt ns k ns.length
        · rw [if_pos z]
        · rw [if_neg z, many_no (by omega) (by omega)]
    · rintro σ Hc ⟨v4, v5, v6, v7, rfl, sc, eD⟩
      refine ⟨_, rfl, q D Hc hDH ((s1.trans k2).trans sc) ?_⟩
      rw [Int.toNat_natCast] at eD
      exact eD
end
abbrev stwidth_of : Stmt := top 17
section
variable {P : Program} {w : World} {K : PySem.W.Frag} {mg : Str → Option Value} {base : Heap} {C : Addr}
open My
theorem scwidth_of : FnScope ["window"] ["window"] (defScope stwidth_of) := ⟨rfl, rfl, rfl, by decide +kernel, rfl, by decide +kernel, by decide +kernel⟩
theorem ok_width_of {f : Addr} {fd : FuncData} (F : Fun K "width_of" "width_of" stwidth_of f fd) : FnOk P w K mg base CX0 1 f fd ["window"] (spWidthOf K) := by
  refine F.ok scwidth_of (fun vs H Q E h => ?_) (fun cdv A outer s H vs Q E hr h => ?_)
  · obtain ⟨t, a, b, rfl, _⟩ := h
    rfl
  · obtain ⟨t, a, b, rfl, e, q⟩ := h
    refine ⟨_, (pss_one (ps_ret (pe_op op_sub (pe_ix (ixTK (K := K) rfl) (pv 0) pe_int (fun _ _ => rfl)) (pe_ix (ixTK (K := K) rfl) (pv 0) pe_int (fun _ _ => rfl))))), ?_⟩
    exact ⟨_, rfl, t, _, _, _, rfl, rfl, e, atV (i := 1) rfl, _, rfl, t, _, _, _, rfl, rfl, e, atV (i := 0) rfl, _, _, rfl, rfl, q⟩
end
abbrev stlongest : Stmt := top 18
section
variable {P : Program} {w : World} {K : PySem.W.Frag} {mg : Str → Option Value} {base : Heap} {C : Addr}
open My
theorem sclongest : FnScope ["row", "many", "windows"] ["row", "many"] (defScope stlongest) := ⟨rfl, rfl, rfl, by decide +kernel, rfl, by decide +kernel, by decide +kernel⟩
theorem ok_longest {f : Addr} {fd : FuncData} (B : Blt mg) (F : Fun K "longest" "longest" stlongest f fd) (hstretches : Has P w K mg base "stretches" 6 ["row", "many"] (spStretch K)) (hwidth_of : Has P w K mg base "width_of" 1 ["window"] (spWidthOf K)) : FnOk P w K mg base CX0 7 f fd ["row", "many"] (spLongest K) := by
  refine F.ok sclongest (fun vs H Q E h => ?_) (fun cdv A outer s H vs Q E hr h => ?_)
  · obtain ⟨a, ns, m, rfl, _⟩ := h
    rfl
  · obtain ⟨a, ns, m, rfl, hq, hn, q⟩ := h
    refine ⟨_, (pss_cons (ps_setLc (i := 2) (own := ["first", "least", "greatest"]) (ix := []) (N := ["first", "least", "greatest"]) rfl sclongest.nd rfl rfl (LcOk.of (by rfl)) (piK (K := K) rfl (pe_callH hstretches (hr.mono (by decide)) (by rfl) (pa_cons (pv 0) (pa_cons (pv 1) pa_nil)))) (fun _ _ _ _ _ => (pgtK (K := K) (n := 3) rfl rfl (pgs_cons (pg_name (i := 0) (show (["first", "least", "greatest"] : List Str).Nodup by decide +kernel) rfl (by first | exact Or.inl rfl | exact Or.inr rfl)) (pgs_cons (pg_name (i := 1) (show (["first", "least", "greatest"] : List Str).Nodup by decide +kernel) rfl (by first | exact Or.inl rfl | exact Or.inr rfl)) (pgs_cons (pg_name (i := 2) (show (["first", "least", "greatest"] : List Str).Nodup by decide +kernel) rfl (by first | exact Or.inl rfl | exact Or.inr rfl)) pgs_nil))))) (fun _ _ _ _ _ => pts_nil) (fun _ _ _ _ _ => (pe_tup (pa_cons (pv 0) (pa_cons (pv 2) pa_nil)))))
  (pss_one (ps_ret (pe_maxK (K := K) rfl rfl hwidth_of (hr.mono (by decide)) (by rfl) (by rfl) B.max (pv 2) pe_non)))), ?_⟩
    refine ⟨_, rfl, _, rfl, a, ns, m, rfl, hq, hn, fun l ts H1 nl nts s1 el htt => ⟨l, rfl, ⟨_, SqL.of el⟩, fun D hD => ?_⟩⟩
    have hlen : ts.length = (fl ns m).length := by rw [htt.1, stretch_fl, List.length_map]
    have hfl : (fl ns m).length ≤ 900 := by have := stretch_le ns m; rw [stretch_fl, List.length_map] at this; omega
    refine lc_list (K := K) (a := l) (xs := ts.map V.ref) (fun i σ Hc => ∃ (v0 v1 v2 : Option V) (ws : List Addr), σ = [v0, v1, v2] ∧ Same H1 Hc ∧ Hc D = some (.lst (ws.map V.ref)) ∧ ws.length = i ∧ ∀ (j : Nat) (t : Addr), ws[j]? = some t → t ≠ D ∧ ∀ f, (fl ns m)[j]? = some f → Hc t = some (.tup [.int (f : Int), .int (reach ns f m : Int)]))
      ⟨none, none, none, [], rfl, Same.new hD, upd_same, rfl, fun j t h => by simp at h⟩ (fun i σ Hc _ ⟨_, _, _, _, _, sc, _⟩ => SqL.of (sc _ _ el)) ?_ ?_
    · rintro i x σ Hc hx ⟨v0, v1, v2, ws, rfl, sc, eD, hl, hws⟩
      rw [List.getElem?_map] at hx
      obtain ⟨t, ht, rfl⟩ : ∃ t, ts[i]? = some t ∧ x = .ref t := by
        cases z : ts[i]? with
        | none => rw [z] at hx; cases hx
        | some t => rw [z] at hx; exact ⟨t, rfl, (Option.some.inj hx).symm⟩
      have hil : i < (fl ns m).length := by rw [← hlen]; exact (List.getElem?_eq_some_iff.mp ht).1
      have hfi : (fl ns m)[i]? = some ((fl ns m)[i]) := List.getElem?_eq_getElem hil
      generalize (fl ns m)[i] = f at hfi
      have et := htt.2 i t [(f : Int), (least ns f m : Int), (reach ns f m : Int)] ht (by rw [stretch_fl, List.getElem?_map, hfi]; rfl)
      refine ⟨t, _, rfl, SqT.of (sc _ _ et), rfl, _, _, rfl, _, _, rfl, _, _, rfl, rfl, ?_⟩
      refine ⟨_, rfl, _, rfl, by show 2 ≤ sizeLine; decide, fun t' nt' => ?_⟩
      have ntD : t' ≠ D := (ne_of_none eD nt').symm
      refine ⟨_, Same.new nt' _ _ eD, small1000 (by rw [List.length_map]; omega), _, _, _, ws ++ [t'], rfl, fun b o z => ?_, by rw [upd_same, List.map_append]; rfl, by rw [List.length_append, hl]; rfl, fun j t2 hj => ?_⟩
      · rw [upd_ne (ne_of_none z hD)]; exact Same.new nt' _ _ (sc b o z)
      · by_cases hjl : j < ws.length
        · rw [List.getElem?_append_left hjl] at hj
          obtain ⟨n1, e1⟩ := hws j t2 hj
          exact ⟨n1, fun g hg => by rw [upd_ne n1]; exact Same.new nt' _ _ (e1 g hg)⟩
        · have hj' : j = ws.length := by
            have := (List.getElem?_eq_some_iff.mp hj).1
            rw [List.length_append, List.length_singleton] at this; omega
          subst hj'
          rw [List.getElem?_append_right (Nat.le_refl _), Nat.sub_self] at hj
          have e' : t' = t2 := by simpa using hj
          subst e'
          refine ⟨ntD, fun g hg => ?_⟩
          rw [hl, hfi] at hg
          have : f = g := by simpa using hg
          subst this
          rw [upd_ne ntD, upd_same]
    · rintro σ Hc ⟨v0, v1, v2, ws, rfl, sc, eD, hl, hws⟩
      rw [List.length_map, hlen] at hl
      have at_ : ∀ (i : Nat) (y : V), (ws.map V.ref)[i]? = some y → ∃ t f, ws[i]? = some t ∧ y = .ref t ∧ (fl ns m)[i]? = some f ∧ Hc t = some (.tup [.int (f : Int), .int (reach ns f m : Int)]) := fun i y hy => by
        rw [List.getElem?_map] at hy
        obtain ⟨t, ht, rfl⟩ : ∃ t, ws[i]? = some t ∧ y = .ref t := by
          cases z : ws[i]? with
          | none => rw [z] at hy; cases hy
          | some t => rw [z] at hy; exact ⟨t, rfl, (Option.some.inj hy).symm⟩
        have hil : i < (fl ns m).length := by rw [← hl]; exact (List.getElem?_eq_some_iff.mp ht).1
        exact ⟨t, (fl ns m)[i], ht, rfl, List.getElem?_eq_getElem hil, (hws i t ht).2 _ (List.getElem?_eq_getElem hil)⟩
      have kf : ∀ (i f : Nat), (fl ns m)[i]? = some f → (fl ns m).getD i 0 = f := fun i f h => by rw [List.getD_eq_getElem?_getD, h]; rfl
      refine ⟨_, rfl, D, ws.map V.ref, fun i => (reach ns ((fl ns m).getD i 0) m : Int) - (((fl ns m).getD i 0 : Nat) : Int), rfl, SqL.of eD, fun i y H' hy s' => ?_, fun he H' s' => ?_, fun i y H' hy hbest s' => ?_⟩
      · obtain ⟨t, f, ht, rfl, hf, et⟩ := at_ i y hy
        exact ⟨t, _, _, rfl, SqT.of (s' _ _ et), by dsimp only; rw [kf i f hf], Same.refl _⟩
      · have h0 : (fl ns m).length = 0 := by have := congrArg List.length he; rw [List.length_map, hl] at this; simpa using this
        refine q .non none H' (fun j hj hh => ?_) ((s1.trans sc).trans s') rfl
        have : j ∈ fl ns m := fl_mem.mpr ⟨hj, hh⟩
        rw [List.length_eq_zero_iff.mp h0] at this
        simp at this
      · obtain ⟨t, f, ht, rfl, hf, et⟩ := at_ i y hy
        obtain ⟨hfn, hfh⟩ := fl_mem.mp (List.mem_of_getElem? hf)
        refine q (.ref t) (some (f, reach ns f m)) H' ⟨hfn, hfh, rfl, fun j hj hh => ?_⟩ ((s1.trans sc).trans s') ⟨t, rfl, s' _ _ et⟩
        obtain ⟨j', hj1, hj2⟩ := List.mem_iff_getElem.mp (fl_mem.mpr ⟨hj, hh⟩)
        have hj3 : (fl ns m)[j']? = some j := by rw [List.getElem?_eq_getElem hj1, hj2]
        have hb := hbest j' (by rw [List.length_map, hl]; exact hj1)
        dsimp only at hb
        rw [kf i f hf, kf j' j hj3] at hb
        have r1 := least_reach (ns := ns) (f := f) (m := m) (by omega) hfh
        have r2 := least_reach (ns := ns) (f := j) (m := m) (by omega) hh
        show reach ns j m - j ≤ reach ns f m - f ∧ (j < f → reach ns j m - j < reach ns f m - f)
        refine ⟨by have := hb.1; omega, fun y => by have := hb.2 (fl_lt hf hj3 y); omega⟩
end
abbrev stshortest : Stmt := top 19
section
variable {P : Program} {w : World} {K : PySem.W.Frag} {mg : Str → Option Value} {base : Heap} {C : Addr}
open My
theorem scshortest : FnScope ["row", "many", "windows"] ["row", "many"] (defScope stshortest) := ⟨rfl, rfl, rfl, by decide +kernel, rfl, by decide +kernel, by decide +kernel⟩
theorem ok_shortest {f : Addr} {fd : FuncData} (B : Blt mg) (F : Fun K "shortest" "shortest" stshortest f fd) (hstretches : Has P w K mg base "stretches" 6 ["row", "many"] (spStretch K)) (hwidth_of : Has P w K mg base "width_of" 1 ["window"] (spWidthOf K)) : FnOk P w K mg base CX0 7 f fd ["row", "many"] (spShortest K) := by
  refine F.ok scshortest (fun vs H Q E h => ?_) (fun cdv A outer s H vs Q E hr h => ?_)
  · obtain ⟨a, ns, m, rfl, _⟩ := h
    rfl
  · obtain ⟨a, ns, m, rfl, hq, hn, q⟩ := h
    refine ⟨_, (pss_cons (ps_setLc (i := 2) (own := ["first", "least", "greatest"]) (ix := []) (N := ["first", "least", "greatest"]) rfl scshortest.nd rfl rfl (LcOk.of (by rfl)) (piK (K := K) rfl (pe_callH hstretches (hr.mono (by decide)) (by rfl) (pa_cons (pv 0) (pa_cons (pv 1) pa_nil)))) (fun _ _ _ _ _ => (pgtK (K := K) (n := 3) rfl rfl (pgs_cons (pg_name (i := 0) (show (["first", "least", "greatest"] : List Str).Nodup by decide +kernel) rfl (by first | exact Or.inl rfl | exact Or.inr rfl)) (pgs_cons (pg_name (i := 1) (show (["first", "least", "greatest"] : List Str).Nodup by decide +kernel) rfl (by first | exact Or.inl rfl | exact Or.inr rfl)) (pgs_cons (pg_name (i := 2) (show (["first", "least", "greatest"] : List Str).Nodup by decide +kernel) rfl (by first | exact Or.inl rfl | exact Or.inr rfl)) pgs_nil))))) (fun _ _ _ _ _ => pts_nil) (fun _ _ _ _ _ => (pe_tup (pa_cons (pv 0) (pa_cons (pv 1) pa_nil)))))
  (pss_one (ps_ret (pe_minK (K := K) rfl rfl hwidth_of (hr.mono (by decide)) (by rfl) (by rfl) B.min (pv 2) pe_non)))), ?_⟩
    refine ⟨_, rfl, _, rfl, a, ns, m, rfl, hq, hn, fun l ts H1 nl nts s1 el htt => ⟨l, rfl, ⟨_, SqL.of el⟩, fun D hD => ?_⟩⟩
    have hlen : ts.length = (fl ns m).length := by rw [htt.1, stretch_fl, List.length_map]
    have hfl : (fl ns m).length ≤ 900 := by have := stretch_le ns m; rw [stretch_fl, List.length_map] at this; omega
    refine lc_list (K := K) (a := l) (xs := ts.map V.ref) (fun i σ Hc => ∃ (v0 v1 v2 : Option V) (ws : List Addr), σ = [v0, v1, v2] ∧ Same H1 Hc ∧ Hc D = some (.lst (ws.map V.ref)) ∧ ws.length = i ∧ ∀ (j : Nat) (t : Addr), ws[j]? = some t → t ≠ D ∧ ∀ f, (fl ns m)[j]? = some f → Hc t = some (.tup [.int (f : Int), .int (least ns f m : Int)]))
      ⟨none, none, none, [], rfl, Same.new hD, upd_same, rfl, fun j t h => by simp at h⟩ (fun i σ Hc _ ⟨_, _, _, _, _, sc, _⟩ => SqL.of (sc _ _ el)) ?_ ?_
    · rintro i x σ Hc hx ⟨v0, v1, v2, ws, rfl, sc, eD, hl, hws⟩
      rw [List.getElem?_map] at hx
      obtain ⟨t, ht, rfl⟩ : ∃ t, ts[i]? = some t ∧ x = .ref t := by
        cases z : ts[i]? with
        | none => rw [z] at hx; cases hx
        | some t => rw [z] at hx; exact ⟨t, rfl, (Option.some.inj hx).symm⟩
      have hil : i < (fl ns m).length := by rw [← hlen]; exact (List.getElem?_eq_some_iff.mp ht).1
      have hfi : (fl ns m)[i]? = some ((fl ns m)[i]) := List.getElem?_eq_getElem hil
      generalize (fl ns m)[i] = f at hfi
      have et := htt.2 i t [(f : Int), (least ns f m : Int), (reach ns f m : Int)] ht (by rw [stretch_fl, List.getElem?_map, hfi]; rfl)
      refine ⟨t, _, rfl, SqT.of (sc _ _ et), rfl, _, _, rfl, _, _, rfl, _, _, rfl, rfl, ?_⟩
      refine ⟨_, rfl, _, rfl, by show 2 ≤ sizeLine; decide, fun t' nt' => ?_⟩
      have ntD : t' ≠ D := (ne_of_none eD nt').symm
      refine ⟨_, Same.new nt' _ _ eD, small1000 (by rw [List.length_map]; omega), _, _, _, ws ++ [t'], rfl, fun b o z => ?_, by rw [upd_same, List.map_append]; rfl, by rw [List.length_append, hl]; rfl, fun j t2 hj => ?_⟩
      · rw [upd_ne (ne_of_none z hD)]; exact Same.new nt' _ _ (sc b o z)
      · by_cases hjl : j < ws.length
        · rw [List.getElem?_append_left hjl] at hj
          obtain ⟨n1, e1⟩ := hws j t2 hj
          exact ⟨n1, fun g hg => by rw [upd_ne n1]; exact Same.new nt' _ _ (e1 g hg)⟩
        · have hj' : j = ws.length := by
            have := (List.getElem?_eq_some_iff.mp hj).1
            rw [List.length_append, List.length_singleton] at this; omega
          subst hj'
          rw [List.getElem?_append_right (Nat.le_refl _), Nat.sub_self] at hj
          have e' : t' = t2 := by simpa using hj
          subst e'
          refine ⟨ntD, fun g hg => ?_⟩
          rw [hl, hfi] at hg
          have : f = g := by simpa using hg
          subst this
          rw [upd_ne ntD, upd_same]
    · rintro σ Hc ⟨v0, v1, v2, ws, rfl, sc, eD, hl, hws⟩
      rw [List.length_map, hlen] at hl
      have at_ : ∀ (i : Nat) (y : V), (ws.map V.ref)[i]? = some y → ∃ t f, ws[i]? = some t ∧ y = .ref t ∧ (fl ns m)[i]? = some f ∧ Hc t = some (.tup [.int (f : Int), .int (least ns f m : Int)]) := fun i y hy => by
        rw [List.getElem?_map] at hy
        obtain ⟨t, ht, rfl⟩ : ∃ t, ws[i]? = some t ∧ y = .ref t := by
          cases z : ws[i]? with
          | none => rw [z] at hy; cases hy
          | some t => rw [z] at hy; exact ⟨t, rfl, (Option.some.inj hy).symm⟩
        have hil : i < (fl ns m).length := by rw [← hl]; exact (List.getElem?_eq_some_iff.mp ht).1
        exact ⟨t, (fl ns m)[i], ht, rfl, List.getElem?_eq_getElem hil, (hws i t ht).2 _ (List.getElem?_eq_getElem hil)⟩
      have kf : ∀ (i f : Nat), (fl ns m)[i]? = some f → (fl ns m).getD i 0 = f := fun i f h => by rw [List.getD_eq_getElem?_getD, h]; rfl
      refine ⟨_, rfl, D, ws.map V.ref, fun i => (least ns ((fl ns m).getD i 0) m : Int) - (((fl ns m).getD i 0 : Nat) : Int), rfl, SqL.of eD, fun i y H' hy s' => ?_, fun he H' s' => ?_, fun i y H' hy hbest s' => ?_⟩
      · obtain ⟨t, f, ht, rfl, hf, et⟩ := at_ i y hy
        exact ⟨t, _, _, rfl, SqT.of (s' _ _ et), by dsimp only; rw [kf i f hf], Same.refl _⟩
      · have h0 : (fl ns m).length = 0 := by have := congrArg List.length he; rw [List.length_map, hl] at this; simpa using this
        refine q .non none H' (fun j hj hh => ?_) ((s1.trans sc).trans s') rfl
        have : j ∈ fl ns m := fl_mem.mpr ⟨hj, hh⟩
        rw [List.length_eq_zero_iff.mp h0] at this
        simp at this
      · obtain ⟨t, f, ht, rfl, hf, et⟩ := at_ i y hy
        obtain ⟨hfn, hfh⟩ := fl_mem.mp (List.mem_of_getElem? hf)
        refine q (.ref t) (some (f, least ns f m)) H' ⟨hfn, hfh, rfl, fun j hj hh => ?_⟩ ((s1.trans sc).trans s') ⟨t, rfl, s' _ _ et⟩
        obtain ⟨j', hj1, hj2⟩ := List.mem_iff_getElem.mp (fl_mem.mpr ⟨hj, hh⟩)
        have hj3 : (fl ns m)[j']? = some j := by rw [List.getElem?_eq_getElem hj1, hj2]
        have hb := hbest j' (by rw [List.length_map, hl]; exact hj1)
        dsimp only at hb
        rw [kf i f hf, kf j' j hj3] at hb
        have r1 := least_reach (ns := ns) (f := f) (m := m) (by omega) hfh
        have r2 := least_reach (ns := ns) (f := j) (m := m) (by omega) hh
        show least ns f m - f ≤ least ns j m - j ∧ (j < f → least ns f m - f < least ns j m - j)
        refine ⟨by have := hb.1; omega, fun y => by have := hb.2 (fl_lt hf hj3 y); omega⟩
end
abbrev stlongest_within : Stmt := top 20
section
variable {P : Program} {w : World} {K : PySem.W.Frag} {mg : Str → Option Value} {base : Heap} {C : Addr}
open My
theorem sclongest_within : FnScope ["row", "many", "ready", "windows"] ["row", "many"] (defScope stlongest_within) := ⟨rfl, rfl, rfl, by decide +kernel, rfl, by decide +kernel, by decide +kernel⟩
theorem ok_longest_within {f : Addr} {fd : FuncData} (B : Blt mg) (T : RdTxt K C) (F : Fun K "longest_within" "longest_within" stlongest_within f fd) (hReady : HasC P w K mg base "Ready" C 3 ["self", "row"] (spRInit K C))
    (hreach_of : Has P w K mg base "reach_of" 5 ["ready", "length", "first", "many"] (spReach C)) (hwidth_of : Has P w K mg base "width_of" 1 ["window"] (spWidthOf K)) : FnOk P w K mg base CX0 6 f fd ["row", "many"] (spWithin K) := by
  refine F.ok sclongest_within (fun vs H Q E h => ?_) (fun cdv A outer s H vs Q E hr h => ?_)
  · obtain ⟨a, ns, m, rfl, _⟩ := h
    rfl
  · obtain ⟨a, ns, m, rfl, hq, hn, q⟩ := h
    refine ⟨_, (pss_cons (ps_set (i := 2) sclongest_within.nd rfl (Or.inr rfl) (pe_makeH hReady (hr.mono (by decide)) (by rfl) (pa_cons (pv 0) pa_nil)))
  (pss_cons (ps_setLc (i := 3) (own := ["first"]) (ix := [2, 1, 0]) (N := ["first", "ready", "many", "row"]) rfl sclongest_within.nd rfl rfl (LcOk.of (by rfl)) (pi_range1 (by rfl) B.range (pa_cons (pe_callB (lenK (K := K) rfl) (by rfl) B.len PySem.boot_len (pa_cons (pv 0) pa_nil)) pa_nil)) (fun _ _ _ _ _ => (pg_name (i := 0) (show (["first", "ready", "many", "row"] : List Str).Nodup by decide +kernel) rfl (by first | exact Or.inl rfl | exact Or.inr rfl))) (fun _ _ _ _ _ => pts_nil) (fun _ _ _ _ _ => (pe_tup (pa_cons (pv 0) (pa_cons (pe_callH hreach_of (hr.mono (by decide)) (by rfl) (pa_cons (pv 1) (pa_cons (pe_callB (lenK (K := K) rfl) (by rfl) B.len PySem.boot_len (pa_cons (pv 3) pa_nil)) (pa_cons (pv 0) (pa_cons (pv 2) pa_nil))))) pa_nil)))))
  (pss_one (ps_ret (pe_maxK (K := K) rfl rfl hwidth_of (hr.mono (by decide)) (by rfl) (by rfl) B.max (pv 3) (pe_tup (pa_cons pe_int (pa_cons pe_int pa_nil)))))))), ?_⟩
    refine ⟨_, rfl, make_rdA hq (by omega) fun p H1 np s1 R1 => ?_⟩
    refine ⟨_, rfl, a, _, rfl, .inl (s1.seq hq), _, rfl, by omega, by rw [len_int]; omega, fun D hD => ?_⟩
    rw [len_int, Int.toNat_natCast]
    refine lc_range (fun i σ Hc => ∃ (v0 : Option V) (ts : List Addr), σ = [v0, some (.ref p), some (.int m), some (.ref a)] ∧ Same H1 Hc ∧ Hc D = some (.lst (ts.map V.ref)) ∧ ts.length = i ∧ ∀ (j : Nat) (t : Addr), ts[j]? = some t → t ≠ D ∧ Hc t = some (.tup [.int (j : Int), .int (reach ns j m : Int)]))
      ⟨none, [], rfl, Same.new hD, upd_same, rfl, fun j t h => by simp at h⟩ ?_ ?_
    · rintro i σ Hc hi ⟨v0, ts, rfl, sc, eD, hl, hts⟩
      refine ⟨_, rfl, _, rfl, _, rfl, a, _, rfl, .inl ((s1.trans sc).seq hq), _, rfl, _, rfl, p, ns, i, m, by rw [len_int, Int.zero_add]; rfl, R1.same sc, by omega, by omega, fun H2 s2 => ⟨by show 2 ≤ sizeLine; decide, fun t nt => ?_⟩⟩
      have eD2 := Same.new (o := .tup [.int ((0 : Int) + (i : Int)), .int (reach ns i m : Int)]) nt _ _ (s2 _ _ eD)
      have ntD : t ≠ D := (ne_of_none (s2 _ _ eD) nt).symm
      refine ⟨_, eD2, small1000 (by rw [List.length_map]; omega), _, ts ++ [t], rfl, fun b o z => ?_, by rw [upd_same, List.map_append]; rfl, by rw [List.length_append, hl]; rfl, fun j t' hj => ?_⟩
      · rw [upd_ne (ne_of_none z hD)]; exact Same.new nt _ _ (s2 _ _ (sc b o z))
      · by_cases hjl : j < ts.length
        · rw [List.getElem?_append_left hjl] at hj
          obtain ⟨n1, e1⟩ := hts j t' hj
          exact ⟨n1, by rw [upd_ne n1]; exact Same.new nt _ _ (s2 _ _ e1)⟩
        · have hj' : j = ts.length := by
            have := (List.getElem?_eq_some_iff.mp hj).1
            rw [List.length_append, List.length_singleton] at this; omega
          subst hj'
          rw [List.getElem?_append_right (Nat.le_refl _), Nat.sub_self] at hj
          have e' : t = t' := by simpa using hj
          subst e'
          exact ⟨ntD, by rw [upd_ne ntD, upd_same, Int.zero_add, hl]⟩
    · rintro σ Hc ⟨v0, ts, rfl, sc, eD, hl, hts⟩
      refine ⟨_, rfl, by show 2 ≤ sizeLine; decide, fun z nz => ?_⟩
      have sz := Same.new (o := .tup [.int 0, .int 0]) nz
      refine ⟨D, ts.map V.ref, fun i => (reach ns i m : Int) - (i : Int), rfl, SqL.of (sz _ _ eD), fun i y H' hy s' => ?_, fun he H' s' => ?_, fun i y H' hy hbest s' => ?_⟩
      · rw [List.getElem?_map] at hy
        obtain ⟨t, ht, rfl⟩ : ∃ t, ts[i]? = some t ∧ y = .ref t := by
          cases z : ts[i]? with
          | none => rw [z] at hy; cases hy
          | some t => rw [z] at hy; exact ⟨t, rfl, (Option.some.inj hy).symm⟩
        exact ⟨t, _, _, rfl, SqT.of (s' _ _ (sz _ _ (hts i t ht).2)), rfl, Same.refl _⟩
      · have h0 : ns.length = 0 := by have := congrArg List.length he; rw [List.length_map] at this; simpa [hl] using this
        exact q z 0 0 H' (.inl ⟨h0, rfl, rfl⟩) (((s1.trans sc).trans sz).trans s') (s' _ _ upd_same)
      · rw [List.getElem?_map] at hy
        obtain ⟨t, ht, rfl⟩ : ∃ t, ts[i]? = some t ∧ y = .ref t := by
          cases z : ts[i]? with
          | none => rw [z] at hy; cases hy
          | some t => rw [z] at hy; exact ⟨t, rfl, (Option.some.inj hy).symm⟩
        have hi : i < ns.length := by rw [← hl]; exact (List.getElem?_eq_some_iff.mp ht).1
        refine q t i (reach ns i m) H' (.inr ⟨hi, rfl, fun j hj => ?_⟩) (((s1.trans sc).trans sz).trans s') (s' _ _ (sz _ _ (hts i t ht).2))
        have hb := hbest j (by rw [List.length_map, hl]; exact hj)
        dsimp only at hb
        have r1 := reach_le (ns := ns) (f := i) (m := m) (by omega)
        have r2 := reach_le (ns := ns) (f := j) (m := m) (by omega)
        refine ⟨by have := hb.1; omega, fun y => by have := hb.2 y; omega⟩
end
abbrev st_law_stretch_right : Stmt := top 27
section
variable {P : Program} {w : World} {K : PySem.W.Frag} {mg : Str → Option Value} {base : Heap} {C : Addr}
open My
theorem iteY {c A B : Prop} [Decidable c] (hc : c) (h : A) : if decide c = true then A else B := by
  rw [decide_eq_true hc]
  exact iteT h
def spStr27 (K : PySem.W.Frag) (C : Addr) : Sp := fun vs H Q _ => ∃ (p a t : Addr) (ns : List Int) (m f : Nat), vs = [.ref p, .ref a, .int m, .ref t] ∧ RdAt C H p ns ∧ SqL K H a (ns.map V.int) ∧ ns.length ≤ 310 ∧ f < ns.length ∧ HasW ns m f ∧ H t = some (.tup ([(f : Int), (least ns f m : Int), (reach ns f m : Int)].map V.int)) ∧ ∀ H', Same H H' → Q (.bl true) H'
theorem sc_law_stretch_right : FnScope ["ready", "row", "many", "stretch", "first", "least", "last"] ["ready", "row", "many", "stretch"] (defScope st_law_stretch_right) := ⟨rfl, rfl, rfl, by decide +kernel, rfl, by decide +kernel, by decide +kernel⟩
theorem ok_law_stretch_right {f : Addr} {fd : FuncData} (B : Blt mg) (T : RdTxt K C) (F : Fun K "_law_stretch_right" "_law_stretch_right" st_law_stretch_right f fd)
    (hm_unlike : HasM P w K mg base C "unlike" 4 ["self", "first", "behind"] (spRUnlike C)) (hm_end_of : HasM P w K mg base C "end_of" 4 ["self", "first", "many"] (spREnd C)) : FnOk P w K mg base CX0 5 f fd ["ready", "row", "many", "stretch"] (spStr27 K C) := by
  refine F.ok sc_law_stretch_right (fun vs H Q E h => ?_) (fun cdv A outer s H vs Q E hr h => ?_)
  · obtain ⟨p, a, t, ns, m, f, rfl, _⟩ := h
    rfl
  · obtain ⟨p, a, t, ns, m, f, rfl, R, ha, hn, hf, hw, et, q⟩ := h
    have hs : sizeLine = 16777216 := sizeLine_eq
    obtain ⟨h1, h2, h3, h4, h5, h6, h7, h8⟩ := stretch_right hf hw
    have hm := hw.1
    clear hw
    generalize least ns f m = g at *
    generalize reach ns f m = z at *
    refine ⟨_, (pss_cons (ps_asg (pv 3) (pgtK (K := K) (n := 3) rfl rfl (pgs_cons (pg_name (i := 4) sc_law_stretch_right.nd rfl (Or.inl rfl)) (pgs_cons (pg_name (i := 5) sc_law_stretch_right.nd rfl (Or.inl rfl)) (pgs_cons (pg_name (i := 6) sc_law_stretch_right.nd rfl (Or.inl rfl)) pgs_nil)))))
  (pss_cons (ps_if (pt_not (pt_chain4 op_le op_lt op_le op_le pe_int (pv 4) (pv 5) (pv 6) (pe_callB (lenK (K := K) rfl) (by rfl) B.len PySem.boot_len (pa_cons (pv 1) pa_nil))))
  (pss_one (ps_ret pe_bl))
  pss_nil)
  (pss_cons (ps_if (PW.pt (pw_or (pt_cmpR op_ne (pe_methH hm_unlike T.cl (hr.mono (by decide)) (pv 0) (pa_cons (pv 4) (pa_cons (pv 5) pa_nil))) (pv 2) (nomark _)) (pw_or1 (pt_cmpR op_ne (pe_methH hm_unlike T.cl (hr.mono (by decide)) (pv 0) (pa_cons (pv 4) (pa_cons (pe_op op_sub (pv 5) pe_int) pa_nil))) (pe_op op_sub (pv 2) pe_int) (nomark _)))))
  (pss_one (ps_ret pe_bl))
  pss_nil)
  (pss_cons (ps_if (PW.pt (pw_or (pt_cmpR op_ne (pe_methH hm_unlike T.cl (hr.mono (by decide)) (pv 0) (pa_cons (pv 4) (pa_cons (pv 6) pa_nil))) (pv 2) (nomark _)) (pw_or1 (pt_cmpR op_ne (pe_methH hm_end_of T.cl (hr.mono (by decide)) (pv 0) (pa_cons (pv 4) (pa_cons (pv 2) pa_nil))) (pv 5) (nomark _)))))
  (pss_one (ps_ret pe_bl))
  pss_nil)
  (pss_one (ps_ret (pe_or (pe_cmpR op_eq (pv 6) (pe_callB (lenK (K := K) rfl) (by rfl) B.len PySem.boot_len (pa_cons (pv 1) pa_nil)) (nomark _)) (pe_one (pe_cmpR op_eq (pe_methH hm_unlike T.cl (hr.mono (by decide)) (pv 0) (pa_cons (pv 4) (pa_cons (pe_op op_add (pv 6) pe_int) pa_nil))) (pe_op op_add (pv 2) pe_int) (nomark _)))))))))), ?_⟩
    obtain ⟨dx, _, _, ep, _, _⟩ := R.ex
    refine ⟨_, rfl, t, _, rfl, SqT.of et, rfl, _, _, rfl, _, _, rfl, _, _, rfl, rfl, ?_⟩
    refine ⟨_, rfl, _, _, rfl, rfl, _, rfl, iteY (by omega) ⟨_, rfl, _, _, rfl, rfl, _, rfl, iteY (by omega) ⟨_, rfl, _, _, rfl, rfl, _, rfl, iteY (by omega) ⟨_, rfl, a, _, rfl, .inl ha, _, _, rfl, rfl, _, rfl, iteNS (by rw [List.length_map]; omega) ?_⟩⟩⟩⟩
    refine ⟨_, rfl, p, dx, _, rfl, ep, flds_no _ _ (by decide +kernel) (by decide +kernel), _, rfl, _, rfl, p, ns, f, g, rfl, R, by omega, by omega, by omega, fun H1 s1 => ⟨_, rfl, rfl, _, rfl, iteNS (by rw [h4]) ?_⟩⟩
    refine ⟨_, rfl, p, dx, _, rfl, s1 _ _ ep, flds_no _ _ (by decide +kernel) (by decide +kernel), _, rfl, _, rfl, _, _, rfl, rfl, p, ns, f, g - 1, by rw [show ((g - 1 : Nat) : Int) = (g : Int) - 1 by omega]; rfl, R.same s1, by omega, by omega, by omega, fun H2 s2 => ⟨_, rfl, _, _, rfl, rfl, rfl, _, rfl, iteNS (by congr 1; omega) ?_⟩⟩
    have S2 := s1.trans s2
    refine ⟨_, rfl, p, dx, _, rfl, S2 _ _ ep, flds_no _ _ (by decide +kernel) (by decide +kernel), _, rfl, _, rfl, p, ns, f, z, rfl, R.same S2, by omega, by omega, by omega, fun H3 s3 => ⟨_, rfl, rfl, _, rfl, iteNS (by rw [h6]) ?_⟩⟩
    have S3 := S2.trans s3
    refine ⟨_, rfl, p, dx, _, rfl, S3 _ _ ep, flds_no _ _ (by decide +kernel) (by decide +kernel), _, rfl, _, rfl, p, ns, f, m, rfl, R.same S3, by omega, by omega, fun H4 s4 => ⟨_, rfl, by rw [h7]; rfl, _, rfl, iteNS h7 ?_⟩⟩
    have S4 := S3.trans s4
    refine ⟨_, rfl, _, rfl, a, _, rfl, .inl (S4.seq ha), rfl, _, rfl, ?_⟩
    rw [List.length_map]
    rcases h8 with h8 | h8
    · exact iteY (by rw [h8]) (q _ S4)
    · by_cases y : z = ns.length
      · exact iteY (by rw [y]) (q _ S4)
      · rw [decide_eq_false (fun e => y (by injection e with e; omega))]
        refine iteF ⟨_, rfl, p, dx, _, rfl, S4 _ _ ep, flds_no _ _ (by decide +kernel) (by decide +kernel), _, rfl, _, rfl, _, _, rfl, rfl, p, ns, f, z + 1, rfl, R.same S4, by omega, by omega, by omega, fun H5 s5 => ⟨_, rfl, _, _, rfl, rfl, rfl, ?_⟩⟩
        show Q (.bl (decide _)) _
        rw [decide_eq_true (by rw [h8]; rfl)]
        exact q _ (S4.trans s5)
end
abbrev st_law_number_right : Stmt := top 28
section
variable {P : Program} {w : World} {K : PySem.W.Frag} {mg : Str → Option Value} {base : Heap} {C : Addr}
open My
/-- the tuples' numbers, one by one -/
theorem lc_tups_num {K : PySem.W.Frag} {D a : Addr} {ts : List Addr} {xss : List (List Int)} {te : TE} {Q : VK} {cap : St} {H : Hp} (g : List Int → Int) (hn : ts.length < sizeLine) (hD : H D = none) (el : H a = some (.lst (ts.map V.ref))) (ht : TupsAt H ts xss)
    (he : ∀ t xs H', xs ∈ xss → H' t = some (.tup (xs.map V.int)) → Same H H' → ∀ Q' : VK, Q' (.int (g xs)) H' → te (some (.ref t) :: cap) H' Q')
    (hd : ∀ H', Same H H' → H' D = some (.lst ((xss.map g).map V.int)) → Q (.ref D) H') :
    ∃ W : Nat → Nat → St → Hp → Prop, (∃ m, W 0 m (none :: cap) (upd H D (.lst []))) ∧ LcW D (Itl K a) (gName 0) tYes te Q W := by
  refine lc_list (K := K) (a := a) (xs := ts.map V.ref) (fun i σ Hc => ∃ v0, σ = v0 :: cap ∧ Same H Hc ∧ Hc D = some (.lst (((xss.take i).map g).map V.int))) ⟨none, rfl, Same.new hD, upd_same⟩ (fun i σ Hc _ ⟨_, _, sc, _⟩ => SqL.of (sc _ _ el)) ?_ ?_
  · rintro i x σ Hc hx ⟨v0, rfl, sc, eD⟩
    rw [List.getElem?_map] at hx
    obtain ⟨t, h1, rfl⟩ : ∃ t, ts[i]? = some t ∧ x = .ref t := by
      cases z : ts[i]? with
      | none => rw [z] at hx; cases hx
      | some t => rw [z] at hx; exact ⟨t, rfl, (Option.some.inj hx).symm⟩
    have hil : i < xss.length := by rw [← ht.1]; exact (List.getElem?_eq_some_iff.mp h1).1
    have hxs : xss[i]? = some (xss[i]) := List.getElem?_eq_getElem hil
    have et := ht.2 i t _ h1 hxs
    refine he t _ Hc (List.getElem_mem hil) (sc _ _ et) sc _ ⟨_, eD, ?_, _, rfl, fun b o z => by rw [upd_ne (ne_of_none z hD)]; exact sc b o z, ?_⟩
    · have := ht.1
      rw [List.length_map, List.length_map, List.length_take]; omega
    · rw [upd_same, take_snoc hxs, List.map_append, List.map_append]; rfl
  · rintro σ Hc ⟨v0, rfl, sc, eD⟩
    rw [List.length_map, ht.1, List.take_of_length_le (Nat.le_refl _)] at eD
    exact hd Hc sc eD
theorem lc_tups_num3 {K : PySem.W.Frag} {D a : Addr} {ts : List Addr} {xss : List (List Int)} {te : TE} {Q : VK} {cap : St} {H : Hp} (g : List Int → Int) (hn : ts.length < sizeLine) (hD : H D = none) (el : H a = some (.lst (ts.map V.ref))) (ht : TupsAt H ts xss) (h3 : ∀ xs ∈ xss, ∃ x y z, xs = [x, y, z])
    (he : ∀ x y z H', [x, y, z] ∈ xss → ∀ Q' : VK, Q' (.int (g [x, y, z])) H' → te (some (.int x) :: some (.int y) :: some (.int z) :: cap) H' Q')
    (hd : ∀ H', Same H H' → H' D = some (.lst ((xss.map g).map V.int)) → Q (.ref D) H') :
    ∃ W : Nat → Nat → St → Hp → Prop, (∃ m, W 0 m (none :: none :: none :: cap) (upd H D (.lst []))) ∧ LcW D (Itl K a) (gTup K 3 (gCons (gName 0) (gCons (gName 1) (gCons (gName 2) gNil)))) tYes te Q W := by
  refine lc_list (K := K) (a := a) (xs := ts.map V.ref) (fun i σ Hc => ∃ v0 v1 v2, σ = v0 :: v1 :: v2 :: cap ∧ Same H Hc ∧ Hc D = some (.lst (((xss.take i).map g).map V.int))) ⟨none, none, none, rfl, Same.new hD, upd_same⟩ (fun i σ Hc _ ⟨_, _, _, _, sc, _⟩ => SqL.of (sc _ _ el)) ?_ ?_
  · rintro i x σ Hc hx ⟨v0, v1, v2, rfl, sc, eD⟩
    rw [List.getElem?_map] at hx
    obtain ⟨t, h1, rfl⟩ : ∃ t, ts[i]? = some t ∧ x = .ref t := by
      cases z : ts[i]? with
      | none => rw [z] at hx; cases hx
      | some t => rw [z] at hx; exact ⟨t, rfl, (Option.some.inj hx).symm⟩
    have hil : i < xss.length := by rw [← ht.1]; exact (List.getElem?_eq_some_iff.mp h1).1
    have hxs : xss[i]? = some xss[i] := List.getElem?_eq_getElem hil
    generalize xss[i] = xs at hxs
    obtain ⟨x0, x1, x2, rfl⟩ := h3 xs (List.mem_of_getElem? hxs)
    have et := ht.2 i t _ h1 hxs
    refine ⟨t, _, rfl, SqT.of (sc _ _ et), rfl, _, _, rfl, _, _, rfl, _, _, rfl, rfl, ?_⟩
    refine he x0 x1 x2 Hc (List.mem_of_getElem? hxs) _ ⟨_, eD, ?_, _, _, _, rfl, fun b o z => by rw [upd_ne (ne_of_none z hD)]; exact sc b o z, ?_⟩
    · have := ht.1
      rw [List.length_map, List.length_map, List.length_take]; omega
    · rw [upd_same, take_snoc hxs, List.map_append, List.map_append]; rfl
  · rintro σ Hc ⟨v0, v1, v2, rfl, sc, eD⟩
    rw [List.length_map, ht.1, List.take_of_length_le (Nat.le_refl _)] at eD
    exact hd Hc sc eD
theorem firsts_fl (ns : List Int) (m : Nat) : ((stretchM ns m).map fun t => t.getD 0 0) = (fl ns m).map fun (f : Nat) => (f : Int) := by
  rw [stretch_fl, List.map_map]; rfl
theorem firsts_one {ns ms : List Int} {m : Nat} (hp : ms.Perm (dd ((fl ns m).map fun (f : Nat) => (f : Int)))) (hs : ms.Pairwise (· ≤ ·)) : ((fl ns m).map fun (f : Nat) => (f : Int)) = ms := by
  have h1 : ((fl ns m).map fun (f : Nat) => (f : Int)).Pairwise (· < ·) := List.pairwise_map.mpr ((fl_sorted ns m).imp fun {a b} h => by omega)
  have h2 : ((fl ns m).map fun (f : Nat) => (f : Int)).Nodup := h1.imp fun {a b} h => by omega
  rw [dd_id h2] at hp
  exact sorted_one hp.symm (h1.imp fun {a b} h => by omega) hs
theorem str_fl {ns : List Int} {m : Nat} {xs : List Int} (h : xs ∈ stretchM ns m) : ∃ f : Nat, f < ns.length ∧ HasW ns m f ∧ xs = [(f : Int), (least ns f m : Int), (reach ns f m : Int)] := by
  rw [stretch_fl] at h
  obtain ⟨f, hf, rfl⟩ := List.mem_map.mp h
  exact ⟨f, (fl_mem.mp hf).1, (fl_mem.mp hf).2, rfl⟩
theorem fl_str {ns : List Int} {m f : Nat} (h1 : f < ns.length) (h2 : HasW ns m f) : [(f : Int), (least ns f m : Int), (reach ns f m : Int)] ∈ stretchM ns m := by
  rw [stretch_fl]
  exact List.mem_map.mpr ⟨f, fl_mem.mpr ⟨h1, h2⟩, rfl⟩
theorem in_fl {ns : List Int} {m f : Nat} : inV (.int ((0 : Int) + (f : Int))) (((fl ns m).map fun (f : Nat) => (f : Int)).map V.int) = decide (f ∈ fl ns m) := by
  rw [inV_mem, Int.zero_add]
  congr 1
  refine propext ⟨fun h => ?_, fun h => List.mem_map.mpr ⟨f, h, rfl⟩⟩
  obtain ⟨g, hg, e⟩ := List.mem_map.mp h
  have : g = f := by omega
  rw [← this]; exact hg
def spNum27 (K : PySem.W.Frag) (C : Addr) : Sp := fun vs H Q _ => ∃ (p a : Addr) (ns : List Int) (m : Nat), vs = [.ref p, .ref a, .int m, .int (countAt ns ns.length m)] ∧ RdAt C H p ns ∧ SqL K H a (ns.map V.int) ∧ ns.length ≤ 310 ∧ ∀ H', Same H H' → Q (.bl true) H'
theorem sc_law_number_right : FnScope ["ready", "row", "many", "entry", "told", "firsts", "first", "due", "wide", "small"] ["ready", "row", "many", "entry"] (defScope st_law_number_right) := ⟨rfl, rfl, rfl, by decide +kernel, rfl, by decide +kernel, by decide +kernel⟩
theorem ok_law_number_right {f : Addr} {fd : FuncData} (B : Blt mg) (T : RdTxt K C) (F : Fun K "_law_number_right" "_law_number_right" st_law_number_right f fd)
    (hm_end_of : HasM P w K mg base C "end_of" 4 ["self", "first", "many"] (spREnd C)) (hstretches : Has P w K mg base "stretches" 6 ["row", "many"] (spStretch K)) (hhow_many : Has P w K mg base "how_many" 7 ["row", "many"] (spMany K)) (hlongest : Has P w K mg base "longest" 7 ["row", "many"] (spLongest K)) (hshortest : Has P w K mg base "shortest" 7 ["row", "many"] (spShortest K))
    (h_law_stretch_right : Has P w K mg base "_law_stretch_right" 5 ["ready", "row", "many", "stretch"] (spStr27 K C)) : FnOk P w K mg base CX0 8 f fd ["ready", "row", "many", "entry"] (spNum27 K C) := by
  refine F.ok sc_law_number_right (fun vs H Q E h => ?_) (fun cdv A outer s H vs Q E hr h => ?_)
  · obtain ⟨p, a, ns, m, rfl, _⟩ := h
    rfl
  · obtain ⟨p, a, ns, m, rfl, R, ha, hn, q⟩ := h
    have hu := hr.units0
    have hu1 := hu_of hr
    have hs : sizeLine = 16777216 := sizeLine_eq
    refine ⟨_, (pss_cons (ps_set (i := 4) sc_law_number_right.nd rfl (Or.inl rfl) (pe_callH hstretches (hr.mono (by decide)) (by rfl) (pa_cons (pv 1) (pa_cons (pv 2) pa_nil))))
  (pss_cons (ps_if (pt_cmpR (neLK (K := K) rfl hu) (pe_lc (own := ["one"]) (ix := [0, 1, 2]) (N := ["one", "ready", "row", "many"]) rfl (LcOk.of (by rfl)) (piK (K := K) rfl (pv 4)) (fun _ _ _ _ _ => (pg_name (i := 0) (show (["one", "ready", "row", "many"] : List Str).Nodup by decide +kernel) rfl (by first | exact Or.inl rfl | exact Or.inr rfl))) (fun _ _ _ _ _ => (pts_one (pt_not (pt_val (pe_callH h_law_stretch_right (hr.mono (by decide)) (by rfl) (pa_cons (pv 1) (pa_cons (pv 2) (pa_cons (pv 3) (pa_cons (pv 0) pa_nil))))))))) (fun _ _ _ _ _ => (pv 0))) (pe_lst pa_nil) (nomark _))
  (pss_one (ps_ret pe_bl))
  pss_nil)
  (pss_cons (ps_setLc (i := 5) (own := ["one"]) (ix := []) (N := ["one"]) rfl sc_law_number_right.nd rfl rfl (LcOk.of (by rfl)) (piK (K := K) rfl (pv 4)) (fun _ _ _ _ _ => (pg_name (i := 0) (show (["one"] : List Str).Nodup by decide +kernel) rfl (by first | exact Or.inl rfl | exact Or.inr rfl))) (fun _ _ _ _ _ => pts_nil) (fun _ _ _ _ _ => (pe_ix (ixTK (K := K) rfl) (pv 0) pe_int (fun _ _ => rfl))))
  (pss_cons (ps_if (pt_cmpR (neLK (K := K) rfl hu) (pv 5) (pe_sortSet (K := K) rfl rfl (by rfl) B.sorted (by rfl) B.set (pa_cons (pv 5) pa_nil)) (nomark _))
  (pss_one (ps_ret pe_bl))
  pss_nil)
  (pss_cons (ps_for PassesOwn.never rfl (pi_range1 (by rfl) B.range (pa_cons (pe_callB (lenK (K := K) rfl) (by rfl) B.len PySem.boot_len (pa_cons (pv 1) pa_nil)) pa_nil)) (pg_name (i := 6) sc_law_number_right.nd rfl (Or.inl rfl))
  (pss_one (ps_if (PW.pt (pw_and (pt_cmpR op_gt (pv 2) pe_int (nomark _)) (pw_and1 (pt_cmpR op_ne (pe_cmpR op_isN (pe_methH hm_end_of T.cl (hr.mono (by decide)) (pv 0) (pa_cons (pv 6) (pa_cons (pv 2) pa_nil))) pe_non (nomark _)) (pe_cmpR (ninLK (K := K) rfl) (pv 6) (pv 5) rfl) (nomark _)))))
  (pss_one (ps_ret pe_bl))
  pss_nil)))
  (pss_cons (ps_set (i := 7) sc_law_number_right.nd rfl (Or.inl rfl) (pe_callB (sumK (K := K) rfl rfl) (by rfl) B.sum boot_sum' (pa_cons (pe_lc (own := ["first", "least", "last"]) (ix := []) (N := ["first", "least", "last"]) rfl (LcOk.of (by rfl)) (piK (K := K) rfl (pv 4)) (fun _ _ _ _ _ => (pgtK (K := K) (n := 3) rfl rfl (pgs_cons (pg_name (i := 0) (show (["first", "least", "last"] : List Str).Nodup by decide +kernel) rfl (by first | exact Or.inl rfl | exact Or.inr rfl)) (pgs_cons (pg_name (i := 1) (show (["first", "least", "last"] : List Str).Nodup by decide +kernel) rfl (by first | exact Or.inl rfl | exact Or.inr rfl)) (pgs_cons (pg_name (i := 2) (show (["first", "least", "last"] : List Str).Nodup by decide +kernel) rfl (by first | exact Or.inl rfl | exact Or.inr rfl)) pgs_nil))))) (fun _ _ _ _ _ => pts_nil) (fun _ _ _ _ _ => (pe_op op_add (pe_op op_sub (pv 2) (pv 1)) pe_int))) pa_nil)))
  (pss_cons (ps_if (PW.pt (pw_or (pt_cmpR op_ne (pe_callH hhow_many (hr.mono (by decide)) (by rfl) (pa_cons (pv 1) (pa_cons (pv 2) pa_nil))) (pv 7) (nomark _)) (pw_or1 (pt_cmpR op_ne (pv 7) (pv 3) (nomark _)))))
  (pss_one (ps_ret pe_bl))
  pss_nil)
  (pss_cons (ps_if (pt_cmpR (op_eqLT (K := K) rfl hu1) (pv 4) (pe_lst pa_nil) (nomark _))
  (pss_one (ps_ret (pe_and (pe_cmpR op_isN (pe_callH hlongest (hr.mono (by decide)) (by rfl) (pa_cons (pv 1) (pa_cons (pv 2) pa_nil))) pe_non (nomark _)) (pe_one (pe_cmpR op_isN (pe_callH hshortest (hr.mono (by decide)) (by rfl) (pa_cons (pv 1) (pa_cons (pv 2) pa_nil))) pe_non (nomark _))))))
  pss_nil)
  (pss_cons (ps_set (i := 8) sc_law_number_right.nd rfl (Or.inl rfl) (pe_callH hlongest (hr.mono (by decide)) (by rfl) (pa_cons (pv 1) (pa_cons (pv 2) pa_nil))))
  (pss_cons (ps_set (i := 9) sc_law_number_right.nd rfl (Or.inl rfl) (pe_callH hshortest (hr.mono (by decide)) (by rfl) (pa_cons (pv 1) (pa_cons (pv 2) pa_nil))))
  (pss_cons (ps_if (pt_cmpR (op_ninT (K := K) rfl hu1) (pv 8) (pe_lc (own := ["first", "least", "last"]) (ix := []) (N := ["first", "least", "last"]) rfl (LcOk.of (by rfl)) (piK (K := K) rfl (pv 4)) (fun _ _ _ _ _ => (pgtK (K := K) (n := 3) rfl rfl (pgs_cons (pg_name (i := 0) (show (["first", "least", "last"] : List Str).Nodup by decide +kernel) rfl (by first | exact Or.inl rfl | exact Or.inr rfl)) (pgs_cons (pg_name (i := 1) (show (["first", "least", "last"] : List Str).Nodup by decide +kernel) rfl (by first | exact Or.inl rfl | exact Or.inr rfl)) (pgs_cons (pg_name (i := 2) (show (["first", "least", "last"] : List Str).Nodup by decide +kernel) rfl (by first | exact Or.inl rfl | exact Or.inr rfl)) pgs_nil))))) (fun _ _ _ _ _ => pts_nil) (fun _ _ _ _ _ => (pe_tup (pa_cons (pv 0) (pa_cons (pv 2) pa_nil))))) rfl)
  (pss_one (ps_ret pe_bl))
  pss_nil)
  (pss_one (ps_ret (pe_cmpR (op_inT (K := K) rfl hu1) (pv 9) (pe_lc (own := ["first", "least", "last"]) (ix := []) (N := ["first", "least", "last"]) rfl (LcOk.of (by rfl)) (piK (K := K) rfl (pv 4)) (fun _ _ _ _ _ => (pgtK (K := K) (n := 3) rfl rfl (pgs_cons (pg_name (i := 0) (show (["first", "least", "last"] : List Str).Nodup by decide +kernel) rfl (by first | exact Or.inl rfl | exact Or.inr rfl)) (pgs_cons (pg_name (i := 1) (show (["first", "least", "last"] : List Str).Nodup by decide +kernel) rfl (by first | exact Or.inl rfl | exact Or.inr rfl)) (pgs_cons (pg_name (i := 2) (show (["first", "least", "last"] : List Str).Nodup by decide +kernel) rfl (by first | exact Or.inl rfl | exact Or.inr rfl)) pgs_nil))))) (fun _ _ _ _ _ => pts_nil) (fun _ _ _ _ _ => (pe_tup (pa_cons (pv 0) (pa_cons (pv 1) pa_nil))))) rfl)))))))))))))), ?_⟩
    obtain ⟨dx, _, _, ep, _, _⟩ := R.ex
    refine ⟨_, rfl, _, rfl, a, ns, m, rfl, ha, by omega, fun l ts H1 n1 _ s1 e1 t1 => ?_⟩
    have hts : ts.length ≤ 400 := by rw [t1.1]; have := stretch_le ns m; omega
    -- all of them right
    refine ⟨_, rfl, l, rfl, ⟨_, SqL.of e1⟩, fun D hD => ?_⟩
    refine lc_tups_filter (cap := [some (.ref p), some (.ref a), some (.int (m : Int))]) (fun _ => false) (small1000 (by omega)) hD e1 t1 (fun t xs H' hx et s' Q' kk => ?_) (fun H2 us s2 e2 t2 => ?_)
    · obtain ⟨f, hf, hw, rfl⟩ := str_fl hx
      exact ⟨_, rfl, _, rfl, _, rfl, _, rfl, p, a, t, ns, m, f, rfl, R.same (s1.trans s'), (s1.trans s').seq ha, hn, hf, hw, et, fun H'' s'' => ⟨_, rfl, kk H'' s''⟩⟩
    have us0 : us = [] := by
      have := t2.1
      rw [List.filter_eq_nil_iff.mpr (fun _ _ => by simp)] at this
      exact List.length_eq_zero_iff.mp this
    subst us0
    refine ⟨by show 0 ≤ sizeLine; omega, fun e0 n0 => ?_⟩
    have s3 := Same.new (o := .lst []) n0
    refine neI (ns := []) (ms := []) (SqL.of (s3 _ _ e2)) (SqL.of upd_same) ⟨_, rfl, iteNS rfl ?_⟩
    have S3 := (s1.trans s2).trans s3
    have e3 := (s2.trans s3) _ _ e1
    have t3 := t1.same (s2.trans s3)
    generalize upd H2 e0 (.lst []) = H3 at S3 e3 t3 ⊢
    clear e2 t2 s3 n0 hD s2 s1 e1 t1 n1
    -- firsts
    refine ⟨_, rfl, l, rfl, ⟨_, SqL.of e3⟩, fun D2 hD2 => ?_⟩
    refine lc_tups_num (cap := []) (fun t => t.getD 0 0) (small1000 (by omega)) hD2 e3 t3 (fun t xs H' hx et s' Q' kk => ?_) (fun H4 s4 e4 => ?_)
    · obtain ⟨x0, x1, x2, rfl⟩ := stretch3 hx
      exact ⟨_, rfl, t, _, _, _, rfl, rfl, SqT.of et, atV (i := 0) rfl, kk⟩
    rw [firsts_fl] at e4
    have S4 := S3.trans s4
    have hfl : (fl ns m).length ≤ 400 := by
      have := t3.1
      rw [stretch_fl, List.length_map] at this
      omega
    refine ⟨_, rfl, _, rfl, D2, _, rfl, SqL.of e4, by rw [List.length_map]; omega, fun l5 ms H5 n5 s5 e5 hp hs5 => neI (SqL.of (s5 _ _ e4)) (SqL.of e5) ⟨_, rfl, iteNS (firsts_one hp hs5) ?_⟩⟩
    have S5 := S4.trans s5
    have e45 := s5 _ _ e4
    have e35 := (s4.trans s5) _ _ e3
    have t35 := t3.same (s4.trans s5)
    clear e5 hp hs5 n5 s5 e4 s4 hD2 S4 e3 t3 S3
    -- first places
    refine ⟨_, rfl, a, _, rfl, .inl (S5.seq ha), ?_⟩
    rw [List.length_map]
    refine ⟨_, rfl, by omega, by omega, ?_⟩
    refine for_range (fun k σ Hc => ∃ v6 : Option V, σ = [some (.ref p), some (.ref a), some (.int (m : Int)), some (.int (countAt ns ns.length m)), some (.ref l), some (.ref D2), v6, none, none, none] ∧ Same H5 Hc) ⟨none, rfl, Same.refl _⟩ ?_ ?_
    · rintro k σ Hc hk ⟨v6, rfl, sc⟩
      have hk' : k < ns.length := by omega
      refine ⟨_, rfl, _, _, rfl, rfl, _, rfl, ?_⟩
      by_cases hm : 0 < m
      · refine iteY (by omega) ?_
        have S6 := S5.trans sc
        refine ⟨_, rfl, p, dx, _, rfl, S6 _ _ ep, flds_no _ _ (by decide +kernel) (by decide +kernel), _, rfl, _, rfl, p, ns, k, m, by rw [Int.zero_add]; rfl, R.same S6, by omega, by omega, fun H7 s7 => ⟨rfl, ?_⟩⟩
        refine ⟨_, rfl, _, rfl, D2, _, rfl, .inl (SqL.of ((sc.trans s7) _ _ e45)), rfl, flat_ints _, ?_⟩
        refine ⟨rfl, _, rfl, iteNS ?_ ⟨_, rfl, sc.trans s7⟩⟩
        rw [in_fl]
        show V.bl (decide _) = V.bl (!decide _)
        by_cases z : k ∈ fl ns m
        · rw [decide_eq_true z, decide_eq_false (fun e => (end_iff hk' hm).mp e z)]; rfl
        · rw [decide_eq_false z, decide_eq_true ((end_iff hk' hm).mpr z)]; rfl
      · rw [decide_eq_false (by omega)]
        exact iteF (iteF ⟨_, rfl, sc⟩)
    rintro σ Hc ⟨v6, rfl, sc⟩
    have S6 := S5.trans sc
    have e36 := sc _ _ e35
    have t36 := t35.same sc
    clear e45 e35 t35 sc S5
    -- due
    refine ⟨_, rfl, l, rfl, ⟨_, SqL.of e36⟩, fun D3 hD3 => ?_⟩
    refine lc_tups_num3 (cap := []) (fun t => t.getD 2 0 - t.getD 1 0 + 1) (small1000 (by omega)) hD3 e36 t36 (fun xs hx => stretch3 hx) (fun x0 x1 x2 H' hx Q' kk => ⟨_, rfl, _, rfl, _, _, rfl, rfl, _, _, rfl, rfl, kk⟩) (fun H7 s7 e7 => ⟨D3, _, rfl, SqL.of e7, ?_⟩)
    rw [many_sum]
    have S7 := S6.trans s7
    have e37 := s7 _ _ e36
    have t37 := t36.same s7
    clear e36 t36 s7 e7 hD3 S6
    refine ⟨_, rfl, _, rfl, a, ns, m, rfl, S7.seq ha, by omega, fun H8 s8 => ⟨_, rfl, rfl, _, rfl, iteNS rfl ⟨_, rfl, _, rfl, rfl, _, rfl, iteNS rfl ?_⟩⟩⟩
    -- none told
    refine ⟨_, rfl, by show 0 ≤ sizeLine; omega, fun e0 n0 => ?_⟩
    have s9 := s8.trans (Same.new (o := .lst []) n0)
    have S9 := S7.trans s9
    have e39 := s9 _ _ e37
    have t39 := t37.same s9
    have e0' : upd H8 e0 (.lst []) e0 = some (.lst []) := upd_same
    generalize upd H8 e0 (.lst []) = H9 at s9 S9 e39 t39 e0' ⊢
    clear s8 n0 e37 t37 S7 s9
    refine ⟨l, e0, ts, [], _, [], rfl, rfl, SqL.of e39, SqL.of e0', t39, ⟨rfl, fun i t xs h _ => by simp at h⟩, _, rfl, ?_⟩
    show if decide (stretchM ns m = []) = true then _ else _
    by_cases z : stretchM ns m = []
    · refine iteY z ?_
      have none_of : ∀ j, j < ns.length → ¬ HasW ns m j := fun j hj h => by have := fl_str hj h; rw [z] at this; simp at this
      refine ⟨_, rfl, _, rfl, a, ns, m, rfl, S9.seq ha, by omega, fun v o H10 hL s10 ov => ⟨rfl, _, rfl, ?_⟩⟩
      cases o with
      | some o => exact absurd hL.2.1 (none_of _ hL.1)
      | none =>
        cases ov
        refine iteY rfl ⟨_, rfl, _, rfl, a, ns, m, rfl, (S9.trans s10).seq ha, by omega, fun v o H11 hL s11 ov => ⟨rfl, ?_⟩⟩
        cases o with
        | some o => exact absurd hL.2.1 (none_of _ hL.1)
        | none =>
          cases ov
          exact q _ ((S9.trans s10).trans s11)
    rw [decide_eq_false z]
    refine iteF ?_
    have some_of : ∃ j, j < ns.length ∧ HasW ns m j := by
      cases y : stretchM ns m with
      | nil => exact absurd y z
      | cons x xs =>
        obtain ⟨f, h1, h2, _⟩ := str_fl (ns := ns) (m := m) (xs := x) (by rw [y]; exact List.mem_cons_self)
        exact ⟨f, h1, h2⟩
    refine ⟨_, rfl, _, rfl, a, ns, m, rfl, S9.seq ha, by omega, fun v o H10 hL s10 ov => ?_⟩
    cases o with
    | none => obtain ⟨j, h1, h2⟩ := some_of; exact absurd h2 (hL j h1)
    | some o =>
    refine ⟨_, rfl, _, rfl, a, ns, m, rfl, (S9.trans s10).seq ha, by omega, fun v2 o2 H11 hL2 s11 ov2 => ?_⟩
    cases o2 with
    | none => obtain ⟨j, h1, h2⟩ := some_of; exact absurd h2 (hL2 j h1)
    | some o2 =>
    obtain ⟨w1, rfl, ew1⟩ := ov
    obtain ⟨w2, rfl, ew2⟩ := ov2
    have s12 := s10.trans s11
    have e311 := s12 _ _ e39
    have t311 := t39.same s12
    refine ⟨_, rfl, _, rfl, l, rfl, ⟨_, SqL.of e311⟩, fun D4 hD4 => ?_⟩
    refine lc_tups_map (cap := []) (fun t => [t.getD 0 0, t.getD 2 0]) (small1000 (by omega)) hD4 e311 t311 (fun xs hx => stretch3 hx) (fun x0 x1 x2 H' hx s' Q' kk => ?_) (fun H13 us s13 e13 k13 => ?_)
    · exact ⟨_, rfl, _, rfl, by show 2 ≤ sizeLine; decide, fun t nt => kk t _ nt (Same.new nt) upd_same⟩
    refine ⟨w1, D4, [(o.1 : Int), (o.2 : Int)], us, _, rfl, rfl, (s11.trans s13) _ _ ew1, SqL.of e13, k13, List.mem_map.mpr ⟨_, fl_str hL.1 hL.2.1, by rw [hL.2.2.1]; rfl⟩, _, rfl, iteF ?_⟩
    have e313 := s13 _ _ e311
    have t313 := t311.same s13
    refine ⟨_, rfl, _, rfl, l, rfl, ⟨_, SqL.of e313⟩, fun D5 hD5 => ?_⟩
    refine lc_tups_map (cap := []) (fun t => [t.getD 0 0, t.getD 1 0]) (small1000 (by omega)) hD5 e313 t313 (fun xs hx => stretch3 hx) (fun x0 x1 x2 H' hx s' Q' kk => ?_) (fun H14 us2 s14 e14 k14 => ?_)
    · exact ⟨_, rfl, _, rfl, by show 2 ≤ sizeLine; decide, fun t nt => kk t _ nt (Same.new nt) upd_same⟩
    exact ⟨w2, D5, [(o2.1 : Int), (o2.2 : Int)], us2, _, rfl, rfl, (s13.trans s14) _ _ ew2, SqL.of e14, k14, List.mem_map.mpr ⟨_, fl_str hL2.1 hL2.2.1, by rw [hL2.2.2.1]; rfl⟩, q _ ((S9.trans s12).trans (s13.trans s14))⟩
end
abbrev st_law_within_right : Stmt := top 29
section
variable {P : Program} {w : World} {K : PySem.W.Frag} {mg : Str → Option Value} {base : Heap}
open My
/-- the key that a loop's second statement hands on -/
def lamK : Stmt → Expr
  | .For _ _ [_, .If _ [.Assign _ (.Call _ _ [⟨_, e, _⟩] _) _] _ _] _ _ => e
  | _ => .Constant .none 0 ⟨0, 0, 0, 0⟩
abbrev lamW : Expr := lamK ((defBody st_law_within_right).getD 1 (.Pass ⟨0, 0, 0, 0⟩))
abbrev lamQ : Str := "_law_within_right" ++ ".<locals>." ++ "<lambda>"
def spKey : Sp := fun vs H Q _ => ∃ (t : Addr) (x y : Int), vs = [.ref t] ∧ H t = some (.tup [.int x, .int y]) ∧ ∀ l, H l = none → Q (.ref l) (upd H l (.tup [.int (x - y), .int x]))
theorem ok_lamW {f c' : Addr} {pm ct : Value} : FnOk P w K mg base CX0 1 f (lamFd lamQ (lamArgs lamW) (lamBody lamW) (lamScope lamW) [] pm c' ct) ["window"] (fun vs H Q E => FnAt H f (lamFd lamQ (lamArgs lamW) (lamBody lamW) (lamScope lamW) [] pm c' ct) ∧ CdAt H c' lamQ ∧ spKey vs H Q E) :=
  fn_lamE (k := 0) (N := ["window"]) ⟨rfl, rfl, rfl, by decide +kernel, rfl, by decide +kernel, by decide +kernel⟩ (fun vs H Q E ⟨t, x, y, e, _⟩ => by rw [e]; rfl) fun A outer s H vs Q E hr ⟨t, x, y, e, et, q⟩ => by
    subst e
    refine ⟨_, pe_tup (pa_cons (pe_op op_sub (pe_ix (ixTK (K := K) rfl) (pv 0) pe_int (fun _ _ => rfl)) (pe_ix (ixTK (K := K) rfl) (pv 0) pe_int (fun _ _ => rfl))) (pa_cons (pe_ix (ixTK (K := K) rfl) (pv 0) pe_int (fun _ _ => rfl)) pa_nil)), ?_⟩
    exact ⟨_, rfl, t, _, _, _, rfl, rfl, SqT.of et, atV (i := 0) rfl, _, rfl, t, _, _, _, rfl, rfl, SqT.of et, atV (i := 1) rfl, _, _, rfl, rfl, _, rfl, t, _, _, _, rfl, rfl, SqT.of et, atV (i := 0) rfl, by show 2 ≤ sizeLine; decide, fun l nl => q l nl⟩
theorem lamW_binds {pm ct : Value} {c' : Addr} : Binds K (lamFd lamQ (lamArgs lamW) (lamBody lamW) (lamScope lamW) [] pm c' ct) ["window"] [] := Binds.all fun us hl => match us, hl with | [u], _ => rfl
theorem lamH_at {H : Hp} {T c' f b : Addr} {ps : Array Value} {pos : Pos} {q : Str} {fd : FuncData} {o : HO} (hf : H f = none) (hc : H c' = none) (nb : b ≠ T) (e : H b = some o) : lamH H T ps pos c' f q fd b = some o := by
  unfold lamH
  rw [upd_ne (ne_of_none e hf), upd_ne (ne_of_none e hc), upd_ne nb]; exact e
theorem lamH_T {H : Hp} {T c' f : Addr} {ps : Array Value} {pos : Pos} {q : Str} {fd : FuncData} (hT : H T = some (.tbl ps)) (hf : H f = none) (hc : H c' = none) : lamH H T ps pos c' f q fd T = some (.tbl (tblWith ps pos c')) := by
  unfold lamH
  rw [upd_ne (ne_of_none hT hf), upd_ne (ne_of_none hT hc), upd_same]
theorem lamH_f {H : Hp} {T c' f : Addr} {ps : Array Value} {pos : Pos} {q : Str} {fd : FuncData} : FnAt (lamH H T ps pos c' f q fd) f fd := upd_same
theorem lamH_c {H : Hp} {T c' f : Addr} {ps : Array Value} {pos : Pos} {q : Str} {fd : FuncData} (n : f ≠ c') : CdAt (lamH H T ps pos c' f q fd) c' q := by
  unfold CdAt lamH
  rw [upd_ne n.symm, upd_same]
/-- the code's table, before and after the first lambda -/
def TabW (H : Hp) (T : Addr) : Prop := H T = some (.tbl #[]) ∨ ∃ c', H T = some (.tbl (tblWith #[] (lamPos lamW) c')) ∧ CdAt H c' lamQ
theorem TabW.same {H H' : Hp} {T : Addr} (h : TabW H T) (s : Same H H') : TabW H' T := h.imp (fun e => s _ _ e) fun ⟨c', e, d⟩ => ⟨c', s _ _ e, s _ _ d⟩
theorem TabW.ne {H : Hp} {T a : Addr} {o : HO} (h : TabW H T) (e : H a = some o) (ho : ∀ ps, o ≠ .tbl ps) : a ≠ T := fun z => by
  rw [z] at e
  rcases h with h | ⟨c', h, _⟩ <;> rw [e] at h <;> exact ho _ (Option.some.inj h)
def spWin27 (T : Addr) : Sp := fun vs H Q _ => ∃ (a : Addr) (ns : List Int) (m : Nat), vs = [.ref a, .int m] ∧ H a = some (.lst (ns.map V.int)) ∧ ns.length ≤ 310 ∧ m ≤ 20 ∧ H T = some (.tbl #[]) ∧ ∀ H', Q (.bl true) H'
theorem sc_law_within_right : FnScope ["row", "many", "best", "number", "one"] ["row", "many"] (defScope st_law_within_right) := ⟨rfl, rfl, rfl, by decide +kernel, rfl, by decide +kernel, by decide +kernel⟩
theorem ok_law_within_right {f c T : Addr} {oc kV dc pm ct : Value} {od an : Option Addr} {sl : Array (Option Value)} (B : Blt mg) (LT : LamTxt K mg base c T) (lk : K.lookup f = some ⟨oc, od, .func (PySem.W.fnOf "_law_within_right" "_law_within_right" (defArgs st_law_within_right) (defBody st_law_within_right) (defScope st_law_within_right) .none kV dc pm an (.ref c) ct), sl⟩) (hcd : PySem.W.codeIn K (.ref c) "_law_within_right" = true)
    (hlongest : Has P w K mg base "longest" 7 ["row", "many"] (spLongest K)) (hlongest_within : Has P w K mg base "longest_within" 6 ["row", "many"] (spWithin K)) :
    FnOk P w K mg base CX0 8 f (PySem.W.fnOf "_law_within_right" "_law_within_right" (defArgs st_law_within_right) (defBody st_law_within_right) (defScope st_law_within_right) .none kV dc pm an (.ref c) ct) ["row", "many"] (spWin27 T) := by
  refine fn_of lk hcd sc_law_within_right (fun vs H Q E h => ?_) fun A outer s H vs Q E hr h => ?_
  · obtain ⟨a, ns, m, rfl, _⟩ := h
    rfl
  · obtain ⟨a, ns, m, rfl, ea, hn, hm, hT, q⟩ := h
    have hu := hr.units0
    have hu1 := hu_of hr
    have hs : sizeLine = 16777216 := sizeLine_eq
    suffices h2 : ∃ t, PSs (cxOf CX0 P w K mg base ["row", "many", "best", "number", "one"] "_law_within_right" (defScope st_law_within_right) f (.ref c) A outer s H E).nox (defBody st_law_within_right) t ∧ t { nx := fun _ H' => Q .non H', rt := Q } (L2.start ["row", "many", "best", "number", "one"] [.ref a, .int m]) H from let ⟨t, h, q⟩ := h2; ⟨t, h.nox, q⟩
    refine ⟨_, (pss_cons (ps_set (i := 2) sc_law_within_right.nd rfl (Or.inl rfl) (pe_tup (pa_cons pe_int (pa_cons pe_int pa_nil))))
  (pss_cons (ps_for PassesOwn.never rfl (pi_range1 (by rfl) B.range (pa_cons (pe_op op_add (pv 1) pe_int) pa_nil)) (pg_name (i := 3) sc_law_within_right.nd rfl (Or.inl rfl))
  (pss_cons (ps_set (i := 4) sc_law_within_right.nd rfl (Or.inl rfl) (pe_callH hlongest (hr.mono (by decide)) (by rfl) (pa_cons (pv 0) (pa_cons (pv 3) pa_nil))))
  (pss_one (ps_if (pt_cmpR op_notN (pv 4) pe_non (nomark _))
  (pss_one (ps_set (i := 2) sc_law_within_right.nd rfl (Or.inl rfl) (pe_min2L (k := 1) rfl hu1 (hr.mono (by decide)) (by rfl) B.min (pv 2) (pv 4) (pe_lam2 LT rfl rfl rfl))))
  pss_nil))))
  (pss_one (ps_ret (pe_cmpR (op_eqT (K := K) rfl hu) (pe_callH hlongest_within (hr.mono (by decide)) (by rfl) (pa_cons (pv 0) (pa_cons (pv 1) pa_nil))) (pv 2) (nomark _)))))), ?_⟩
    refine ⟨by show 2 ≤ sizeLine; decide, fun b0 n0 => ?_⟩
    have s0 := Same.new (o := .tup [V.int 0, V.int 0]) n0
    have e0 : upd H b0 (.tup [V.int 0, V.int 0]) b0 = some (.tup [V.int ((0 : Nat) : Int), V.int ((0 : Nat) : Int)]) := upd_same
    have ea := s0 _ _ ea
    have hT := s0 _ _ hT
    generalize upd H b0 (.tup [V.int 0, V.int 0]) = H0 at e0 ea hT ⊢
    clear s0 n0
    refine ⟨_, rfl, _, _, rfl, rfl, _, rfl, by omega, by omega, ?_⟩
    refine for_range (fun k σ Hc => ∃ (v3 v4 : Option V) (tb : Addr) (b : Nat × Nat), σ = [some (.ref a), some (.int (m : Int)), some (.ref tb), v3, v4] ∧ Hc a = some (.lst (ns.map V.int)) ∧ Hc tb = some (.tup [.int (b.1 : Int), .int (b.2 : Int)]) ∧ BestL ns k b ∧ TabW Hc T) ⟨none, none, b0, (0, 0), rfl, ea, e0, BestL.zero ns, .inl hT⟩ ?_ ?_
    · rintro k σ Hc hk ⟨v3, v4, tb, b, rfl, ea, eb, hb, hW⟩
      refine ⟨_, rfl, _, rfl, a, ns, k, by rw [Int.zero_add]; rfl, SqL.of ea, by omega, fun v o H1 hL s1 ov => ?_⟩
      refine ⟨_, rfl, rfl, _, rfl, ?_⟩
      cases o with
      | none =>
        cases ov
        exact iteF ⟨_, _, tb, b, rfl, s1 _ _ ea, s1 _ _ eb, hb.none hL, hW.same s1⟩
      | some o =>
        obtain ⟨t1, rfl, e1⟩ := ov
        refine iteT ?_
        have ea1 := s1 _ _ ea
        have eb1 := s1 _ _ eb
        have hW1 := hW.same s1
        have naT := hW1.ne ea1 fun ps z => by cases z
        have nbT := hW1.ne eb1 fun ps z => by cases z
        have n1T := hW1.ne e1 fun ps z => by cases z
        have key : ∀ (c' fl : Addr) (pm ct : Value) (H3 : Hp), FnAt H3 fl (lamFd lamQ (lamArgs lamW) (lamBody lamW) (lamScope lamW) [] pm c' ct) → CdAt H3 c' lamQ → ∀ (t : Addr) (p : Nat × Nat), H3 t = some (.tup [.int (p.1 : Int), .int (p.2 : Int)]) → ∀ H', Same H3 H' →
            (FnAt H' fl (lamFd lamQ (lamArgs lamW) (lamBody lamW) (lamScope lamW) [] pm c' ct) ∧ CdAt H' c' lamQ ∧ spKey [.ref t] H' (fun y H'' => PrV H'' y (keyP p) ∧ Same H' H'') E0) := fun c' fl pm ct H3 hf hc t p et H' s' =>
          ⟨s' _ _ hf, s' _ _ hc, t, _, _, rfl, s' _ _ et, fun l nl => ⟨⟨l, rfl, upd_same⟩, Same.new nl⟩⟩
        refine ⟨_, rfl, _, rfl, ?_⟩
        rcases hW1 with hT1 | ⟨c', hT1, hc1⟩
        · refine ⟨_, hT1, trivial, .inl ⟨rfl, fun fl c' pm' ct' nf nc nfc => ?_⟩⟩
          refine ⟨fl, _, _, _, keyP b, keyP o, rfl, ok_lamW, lamW_binds, key c' fl pm' ct' _ lamH_f (lamH_c nfc) tb b (lamH_at nf nc nbT eb1), key c' fl pm' ct' _ lamH_f (lamH_c nfc) t1 o (lamH_at nf nc n1T e1), fun H' s' => ?_⟩
          have hb' := hb.some hL
          have E1 := s' _ _ (lamH_at nf nc naT ea1)
          have E2 := s' _ _ (lamH_at nf nc nbT eb1)
          have E3 := s' _ _ (lamH_at nf nc n1T e1)
          have hW2 : TabW H' T := .inr ⟨c', s' _ _ (lamH_T hT1 nf nc), s' _ _ (lamH_c nfc)⟩
          by_cases z : HT.prLt (keyP o) (keyP b) = true
          · rw [if_pos z] at hb' ⊢
            exact ⟨_, _, t1, o, rfl, E1, E3, hb', hW2⟩
          · rw [if_neg z] at hb' ⊢
            exact ⟨_, _, tb, b, rfl, E1, E2, hb', hW2⟩
        · refine ⟨_, hT1, ?tr, .inr ⟨c', ?cd, fun fl pm' ct' nf => ?_⟩⟩
          case tr => exact trivial
          case cd => exact PySem.codeAmong_snoc [] trivial rfl
          have S : Same H1 (upd H1 fl (.ext (FnIs fl (lamFd lamQ (lamArgs lamW) (lamBody lamW) (lamScope lamW) [] pm' c' ct')))) := Same.new nf
          refine ⟨fl, _, _, _, keyP b, keyP o, rfl, ok_lamW, lamW_binds, key c' fl pm' ct' _ upd_same (S _ _ hc1) tb b (S _ _ eb1), key c' fl pm' ct' _ upd_same (S _ _ hc1) t1 o (S _ _ e1), fun H' s' => ?_⟩
          have hb' := hb.some hL
          have s2 := S.trans s'
          have hW2 : TabW H' T := .inr ⟨c', s2 _ _ hT1, s2 _ _ hc1⟩
          by_cases z : HT.prLt (keyP o) (keyP b) = true
          · rw [if_pos z] at hb' ⊢
            exact ⟨_, _, t1, o, rfl, s2 _ _ ea1, s2 _ _ e1, hb', hW2⟩
          · rw [if_neg z] at hb' ⊢
            exact ⟨_, _, tb, b, rfl, s2 _ _ ea1, s2 _ _ eb1, hb', hW2⟩
    · rintro σ Hc ⟨v3, v4, tb, b, rfl, ea, eb, hb, hW⟩
      rw [show ((m : Int) + 1).toNat = m + 1 by omega] at hb
      refine ⟨_, rfl, _, rfl, a, ns, m, rfl, SqL.of ea, by omega, fun t f1 b1 H2 hw s2 e2 => ⟨_, rfl, _, _, tupN e2, tupN (s2 _ _ eb), ?_⟩⟩
      have hbe := best_within hb hw
      show Q (.bl (decide _)) _
      rw [decide_eq_true (by rw [hbe])]
      exact q _
end
abbrev stlaw : Stmt := top 30
section
variable {P : Program} {w : World} {K : PySem.W.Frag} {mg : Str → Option Value} {base : Heap} {C : Addr}
open My
theorem ready_weak (h : HasC P w K mg base "Ready" C 3 ["self", "row"] (spRInitF K C)) : HasC P w K mg base "Ready" C 3 ["self", "row"] (spRInit K C) :=
  let ⟨f, fd, mk, F, e, b⟩ := h.ex
  ⟨f, fd, mk, F.imp (fun vs H Q E ⟨p, a, dx, ns, e, ep, hq, hl, q⟩ => ⟨p, a, dx, ns, e, ep, hq, hl, fun H' r s => q H' (let ⟨dx, l, n, e1, e2, e3, _⟩ := r.ex; ⟨dx, l, n, e1, e2, e3⟩) s⟩), e, b⟩
theorem dd_all {ns : List Int} : (dd ns).length = cnt ns 0 ns.length := by
  have := cnt_dd (ns := ns) (f := 0) (b := ns.length) (Nat.zero_le _) (Nat.le_refl _)
  rw [← this]
  unfold win
  rw [List.drop_zero, Nat.sub_zero, List.take_of_length_le (Nat.le_refl _)]
theorem counts_len (ns : List Int) : (countsM ns).length = cnt ns 0 ns.length + 1 := by unfold countsM; rw [List.length_map, List.length_range]
theorem entry_at {ns : List Int} {M : Nat} (h : M ≤ cnt ns 0 ns.length + 1) : atI ((countsM ns).map V.int ++ [V.int 0, V.int 0]) (M : Int) = some (.int (countAt ns ns.length M)) := by
  have e := atI_at (ns := countsM ns ++ [0, 0]) (j := M) (by rw [List.length_append, counts_len]; show M < _ + 2; omega)
  rw [List.map_append] at e
  refine e.trans ?_
  congr 2
  rw [List.getD_eq_getElem?_getD]
  by_cases z : M < cnt ns 0 ns.length + 1
  · rw [List.getElem?_append_left (by rw [counts_len]; exact z)]
    unfold countsM
    rw [List.getElem?_map, List.getElem?_range z]; rfl
  · have : M = cnt ns 0 ns.length + 1 := by omega
    rw [List.getElem?_append_right (by rw [counts_len]; omega), counts_len, this, Nat.sub_self, count_zero (Nat.le_refl _) (.inr (Nat.lt_succ_self _))]; rfl
theorem counts_half (ns : List Int) : (countsM ns).sum = (ns.length : Int) * ((ns.length : Int) + 1) / 2 := by
  have := counts_sum ns
  rw [← this]
  omega
def spLaw (K : PySem.W.Frag) (T : Addr) : Sp := fun vs H Q _ => ∃ (a : Addr) (ns : List Int), vs = [.ref a] ∧ SqL K H a (ns.map V.int) ∧ ns.length ≤ 63 ∧ H T = some (.tbl #[]) ∧ ∀ H', Q (.bl true) H'
theorem sclaw : FnScope ["script", "purse", "row", "ready", "told", "k", "many"] ["script"] (defScope stlaw) := ⟨rfl, rfl, rfl, by decide +kernel, rfl, by decide +kernel, by decide +kernel⟩
theorem ok_law {f : Addr} {fd : FuncData} {Tb : Addr} (B : Blt mg) (T : RdTxt K C) (F : Fun K "law" "law" stlaw f fd) (h_law_purse : Has P w K mg base "_law_purse" 2 ["script", "at", "step", "many"] (spPurse K)) (h_law_next : Has P w K mg base "_law_next" 1 ["purse"] spNext) (h_law_row : Has P w K mg base "_law_row" 2 ["purse", "most"] spRowP)
    (hReady : HasC P w K mg base "Ready" C 3 ["self", "row"] (spRInitF K C)) (hcounts : Has P w K mg base "counts" 5 ["row"] (spCounts K)) (h_law_number_right : Has P w K mg base "_law_number_right" 8 ["ready", "row", "many", "entry"] (spNum27 K C)) (h_law_within_right : Has P w K mg base "_law_within_right" 8 ["row", "many"] (spWin27 Tb)) : FnOk P w K mg base CX0 9 f fd ["script"] (spLaw K Tb) := by
  refine F.ok sclaw (fun vs H Q E h => ?_) (fun cdv A outer s H vs Q E hr h => ?_)
  · obtain ⟨a, ns, rfl, _⟩ := h
    rfl
  · obtain ⟨a, ss, rfl, hq, hlen, hT, q⟩ := h
    have hu := hr.units0
    have hu1 := hu_of hr
    have hs : sizeLine = 16777216 := sizeLine_eq
    refine ⟨_, (pss_cons (ps_set (i := 1) sclaw.nd rfl (Or.inl rfl) (pe_callH h_law_purse (hr.mono (by decide)) (by rfl) (pa_cons (pv 0) (pa_cons pe_int (pa_cons pe_int (pa_cons pe_int pa_nil))))))
  (pss_cons (ps_set (i := 2) sclaw.nd rfl (Or.inl rfl) (pe_callH h_law_row (hr.mono (by decide)) (by rfl) (pa_cons (pv 1) (pa_cons pe_int pa_nil))))
  (pss_cons (ps_set (i := 3) sclaw.nd rfl (Or.inl rfl) (pe_makeH hReady (hr.mono (by decide)) (by rfl) (pa_cons (pe_callTy (listK (K := K) rfl) (by rfl) B.list boot_list' (pa_cons (pv 2) pa_nil)) pa_nil)))
  (pss_cons (ps_set (i := 4) sclaw.nd rfl (Or.inl rfl) (pe_callH hcounts (hr.mono (by decide)) (by rfl) (pa_cons (pv 2) pa_nil)))
  (pss_cons (ps_if (PW.pt (pw_or (pt_cmpR op_ne (pe_callB (sumK (K := K) rfl rfl) (by rfl) B.sum boot_sum' (pa_cons (pv 4) pa_nil)) (pe_op op_fdiv (pe_op op_mul (pe_callB (lenK (K := K) rfl) (by rfl) B.len PySem.boot_len (pa_cons (pv 2) pa_nil)) (pe_op op_add (pe_callB (lenK (K := K) rfl) (by rfl) B.len PySem.boot_len (pa_cons (pv 2) pa_nil)) pe_int)) pe_int) (nomark _)) (pw_or (pt_cmpR op_ne (pe_ix (ixK (K := K) rfl) (pv 4) pe_int (fun _ _ => rfl)) pe_int (nomark _)) (pw_or1 (pt_cmpR op_ne (pe_callB (lenK (K := K) rfl) (by rfl) B.len PySem.boot_len (pa_cons (pv 4) pa_nil)) (pe_op op_add (pe_callB call_len_setO (by rfl) B.len PySem.boot_len (pa_cons (pe_callTy (call_set_ints (K := K) rfl rfl) (by rfl) B.set boot_set' (pa_cons (pv 2) pa_nil)) pa_nil)) pe_int) (nomark _))))))
  (pss_one (ps_ret pe_bl))
  pss_nil)
  (pss_cons (ps_for PassesOwn.never rfl (pi_range1 (by rfl) B.range (pa_cons pe_int pa_nil)) (pg_name (i := 5) sclaw.nd rfl (Or.inl rfl))
  (pss_cons (ps_set (i := 6) sclaw.nd rfl (Or.inl rfl) (pe_ix (ixK (K := K) rfl) (pe_lst (pa_cons pe_int (pa_cons (pe_callB (lenK (K := K) rfl) (by rfl) B.len PySem.boot_len (pa_cons (pv 4) pa_nil)) (pa_cons (pe_op op_add pe_int (pe_op op_mod (pe_callH h_law_next (hr.mono (by decide)) (by rfl) (pa_cons (pv 1) pa_nil)) (pe_callB (lenK (K := K) rfl) (by rfl) B.len PySem.boot_len (pa_cons (pv 4) pa_nil)))) (pa_cons (pe_op op_mod (pe_callH h_law_next (hr.mono (by decide)) (by rfl) (pa_cons (pv 1) pa_nil)) (pe_callB (lenK (K := K) rfl) (by rfl) B.len PySem.boot_len (pa_cons (pv 4) pa_nil))) pa_nil))))) (pv 5) (fun _ _ => rfl)))
  (pss_one (ps_if (pt_not (pt_val (pe_callH h_law_number_right (hr.mono (by decide)) (by rfl) (pa_cons (pv 3) (pa_cons (pv 2) (pa_cons (pv 6) (pa_cons (pe_ix (ixK (K := K) rfl) (pe_op op_cat (pv 4) (pe_lst (pa_cons pe_int (pa_cons pe_int pa_nil)))) (pv 6) (fun _ _ => rfl)) pa_nil)))))))
  (pss_one (ps_ret pe_bl))
  pss_nil))))
  (pss_one (ps_ret (pe_callH h_law_within_right (hr.mono (by decide)) (by rfl) (pa_cons (pv 2) (pa_cons (pe_op op_mod (pe_callH h_law_next (hr.mono (by decide)) (by rfl) (pa_cons (pv 1) pa_nil)) (pe_callB (call_min2 rfl) (by rfl) B.min boot_min' (pa_cons (pe_op op_add (pe_callB (lenK (K := K) rfl) (by rfl) B.len PySem.boot_len (pa_cons (pv 4) pa_nil)) pe_int) (pa_cons pe_int pa_nil)))) pa_nil))))))))))), ?_⟩
    refine ⟨_, rfl, a, ss, _, _, 80, rfl, hq, hlen, by decide, by decide, fun pu H1 n1 s1 hp1 => ?_⟩
    have hT1 := s1 _ _ hT
    have nTp : Tb ≠ pu := fun z => by
      obtain ⟨ps0, e0, _⟩ := id hp1
      rw [← z, hT1] at e0; cases e0
    refine ⟨_, rfl, pu, 300, rfl, hp1, by decide, fun r ns H2 nr er hn hp2 sx2 => ?_⟩
    have nrp : r ≠ pu := hp1.ne nr
    have hT2 := sx2 _ _ nTp hT1
    clear sx2 s1 n1 hp1 nr hq hT1 hT
    -- ready
    refine ⟨_, rfl, r, _, rfl, .inl (SqL.of er), fun l0 n0 => make_rdF (ns := ns) (SqL.of upd_same) (by omega) fun p H3 np s3 hR3 => ?_⟩
    have s23 := (Same.new (o := .lst (ns.map V.int)) n0).trans s3
    have hR : RdX C (· = pu) H3 p ns := hR3.x np fun b hb => by
      subst hb
      obtain ⟨o, z⟩ := hp2.obj
      exact ⟨o, Same.new n0 _ _ z⟩
    have er3 := s23 _ _ er
    have hp3 := hp2.same s23
    have hT3 := s23 _ _ hT2
    clear hR3 s23 s3 np n0 er hp2 hT2
    -- told
    refine ⟨_, rfl, r, ns, rfl, SqL.of er3, by omega, fun tl H4 ntl s4 etl => ?_⟩
    have hR4 := hR.p s4.p
    have er4 := s4 _ _ er3
    have hp4 := hp3.same s4
    have hT4 := s4 _ _ hT3
    have ntp : tl ≠ pu := hp3.ne ntl
    clear hR er3 hp3 hT3 ntl s4
    have hc := cnt_le ns 0 ns.length
    have hll : ((ns.map V.int).length : Int) = (ns.length : Int) := by rw [List.length_map]
    refine ⟨_, rfl, tl, _, rfl, SqL.of etl, _, rfl, r, _, rfl, .inl (SqL.of er4), _, rfl, r, _, rfl, .inl (SqL.of er4), _, _, rfl, rfl, _, _, rfl, rfl, .inl ⟨by rw [hll]; omega, by rw [hll]; omega⟩, _, _, rfl, rfl, ⟨by decide, by decide⟩, rfl, _, rfl, iteNS (by rw [counts_half, hll]) ?_⟩
    refine ⟨_, rfl, tl, _, _, _, rfl, rfl, SqL.of etl, atI_at (ns := countsM ns) (j := 0) (by rw [counts_len]; omega), rfl, _, rfl, iteNS (by
      unfold countsM
      rw [List.getD_eq_getElem?_getD, List.getElem?_map, List.getElem?_range (by omega)]
      show V.int (countAt ns ns.length 0) = _
      rw [count_zero (Nat.le_refl _) (.inl rfl)]) ?_⟩
    refine ⟨_, rfl, tl, _, rfl, .inl (SqL.of etl), _, rfl, r, ns, rfl, SqL.of er4, by omega, fun st nst => ⟨st, _, _, rfl, upd_same, _, _, rfl, rfl, rfl, _, rfl, iteNS (by rw [dd_all, List.length_map, counts_len]; rfl) ?_⟩⟩
    have sS := Same.new (o := .set (fun k => (dd ns).any fun x => x == k) (dd ns).length) nst
    have hR5 := hR4.p sS.p
    have er5 := sS _ _ er4
    have etl5 := sS _ _ etl
    have hp5 := hp4.same sS
    have hT5 := sS _ _ hT4
    generalize upd H4 st (.set (fun k => (dd ns).any fun x => x == k) (dd ns).length) = H5 at hR5 er5 etl5 hp5 hT5 ⊢
    clear sS nst hR4 er4 etl hp4 hT4
    have hkl : (((countsM ns).map V.int).length : Int) = (cnt ns 0 ns.length : Int) + 1 := by rw [List.length_map, counts_len]; omega
    -- four numbers
    refine ⟨_, rfl, by decide, by decide, ?_⟩
    refine for_range (fun k σ Hc => ∃ v5 v6 : Option V, σ = [some (.ref a), some (.ref pu), some (.ref r), some (.ref p), some (.ref tl), v5, v6] ∧ RdX C (· = pu) Hc p ns ∧ Hc r = some (.lst (ns.map V.int)) ∧ Hc tl = some (.lst ((countsM ns).map V.int)) ∧ PurseAt Hc pu ∧ Hc Tb = some (.tbl #[])) ⟨none, none, rfl, hR5, er5, etl5, hp5, hT5⟩ ?_ ?_
    · rintro k σ Hc hk ⟨v5, v6, rfl, hRc, erc, etc, hpc, hTc⟩
      have hk4 : k < 4 := hk
      refine ⟨_, rfl, tl, _, rfl, .inl (SqL.of etc), ?_⟩
      refine ⟨_, rfl, pu, rfl, hpc, fun r1 G1 _ hp1 x1 => ?_⟩
      have etc1 := x1 _ _ ntp etc
      refine ⟨_, rfl, tl, _, rfl, .inl (SqL.of etc1), _, _, rfl, rfl, (show (0 : Int) < (((countsM ns).map V.int).length : Int) by rw [hkl]; omega), _, _, rfl, rfl, ?_⟩
      refine ⟨_, rfl, pu, rfl, hp1, fun r2 G2 _ hp2 x2 => ?_⟩
      have etc2 := x2 _ _ ntp etc1
      refine ⟨_, rfl, tl, _, rfl, .inl (SqL.of etc2), _, _, rfl, rfl, (show (0 : Int) < (((countsM ns).map V.int).length : Int) by rw [hkl]; omega), by show 4 ≤ sizeLine; decide, fun pl npl => ?_⟩
      rw [hkl]
      have a1 := Int.emod_nonneg r1 (show (cnt ns 0 ns.length : Int) + 1 ≠ 0 by omega)
      have a2 := Int.emod_lt_of_pos r1 (show (0 : Int) < (cnt ns 0 ns.length : Int) + 1 by omega)
      have a3 := Int.emod_nonneg r2 (show (cnt ns 0 ns.length : Int) + 1 ≠ 0 by omega)
      have a4 := Int.emod_lt_of_pos r2 (show (0 : Int) < (cnt ns 0 ns.length : Int) + 1 by omega)
      refine ⟨_, rfl, pl, _, _, _, rfl, rfl, SqL.of upd_same, atI_int (ns := [0, (cnt ns 0 ns.length : Int) + 1, 1 + r1 % ((cnt ns 0 ns.length : Int) + 1), r2 % ((cnt ns 0 ns.length : Int) + 1)]) (by omega) (by show (0 : Int) + (k : Int) < 4; omega), ?_⟩
      have g : 0 ≤ [0, (cnt ns 0 ns.length : Int) + 1, 1 + r1 % ((cnt ns 0 ns.length : Int) + 1), r2 % ((cnt ns 0 ns.length : Int) + 1)].getD ((0 : Int) + (k : Int)).toNat (0 : Int) ∧ [0, (cnt ns 0 ns.length : Int) + 1, 1 + r1 % ((cnt ns 0 ns.length : Int) + 1), r2 % ((cnt ns 0 ns.length : Int) + 1)].getD ((0 : Int) + (k : Int)).toNat (0 : Int) ≤ (cnt ns 0 ns.length : Int) + 1 := getD_all (R := fun x : Int => 0 ≤ x ∧ x ≤ (cnt ns 0 ns.length : Int) + 1) (fun x hx => by
        simp only [List.mem_cons, List.not_mem_nil, or_false] at hx
        rcases hx with rfl | rfl | rfl | rfl <;> omega) (by show ((0 : Int) + (k : Int)).toNat < 4; omega)
      have sX := (x1.trans x2).trans (Same.new (o := .lst [V.int 0, V.int ((cnt ns 0 ns.length : Int) + 1), V.int (1 + r1 % ((cnt ns 0 ns.length : Int) + 1)), V.int (r2 % ((cnt ns 0 ns.length : Int) + 1))]) npl).x
      have hR6 := hRc.p sX.p'
      have er6 := sX _ _ nrp erc
      have etl6 := sX _ _ ntp etc
      have hp6 := hp2.new (o := .lst [V.int 0, V.int ((cnt ns 0 ns.length : Int) + 1), V.int (1 + r1 % ((cnt ns 0 ns.length : Int) + 1)), V.int (r2 % ((cnt ns 0 ns.length : Int) + 1))]) npl
      have hT6 := sX _ _ nTp hTc
      show tSeq _ _ _ _ (upd G2 pl (.lst [V.int 0, V.int ((cnt ns 0 ns.length : Int) + 1), V.int (1 + r1 % ((cnt ns 0 ns.length : Int) + 1)), V.int (r2 % ((cnt ns 0 ns.length : Int) + 1))]))
      generalize upd G2 pl (.lst [V.int 0, V.int ((cnt ns 0 ns.length : Int) + 1), V.int (1 + r1 % ((cnt ns 0 ns.length : Int) + 1)), V.int (r2 % ((cnt ns 0 ns.length : Int) + 1))]) = H6 at hR6 er6 etl6 hp6 hT6 ⊢
      dsimp only [List.set]
      generalize [0, (cnt ns 0 ns.length : Int) + 1, 1 + r1 % ((cnt ns 0 ns.length : Int) + 1), r2 % ((cnt ns 0 ns.length : Int) + 1)].getD ((0 : Int) + (k : Int)).toNat (0 : Int) = m at g ⊢
      obtain ⟨M, rfl⟩ : ∃ M : Nat, m = (M : Int) := ⟨m.toNat, by omega⟩
      clear sX npl x1 x2 hp1 hp2 etc1 etc2 hRc erc etc hpc hTc a1 a2 a3 a4
      refine ⟨_, rfl, _, rfl, _, rfl, _, rfl, by show 2 ≤ sizeLine; decide, fun z1 nz1 => ⟨tl, z1, _, _, rfl, rfl, Same.new nz1 _ _ etl6, upd_same, by rw [List.length_map, counts_len]; show _ + 2 ≤ _; omega, fun z2 nz2 => ⟨_, rfl, z2, _, _, _, rfl, rfl, SqL.of upd_same, entry_at (M := M) (by omega), ?_⟩⟩⟩
      have sZ := (Same.new (o := .lst [V.int 0, V.int 0]) nz1).trans (Same.new (o := .lst ((countsM ns).map V.int ++ [V.int 0, V.int 0])) nz2)
      refine ⟨p, r, ns, M, rfl, (hR6.p sZ.p).rd, SqL.of (sZ _ _ er6), by omega, fun H7 s7 => ⟨_, rfl, iteNB rfl ?_⟩⟩
      have sZ7 := sZ.trans s7
      exact ⟨_, _, rfl, hR6.p sZ7.p, sZ7 _ _ er6, sZ7 _ _ etl6, hp6.same sZ7, sZ7 _ _ hT6⟩
    rintro σ Hc ⟨v5, v6, rfl, hRc, erc, etc, hpc, hTc⟩
    refine ⟨_, rfl, _, rfl, pu, rfl, hpc, fun r1 G1 _ hp1 x1 => ?_⟩
    refine ⟨_, rfl, tl, _, rfl, .inl (SqL.of (x1 _ _ ntp etc)), _, _, rfl, rfl, _, _, rfl, _, _, rfl, rfl, ?_, ?_⟩
    · show (0 : Int) < _
      rw [hkl]
      split <;> omega
    rw [hkl]
    have g : 0 < (if (12 : Int) < (cnt ns 0 ns.length : Int) + 1 + 1 then (12 : Int) else (cnt ns 0 ns.length : Int) + 1 + 1) ∧ (if (12 : Int) < (cnt ns 0 ns.length : Int) + 1 + 1 then (12 : Int) else (cnt ns 0 ns.length : Int) + 1 + 1) ≤ 12 := by split <;> omega
    generalize (if (12 : Int) < (cnt ns 0 ns.length : Int) + 1 + 1 then (12 : Int) else (cnt ns 0 ns.length : Int) + 1 + 1) = d at g ⊢
    have a1 := Int.emod_nonneg r1 (Int.ne_of_gt g.1)
    have a2 := Int.emod_lt_of_pos r1 g.1
    refine ⟨r, ns, (r1 % d).toNat, ?_, x1 _ _ nrp erc, by omega, by omega, x1 _ _ nTp hTc, q⟩
    rw [Int.toNat_of_nonneg a1]; rfl
end
theorem all_mk {l : PySem.W.OpenLaw} {w : World} {K : PySem.W.Frag} {h : Heap} {mg : Str → Option Value} {fa : Addr} (X : K.In h) (G : h.Ns mainGlobals mg) (hfa : mg "law" = some (.ref fa))
    {flaw_mixed : Addr} {odlaw_mixed anlaw_mixed : Option Addr} {sllaw_mixed : Array (Option Value)} {oclaw_mixed kVlaw_mixed dclaw_mixed pmlaw_mixed cdlaw_mixed ctlaw_mixed : Value}
    {flaw_purse : Addr} {odlaw_purse anlaw_purse : Option Addr} {sllaw_purse : Array (Option Value)} {oclaw_purse kVlaw_purse dclaw_purse pmlaw_purse cdlaw_purse ctlaw_purse : Value}
    {flaw_next : Addr} {odlaw_next anlaw_next : Option Addr} {sllaw_next : Array (Option Value)} {oclaw_next kVlaw_next dclaw_next pmlaw_next cdlaw_next ctlaw_next : Value}
    {flaw_value : Addr} {odlaw_value anlaw_value : Option Addr} {sllaw_value : Array (Option Value)} {oclaw_value kVlaw_value dclaw_value pmlaw_value cdlaw_value ctlaw_value : Value}
    {flaw_row : Addr} {odlaw_row anlaw_row : Option Addr} {sllaw_row : Array (Option Value)} {oclaw_row kVlaw_row dclaw_row pmlaw_row cdlaw_row ctlaw_row : Value}
    {fis_whole : Addr} {odis_whole anis_whole : Option Addr} {slis_whole : Array (Option Value)} {ocis_whole kVis_whole dcis_whole pmis_whole cdis_whole ctis_whole : Value}
    {fis_place : Addr} {odis_place anis_place : Option Addr} {slis_place : Array (Option Value)} {ocis_place kVis_place dcis_place pmis_place cdis_place ctis_place : Value}
    {flast_places : Addr} {odlast_places anlast_places : Option Addr} {sllast_places : Array (Option Value)} {oclast_places kVlast_places dclast_places pmlast_places cdlast_places ctlast_places : Value}
    {fnext_places : Addr} {odnext_places annext_places : Option Addr} {slnext_places : Array (Option Value)} {ocnext_places kVnext_places dcnext_places pmnext_places cdnext_places ctnext_places : Value}
    {fReady_init : Addr} {odReady_init anReady_init : Option Addr} {slReady_init : Array (Option Value)} {ocReady_init kVReady_init dcReady_init pmReady_init cdReady_init ctReady_init : Value}
    {C : Addr}
    {fReady_firsts : Addr} {odReady_firsts anReady_firsts : Option Addr} {slReady_firsts : Array (Option Value)} {ocReady_firsts kVReady_firsts dcReady_firsts pmReady_firsts cdReady_firsts ctReady_firsts : Value}
    {fReady_unlike : Addr} {odReady_unlike anReady_unlike : Option Addr} {slReady_unlike : Array (Option Value)} {ocReady_unlike kVReady_unlike dcReady_unlike pmReady_unlike cdReady_unlike ctReady_unlike : Value}
    {fReady_end_of : Addr} {odReady_end_of anReady_end_of : Option Addr} {slReady_end_of : Array (Option Value)} {ocReady_end_of kVReady_end_of dcReady_end_of pmReady_end_of cdReady_end_of ctReady_end_of : Value}
    {freach_of : Addr} {odreach_of anreach_of : Option Addr} {slreach_of : Array (Option Value)} {ocreach_of kVreach_of dcreach_of pmreach_of cdreach_of ctreach_of : Value}
    {fstretches : Addr} {odstretches anstretches : Option Addr} {slstretches : Array (Option Value)} {ocstretches kVstretches dcstretches pmstretches cdstretches ctstretches : Value}
    {fhow_many : Addr} {odhow_many anhow_many : Option Addr} {slhow_many : Array (Option Value)} {ochow_many kVhow_many dchow_many pmhow_many cdhow_many cthow_many : Value}
    {fcounts : Addr} {odcounts ancounts : Option Addr} {slcounts : Array (Option Value)} {occounts kVcounts dccounts pmcounts cdcounts ctcounts : Value}
    {fwidth_of : Addr} {odwidth_of anwidth_of : Option Addr} {slwidth_of : Array (Option Value)} {ocwidth_of kVwidth_of dcwidth_of pmwidth_of cdwidth_of ctwidth_of : Value}
    {flongest : Addr} {odlongest anlongest : Option Addr} {sllongest : Array (Option Value)} {oclongest kVlongest dclongest pmlongest cdlongest ctlongest : Value}
    {fshortest : Addr} {odshortest anshortest : Option Addr} {slshortest : Array (Option Value)} {ocshortest kVshortest dcshortest pmshortest cdshortest ctshortest : Value}
    {flongest_within : Addr} {odlongest_within anlongest_within : Option Addr} {sllongest_within : Array (Option Value)} {oclongest_within kVlongest_within dclongest_within pmlongest_within cdlongest_within ctlongest_within : Value}
    {flaw_stretch_right : Addr} {odlaw_stretch_right anlaw_stretch_right : Option Addr} {sllaw_stretch_right : Array (Option Value)} {oclaw_stretch_right kVlaw_stretch_right dclaw_stretch_right pmlaw_stretch_right cdlaw_stretch_right ctlaw_stretch_right : Value}
    {flaw_number_right : Addr} {odlaw_number_right anlaw_number_right : Option Addr} {sllaw_number_right : Array (Option Value)} {oclaw_number_right kVlaw_number_right dclaw_number_right pmlaw_number_right cdlaw_number_right ctlaw_number_right : Value}
    {flaw_within_right : Addr} {odlaw_within_right anlaw_within_right : Option Addr} {sllaw_within_right : Array (Option Value)} {oclaw_within_right kVlaw_within_right dclaw_within_right pmlaw_within_right ctlaw_within_right : Value}
    {Tb tc : Addr}
    {flaw : Addr} {odlaw anlaw : Option Addr} {sllaw : Array (Option Value)} {oclaw kVlaw dclaw pmlaw cdlaw ctlaw : Value}
    (alaw_mixed : PySem.W.nsIn K mainGlobals "_law_mixed" = some (some (.ref flaw_mixed)))
    (llaw_mixed : K.lookup flaw_mixed = some ⟨oclaw_mixed, odlaw_mixed, .func (PySem.W.fnOf "_law_mixed" "_law_mixed" (defArgs st_law_mixed) (defBody st_law_mixed) (defScope st_law_mixed) .none kVlaw_mixed dclaw_mixed pmlaw_mixed anlaw_mixed cdlaw_mixed ctlaw_mixed), sllaw_mixed⟩) (claw_mixed : PySem.W.codeIn K cdlaw_mixed "_law_mixed" = true) (klaw_mixed : PySem.W.keepIn K (.ref flaw_mixed) = true)
    (alaw_purse : PySem.W.nsIn K mainGlobals "_law_purse" = some (some (.ref flaw_purse)))
    (llaw_purse : K.lookup flaw_purse = some ⟨oclaw_purse, odlaw_purse, .func (PySem.W.fnOf "_law_purse" "_law_purse" (defArgs st_law_purse) (defBody st_law_purse) (defScope st_law_purse) .none kVlaw_purse dclaw_purse pmlaw_purse anlaw_purse cdlaw_purse ctlaw_purse), sllaw_purse⟩) (claw_purse : PySem.W.codeIn K cdlaw_purse "_law_purse" = true) (klaw_purse : PySem.W.keepIn K (.ref flaw_purse) = true)
    (alaw_next : PySem.W.nsIn K mainGlobals "_law_next" = some (some (.ref flaw_next)))
    (llaw_next : K.lookup flaw_next = some ⟨oclaw_next, odlaw_next, .func (PySem.W.fnOf "_law_next" "_law_next" (defArgs st_law_next) (defBody st_law_next) (defScope st_law_next) .none kVlaw_next dclaw_next pmlaw_next anlaw_next cdlaw_next ctlaw_next), sllaw_next⟩) (claw_next : PySem.W.codeIn K cdlaw_next "_law_next" = true) (klaw_next : PySem.W.keepIn K (.ref flaw_next) = true)
    (alaw_value : PySem.W.nsIn K mainGlobals "_law_value" = some (some (.ref flaw_value)))
    (llaw_value : K.lookup flaw_value = some ⟨oclaw_value, odlaw_value, .func (PySem.W.fnOf "_law_value" "_law_value" (defArgs st_law_value) (defBody st_law_value) (defScope st_law_value) .none kVlaw_value dclaw_value pmlaw_value anlaw_value cdlaw_value ctlaw_value), sllaw_value⟩) (claw_value : PySem.W.codeIn K cdlaw_value "_law_value" = true) (klaw_value : PySem.W.keepIn K (.ref flaw_value) = true)
    (alaw_row : PySem.W.nsIn K mainGlobals "_law_row" = some (some (.ref flaw_row)))
    (llaw_row : K.lookup flaw_row = some ⟨oclaw_row, odlaw_row, .func (PySem.W.fnOf "_law_row" "_law_row" (defArgs st_law_row) (defBody st_law_row) (defScope st_law_row) .none kVlaw_row dclaw_row pmlaw_row anlaw_row cdlaw_row ctlaw_row), sllaw_row⟩) (claw_row : PySem.W.codeIn K cdlaw_row "_law_row" = true) (klaw_row : PySem.W.keepIn K (.ref flaw_row) = true)
    (ais_whole : PySem.W.nsIn K mainGlobals "is_whole" = some (some (.ref fis_whole)))
    (lis_whole : K.lookup fis_whole = some ⟨ocis_whole, odis_whole, .func (PySem.W.fnOf "is_whole" "is_whole" (defArgs stis_whole) (defBody stis_whole) (defScope stis_whole) .none kVis_whole dcis_whole pmis_whole anis_whole cdis_whole ctis_whole), slis_whole⟩) (cis_whole : PySem.W.codeIn K cdis_whole "is_whole" = true) (kis_whole : PySem.W.keepIn K (.ref fis_whole) = true)
    (ais_place : PySem.W.nsIn K mainGlobals "is_place" = some (some (.ref fis_place)))
    (lis_place : K.lookup fis_place = some ⟨ocis_place, odis_place, .func (PySem.W.fnOf "is_place" "is_place" (defArgs stis_place) (defBody stis_place) (defScope stis_place) .none kVis_place dcis_place pmis_place anis_place cdis_place ctis_place), slis_place⟩) (cis_place : PySem.W.codeIn K cdis_place "is_place" = true) (kis_place : PySem.W.keepIn K (.ref fis_place) = true)
    (alast_places : PySem.W.nsIn K mainGlobals "last_places" = some (some (.ref flast_places)))
    (llast_places : K.lookup flast_places = some ⟨oclast_places, odlast_places, .func (PySem.W.fnOf "last_places" "last_places" (defArgs stlast_places) (defBody stlast_places) (defScope stlast_places) .none kVlast_places dclast_places pmlast_places anlast_places cdlast_places ctlast_places), sllast_places⟩) (clast_places : PySem.W.codeIn K cdlast_places "last_places" = true) (klast_places : PySem.W.keepIn K (.ref flast_places) = true)
    (anext_places : PySem.W.nsIn K mainGlobals "next_places" = some (some (.ref fnext_places)))
    (lnext_places : K.lookup fnext_places = some ⟨ocnext_places, odnext_places, .func (PySem.W.fnOf "next_places" "next_places" (defArgs stnext_places) (defBody stnext_places) (defScope stnext_places) .none kVnext_places dcnext_places pmnext_places annext_places cdnext_places ctnext_places), slnext_places⟩) (cnext_places : PySem.W.codeIn K cdnext_places "next_places" = true) (knext_places : PySem.W.keepIn K (.ref fnext_places) = true)
    (aC : PySem.W.nsIn K mainGlobals "Ready" = some (some (.ref C)))
    (pgC : PySem.W.plainGet K C Str.empty = true) (hdC : PySem.W.hasDictIn K C = true) (poC : PySem.W.plainOver K C = true) (saC : PySem.W.findIn K (.ref C) "__setattr__" = some (some (.builtin "object.__setattr__"))) (mkC : PySem.W.makesIn K C = true) (kcC : PySem.W.keepIn K (.ref C) = true) (n0C : PySem.W.findIn K (.ref C) "lasts" = some none) (n1C : PySem.W.findIn K (.ref C) "nexts" = some none)
    (aReady_init : PySem.W.findIn K (.ref C) "__init__" = some (some (.ref fReady_init))) (iReady_init : PySem.W.isFn K (.ref fReady_init) = true)
    (lReady_init : K.lookup fReady_init = some ⟨ocReady_init, odReady_init, .func (PySem.W.fnOf "__init__" "Ready.__init__" (defArgs stReady___init__) (defBody stReady___init__) (defScope stReady___init__) .none kVReady_init dcReady_init pmReady_init anReady_init cdReady_init ctReady_init), slReady_init⟩) (cReady_init : PySem.W.codeIn K cdReady_init "Ready.__init__" = true) (kReady_init : PySem.W.keepIn K (.ref fReady_init) = true)
    (aReady_firsts : PySem.W.findIn K (.ref C) "firsts" = some (some (.ref fReady_firsts))) (iReady_firsts : PySem.W.isFn K (.ref fReady_firsts) = true)
    (lReady_firsts : K.lookup fReady_firsts = some ⟨ocReady_firsts, odReady_firsts, .func (PySem.W.fnOf "firsts" "Ready.firsts" (defArgs stReady_firsts) (defBody stReady_firsts) (defScope stReady_firsts) .none kVReady_firsts dcReady_firsts pmReady_firsts anReady_firsts cdReady_firsts ctReady_firsts), slReady_firsts⟩) (cReady_firsts : PySem.W.codeIn K cdReady_firsts "Ready.firsts" = true) (kReady_firsts : PySem.W.keepIn K (.ref fReady_firsts) = true)
    (aReady_unlike : PySem.W.findIn K (.ref C) "unlike" = some (some (.ref fReady_unlike))) (iReady_unlike : PySem.W.isFn K (.ref fReady_unlike) = true)
    (lReady_unlike : K.lookup fReady_unlike = some ⟨ocReady_unlike, odReady_unlike, .func (PySem.W.fnOf "unlike" "Ready.unlike" (defArgs stReady_unlike) (defBody stReady_unlike) (defScope stReady_unlike) .none kVReady_unlike dcReady_unlike pmReady_unlike anReady_unlike cdReady_unlike ctReady_unlike), slReady_unlike⟩) (cReady_unlike : PySem.W.codeIn K cdReady_unlike "Ready.unlike" = true) (kReady_unlike : PySem.W.keepIn K (.ref fReady_unlike) = true)
    (aReady_end_of : PySem.W.findIn K (.ref C) "end_of" = some (some (.ref fReady_end_of))) (iReady_end_of : PySem.W.isFn K (.ref fReady_end_of) = true)
    (lReady_end_of : K.lookup fReady_end_of = some ⟨ocReady_end_of, odReady_end_of, .func (PySem.W.fnOf "end_of" "Ready.end_of" (defArgs stReady_end_of) (defBody stReady_end_of) (defScope stReady_end_of) .none kVReady_end_of dcReady_end_of pmReady_end_of anReady_end_of cdReady_end_of ctReady_end_of), slReady_end_of⟩) (cReady_end_of : PySem.W.codeIn K cdReady_end_of "Ready.end_of" = true) (kReady_end_of : PySem.W.keepIn K (.ref fReady_end_of) = true)
    (areach_of : PySem.W.nsIn K mainGlobals "reach_of" = some (some (.ref freach_of)))
    (lreach_of : K.lookup freach_of = some ⟨ocreach_of, odreach_of, .func (PySem.W.fnOf "reach_of" "reach_of" (defArgs streach_of) (defBody streach_of) (defScope streach_of) .none kVreach_of dcreach_of pmreach_of anreach_of cdreach_of ctreach_of), slreach_of⟩) (creach_of : PySem.W.codeIn K cdreach_of "reach_of" = true) (kreach_of : PySem.W.keepIn K (.ref freach_of) = true)
    (astretches : PySem.W.nsIn K mainGlobals "stretches" = some (some (.ref fstretches)))
    (lstretches : K.lookup fstretches = some ⟨ocstretches, odstretches, .func (PySem.W.fnOf "stretches" "stretches" (defArgs ststretches) (defBody ststretches) (defScope ststretches) .none kVstretches dcstretches pmstretches anstretches cdstretches ctstretches), slstretches⟩) (cstretches : PySem.W.codeIn K cdstretches "stretches" = true) (kstretches : PySem.W.keepIn K (.ref fstretches) = true)
    (ahow_many : PySem.W.nsIn K mainGlobals "how_many" = some (some (.ref fhow_many)))
    (lhow_many : K.lookup fhow_many = some ⟨ochow_many, odhow_many, .func (PySem.W.fnOf "how_many" "how_many" (defArgs sthow_many) (defBody sthow_many) (defScope sthow_many) .none kVhow_many dchow_many pmhow_many anhow_many cdhow_many cthow_many), slhow_many⟩) (chow_many : PySem.W.codeIn K cdhow_many "how_many" = true) (khow_many : PySem.W.keepIn K (.ref fhow_many) = true)
    (acounts : PySem.W.nsIn K mainGlobals "counts" = some (some (.ref fcounts)))
    (lcounts : K.lookup fcounts = some ⟨occounts, odcounts, .func (PySem.W.fnOf "counts" "counts" (defArgs stcounts) (defBody stcounts) (defScope stcounts) .none kVcounts dccounts pmcounts ancounts cdcounts ctcounts), slcounts⟩) (ccounts : PySem.W.codeIn K cdcounts "counts" = true) (kcounts : PySem.W.keepIn K (.ref fcounts) = true)
    (awidth_of : PySem.W.nsIn K mainGlobals "width_of" = some (some (.ref fwidth_of)))
    (lwidth_of : K.lookup fwidth_of = some ⟨ocwidth_of, odwidth_of, .func (PySem.W.fnOf "width_of" "width_of" (defArgs stwidth_of) (defBody stwidth_of) (defScope stwidth_of) .none kVwidth_of dcwidth_of pmwidth_of anwidth_of cdwidth_of ctwidth_of), slwidth_of⟩) (cwidth_of : PySem.W.codeIn K cdwidth_of "width_of" = true) (kwidth_of : PySem.W.keepIn K (.ref fwidth_of) = true)
    (alongest : PySem.W.nsIn K mainGlobals "longest" = some (some (.ref flongest)))
    (llongest : K.lookup flongest = some ⟨oclongest, odlongest, .func (PySem.W.fnOf "longest" "longest" (defArgs stlongest) (defBody stlongest) (defScope stlongest) .none kVlongest dclongest pmlongest anlongest cdlongest ctlongest), sllongest⟩) (clongest : PySem.W.codeIn K cdlongest "longest" = true) (klongest : PySem.W.keepIn K (.ref flongest) = true)
    (ashortest : PySem.W.nsIn K mainGlobals "shortest" = some (some (.ref fshortest)))
    (lshortest : K.lookup fshortest = some ⟨ocshortest, odshortest, .func (PySem.W.fnOf "shortest" "shortest" (defArgs stshortest) (defBody stshortest) (defScope stshortest) .none kVshortest dcshortest pmshortest anshortest cdshortest ctshortest), slshortest⟩) (cshortest : PySem.W.codeIn K cdshortest "shortest" = true) (kshortest : PySem.W.keepIn K (.ref fshortest) = true)
    (alongest_within : PySem.W.nsIn K mainGlobals "longest_within" = some (some (.ref flongest_within)))
    (llongest_within : K.lookup flongest_within = some ⟨oclongest_within, odlongest_within, .func (PySem.W.fnOf "longest_within" "longest_within" (defArgs stlongest_within) (defBody stlongest_within) (defScope stlongest_within) .none kVlongest_within dclongest_within pmlongest_within anlongest_within cdlongest_within ctlongest_within), sllongest_within⟩) (clongest_within : PySem.W.codeIn K cdlongest_within "longest_within" = true) (klongest_within : PySem.W.keepIn K (.ref flongest_within) = true)
    (alaw_stretch_right : PySem.W.nsIn K mainGlobals "_law_stretch_right" = some (some (.ref flaw_stretch_right)))
    (llaw_stretch_right : K.lookup flaw_stretch_right = some ⟨oclaw_stretch_right, odlaw_stretch_right, .func (PySem.W.fnOf "_law_stretch_right" "_law_stretch_right" (defArgs st_law_stretch_right) (defBody st_law_stretch_right) (defScope st_law_stretch_right) .none kVlaw_stretch_right dclaw_stretch_right pmlaw_stretch_right anlaw_stretch_right cdlaw_stretch_right ctlaw_stretch_right), sllaw_stretch_right⟩) (claw_stretch_right : PySem.W.codeIn K cdlaw_stretch_right "_law_stretch_right" = true) (klaw_stretch_right : PySem.W.keepIn K (.ref flaw_stretch_right) = true)
    (alaw_number_right : PySem.W.nsIn K mainGlobals "_law_number_right" = some (some (.ref flaw_number_right)))
    (llaw_number_right : K.lookup flaw_number_right = some ⟨oclaw_number_right, odlaw_number_right, .func (PySem.W.fnOf "_law_number_right" "_law_number_right" (defArgs st_law_number_right) (defBody st_law_number_right) (defScope st_law_number_right) .none kVlaw_number_right dclaw_number_right pmlaw_number_right anlaw_number_right cdlaw_number_right ctlaw_number_right), sllaw_number_right⟩) (claw_number_right : PySem.W.codeIn K cdlaw_number_right "_law_number_right" = true) (klaw_number_right : PySem.W.keepIn K (.ref flaw_number_right) = true)
    (alaw_within_right : PySem.W.nsIn K mainGlobals "_law_within_right" = some (some (.ref flaw_within_right)))
    (llaw_within_right : K.lookup flaw_within_right = some ⟨oclaw_within_right, odlaw_within_right, .func (PySem.W.fnOf "_law_within_right" "_law_within_right" (defArgs st_law_within_right) (defBody st_law_within_right) (defScope st_law_within_right) .none kVlaw_within_right dclaw_within_right pmlaw_within_right anlaw_within_right (.ref tc) ctlaw_within_right), sllaw_within_right⟩) (claw_within_right : PySem.W.codeIn K (.ref tc) "_law_within_right" = true) (klaw_within_right : PySem.W.keepIn K (.ref flaw_within_right) = true) (hdT : PySem.W.codeHdIn K tc Tb = true)
    (alaw : PySem.W.nsIn K mainGlobals "law" = some (some (.ref flaw)))
    (llaw : K.lookup flaw = some ⟨oclaw, odlaw, .func (PySem.W.fnOf "law" "law" (defArgs stlaw) (defBody stlaw) (defScope stlaw) .none kVlaw dclaw pmlaw anlaw cdlaw ctlaw), sllaw⟩) (claw : PySem.W.codeIn K cdlaw "law" = true) (klaw : PySem.W.keepIn K (.ref flaw) = true)
    (zlen : PySem.W.nsIn K mainGlobals "len" = some none) (zrange : PySem.W.nsIn K mainGlobals "range" = some none) (zenumerate : PySem.W.nsIn K mainGlobals "enumerate" = some none) (zlist : PySem.W.nsIn K mainGlobals "list" = some none) (zint : PySem.W.nsIn K mainGlobals "int" = some none) (zbool : PySem.W.nsIn K mainGlobals "bool" = some none) (zsum : PySem.W.nsIn K mainGlobals "sum" = some none) (zmax : PySem.W.nsIn K mainGlobals "max" = some none) (zmin : PySem.W.nsIn K mainGlobals "min" = some none) (zisinstance : PySem.W.nsIn K mainGlobals "isinstance" = some none) (zset : PySem.W.nsIn K mainGlobals "set" = some none) (zsorted : PySem.W.nsIn K mainGlobals "sorted" = some none) (ztuple : PySem.W.nsIn K mainGlobals "tuple" = some none) (zdict : PySem.W.nsIn K mainGlobals "dict" = some none) (zabs : PySem.W.nsIn K mainGlobals "abs" = some none) (zreversed : PySem.W.nsIn K mainGlobals "reversed" = some none) (zrepr : PySem.W.nsIn K mainGlobals "repr" = some none) (zall : PySem.W.nsIn K mainGlobals "all" = some none) (zany : PySem.W.nsIn K mainGlobals "any" = some none) (zzip : PySem.W.nsIn K mainGlobals "zip" = some none) :
    ∃ fd : FuncData, (∃ c, PySem.W.codeHdIn K c Tb = true) ∧ (∀ (s : Shared) (v : Value), BindsTo s fd ⟨[v], []⟩ [("script", v)]) ∧ ∀ base : Heap, K.In base → base.Ns mainGlobals mg → BmAt base mg → FnOk l.prog w K mg base CX0 9 fa fd ["script"] (spLaw K Tb) := by
  have e := hfa.symm.trans (PySem.W.mg_of X G alaw)
  cases e
  have B : Blt mg := ⟨PySem.W.mg_none_of X G zlen, PySem.W.mg_none_of X G zrange, PySem.W.mg_none_of X G zenumerate, PySem.W.mg_none_of X G zlist, PySem.W.mg_none_of X G zint, PySem.W.mg_none_of X G zbool, PySem.W.mg_none_of X G zsum, PySem.W.mg_none_of X G zmax, PySem.W.mg_none_of X G zmin, PySem.W.mg_none_of X G zisinstance, PySem.W.mg_none_of X G zset, PySem.W.mg_none_of X G zsorted, PySem.W.mg_none_of X G ztuple, PySem.W.mg_none_of X G zdict, PySem.W.mg_none_of X G zabs, PySem.W.mg_none_of X G zreversed, PySem.W.mg_none_of X G zrepr, PySem.W.mg_none_of X G zall, PySem.W.mg_none_of X G zany, PySem.W.mg_none_of X G zzip⟩
  have h_law_mixed : ∀ base : Heap, Has l.prog w K mg base "_law_mixed" 1 ["cell", "k"] spMixed := fun base => ⟨_, _, ok_law_mixed (fun_mk (st := st_law_mixed) llaw_mixed claw_mixed klaw_mixed), PySem.W.mg_of X G alaw_mixed, klaw_mixed, (fun_mk (st := st_law_mixed) llaw_mixed claw_mixed klaw_mixed).binds (ps := ["cell", "k"]) fun _ _ _ _ _ _ us hl => match us, hl with | [_, _], _ => rfl⟩
  have h_law_purse : ∀ base : Heap, Has l.prog w K mg base "_law_purse" 2 ["script", "at", "step", "many"] (spPurse K) := fun base => ⟨_, _, ok_law_purse B (fun_mk (st := st_law_purse) llaw_purse claw_purse klaw_purse) (h_law_mixed base), PySem.W.mg_of X G alaw_purse, klaw_purse, (fun_mk (st := st_law_purse) llaw_purse claw_purse klaw_purse).binds (ps := ["script", "at", "step", "many"]) fun _ _ _ _ _ _ us hl => match us, hl with | [_, _, _, _], _ => rfl⟩
  have h_law_next : ∀ base : Heap, Has l.prog w K mg base "_law_next" 1 ["purse"] spNext := fun base => ⟨_, _, ok_law_next B (fun_mk (st := st_law_next) llaw_next claw_next klaw_next), PySem.W.mg_of X G alaw_next, klaw_next, (fun_mk (st := st_law_next) llaw_next claw_next klaw_next).binds (ps := ["purse"]) fun _ _ _ _ _ _ us hl => match us, hl with | [_], _ => rfl⟩
  have h_law_value : ∀ base : Heap, Has l.prog w K mg base "_law_value" 1 ["way", "at"] spValue := fun base => ⟨_, _, ok_law_value (fun_mk (st := st_law_value) llaw_value claw_value klaw_value), PySem.W.mg_of X G alaw_value, klaw_value, (fun_mk (st := st_law_value) llaw_value claw_value klaw_value).binds (ps := ["way", "at"]) fun _ _ _ _ _ _ us hl => match us, hl with | [_, _], _ => rfl⟩
  have h_law_row : ∀ base : Heap, Has l.prog w K mg base "_law_row" 2 ["purse", "most"] spRowP := fun base => ⟨_, _, ok_law_row B (fun_mk (st := st_law_row) llaw_row claw_row klaw_row) (h_law_next base) (h_law_value base), PySem.W.mg_of X G alaw_row, klaw_row, (fun_mk (st := st_law_row) llaw_row claw_row klaw_row).binds (ps := ["purse", "most"]) fun _ _ _ _ _ _ us hl => match us, hl with | [_, _], _ => rfl⟩
  have his_whole : ∀ base : Heap, Has l.prog w K mg base "is_whole" 1 ["thing"] spWhole := fun base => ⟨_, _, ok_is_whole B (fun_mk (st := stis_whole) lis_whole cis_whole kis_whole), PySem.W.mg_of X G ais_whole, kis_whole, (fun_mk (st := stis_whole) lis_whole cis_whole kis_whole).binds (ps := ["thing"]) fun _ _ _ _ _ _ us hl => match us, hl with | [_], _ => rfl⟩
  have his_place : ∀ base : Heap, Has l.prog w K mg base "is_place" 2 ["thing", "greatest"] spPlace := fun base => ⟨_, _, ok_is_place (fun_mk (st := stis_place) lis_place cis_place kis_place) (his_whole base), PySem.W.mg_of X G ais_place, kis_place, (fun_mk (st := stis_place) lis_place cis_place kis_place).binds (ps := ["thing", "greatest"]) fun _ _ _ _ _ _ us hl => match us, hl with | [_, _], _ => rfl⟩
  have hlast_places : ∀ base : Heap, Has l.prog w K mg base "last_places" 1 ["row"] (spList K My.lastsM) := fun base => ⟨_, _, ok_last_places B (fun_mk (st := stlast_places) llast_places clast_places klast_places), PySem.W.mg_of X G alast_places, klast_places, (fun_mk (st := stlast_places) llast_places clast_places klast_places).binds (ps := ["row"]) fun _ _ _ _ _ _ us hl => match us, hl with | [_], _ => rfl⟩
  have hnext_places : ∀ base : Heap, Has l.prog w K mg base "next_places" 2 ["row"] (spList K My.nextsM) := fun base => ⟨_, _, ok_next_places B (fun_mk (st := stnext_places) lnext_places cnext_places knext_places) (hlast_places base), PySem.W.mg_of X G anext_places, knext_places, (fun_mk (st := stnext_places) lnext_places cnext_places knext_places).binds (ps := ["row"]) fun _ _ _ _ _ _ us hl => match us, hl with | [_], _ => rfl⟩
  have T : RdTxt K C := ⟨⟨pgC, hdC, poC, saC⟩, n0C, n1C⟩
  have hReady : ∀ base : Heap, HasC l.prog w K mg base "Ready" C 3 ["self", "row"] (spRInitF K C) := fun base => ⟨_, _, ⟨mkC, aReady_init, iReady_init, kcC⟩, ok_Rinit T (fun_mk (st := stReady___init__) lReady_init cReady_init kReady_init) (hlast_places base) (hnext_places base), PySem.W.mg_of X G aC, (fun_mk (st := stReady___init__) lReady_init cReady_init kReady_init).binds (ps := ["self", "row"]) fun _ _ _ _ _ _ us hl => match us, hl with | [_, _], _ => rfl⟩
  have hm_firsts : ∀ base : Heap, HasM l.prog w K mg base C "firsts" 3 ["self", "first", "behind"] (spRFirsts C) := fun base => ⟨_, _, ok_Rfirsts B T (fun_mk (st := stReady_firsts) lReady_firsts cReady_firsts kReady_firsts) (his_place base), ⟨aReady_firsts, iReady_firsts, kReady_firsts⟩, (fun_mk (st := stReady_firsts) lReady_firsts cReady_firsts kReady_firsts).binds (ps := ["self", "first", "behind"]) fun _ _ _ _ _ _ us hl => match us, hl with | [_, _, _], _ => rfl⟩
  have hm_unlike : ∀ base : Heap, HasM l.prog w K mg base C "unlike" 4 ["self", "first", "behind"] (spRUnlike C) := fun base => ⟨_, _, ok_Runlike B T (fun_mk (st := stReady_unlike) lReady_unlike cReady_unlike kReady_unlike) (hm_firsts base), ⟨aReady_unlike, iReady_unlike, kReady_unlike⟩, (fun_mk (st := stReady_unlike) lReady_unlike cReady_unlike kReady_unlike).binds (ps := ["self", "first", "behind"]) fun _ _ _ _ _ _ us hl => match us, hl with | [_, _, _], _ => rfl⟩
  have hm_end_of : ∀ base : Heap, HasM l.prog w K mg base C "end_of" 4 ["self", "first", "many"] (spREnd C) := fun base => ⟨_, _, ok_Rend B T (fun_mk (st := stReady_end_of) lReady_end_of cReady_end_of kReady_end_of) (his_place base) (hm_firsts base), ⟨aReady_end_of, iReady_end_of, kReady_end_of⟩, (fun_mk (st := stReady_end_of) lReady_end_of cReady_end_of kReady_end_of).binds (ps := ["self", "first", "many"]) fun _ _ _ _ _ _ us hl => match us, hl with | [_, _, _], _ => rfl⟩
  have hreach_of : ∀ base : Heap, Has l.prog w K mg base "reach_of" 5 ["ready", "length", "first", "many"] (spReach C) := fun base => ⟨_, _, ok_reach_of T (fun_mk (st := streach_of) lreach_of creach_of kreach_of) (hm_end_of base), PySem.W.mg_of X G areach_of, kreach_of, (fun_mk (st := streach_of) lreach_of creach_of kreach_of).binds (ps := ["ready", "length", "first", "many"]) fun _ _ _ _ _ _ us hl => match us, hl with | [_, _, _, _], _ => rfl⟩
  have hstretches : ∀ base : Heap, Has l.prog w K mg base "stretches" 6 ["row", "many"] (spStretch K) := fun base => ⟨_, _, ok_stretches B T (fun_mk (st := ststretches) lstretches cstretches kstretches) (ready_weak (hReady base)) (hm_end_of base) (hreach_of base), PySem.W.mg_of X G astretches, kstretches, (fun_mk (st := ststretches) lstretches cstretches kstretches).binds (ps := ["row", "many"]) fun _ _ _ _ _ _ us hl => match us, hl with | [_, _], _ => rfl⟩
  have hhow_many : ∀ base : Heap, Has l.prog w K mg base "how_many" 7 ["row", "many"] (spMany K) := fun base => ⟨_, _, ok_how_many B (fun_mk (st := sthow_many) lhow_many chow_many khow_many) (hstretches base), PySem.W.mg_of X G ahow_many, khow_many, (fun_mk (st := sthow_many) lhow_many chow_many khow_many).binds (ps := ["row", "many"]) fun _ _ _ _ _ _ us hl => match us, hl with | [_, _], _ => rfl⟩
  have hcounts : ∀ base : Heap, Has l.prog w K mg base "counts" 5 ["row"] (spCounts K) := fun base => ⟨_, _, ok_counts B T (fun_mk (st := stcounts) lcounts ccounts kcounts) (ready_weak (hReady base)) (hm_unlike base) (hm_firsts base), PySem.W.mg_of X G acounts, kcounts, (fun_mk (st := stcounts) lcounts ccounts kcounts).binds (ps := ["row"]) fun _ _ _ _ _ _ us hl => match us, hl with | [_], _ => rfl⟩
  have hwidth_of : ∀ base : Heap, Has l.prog w K mg base "width_of" 1 ["window"] (spWidthOf K) := fun base => ⟨_, _, ok_width_of (fun_mk (st := stwidth_of) lwidth_of cwidth_of kwidth_of), PySem.W.mg_of X G awidth_of, kwidth_of, (fun_mk (st := stwidth_of) lwidth_of cwidth_of kwidth_of).binds (ps := ["window"]) fun _ _ _ _ _ _ us hl => match us, hl with | [_], _ => rfl⟩
  have hlongest : ∀ base : Heap, Has l.prog w K mg base "longest" 7 ["row", "many"] (spLongest K) := fun base => ⟨_, _, ok_longest B (fun_mk (st := stlongest) llongest clongest klongest) (hstretches base) (hwidth_of base), PySem.W.mg_of X G alongest, klongest, (fun_mk (st := stlongest) llongest clongest klongest).binds (ps := ["row", "many"]) fun _ _ _ _ _ _ us hl => match us, hl with | [_, _], _ => rfl⟩
  have hshortest : ∀ base : Heap, Has l.prog w K mg base "shortest" 7 ["row", "many"] (spShortest K) := fun base => ⟨_, _, ok_shortest B (fun_mk (st := stshortest) lshortest cshortest kshortest) (hstretches base) (hwidth_of base), PySem.W.mg_of X G ashortest, kshortest, (fun_mk (st := stshortest) lshortest cshortest kshortest).binds (ps := ["row", "many"]) fun _ _ _ _ _ _ us hl => match us, hl with | [_, _], _ => rfl⟩
  have hlongest_within : ∀ base : Heap, Has l.prog w K mg base "longest_within" 6 ["row", "many"] (spWithin K) := fun base => ⟨_, _, ok_longest_within B T (fun_mk (st := stlongest_within) llongest_within clongest_within klongest_within) (ready_weak (hReady base)) (hreach_of base) (hwidth_of base), PySem.W.mg_of X G alongest_within, klongest_within, (fun_mk (st := stlongest_within) llongest_within clongest_within klongest_within).binds (ps := ["row", "many"]) fun _ _ _ _ _ _ us hl => match us, hl with | [_, _], _ => rfl⟩
  have h_law_stretch_right : ∀ base : Heap, Has l.prog w K mg base "_law_stretch_right" 5 ["ready", "row", "many", "stretch"] (spStr27 K C) := fun base => ⟨_, _, ok_law_stretch_right B T (fun_mk (st := st_law_stretch_right) llaw_stretch_right claw_stretch_right klaw_stretch_right) (hm_unlike base) (hm_end_of base), PySem.W.mg_of X G alaw_stretch_right, klaw_stretch_right, (fun_mk (st := st_law_stretch_right) llaw_stretch_right claw_stretch_right klaw_stretch_right).binds (ps := ["ready", "row", "many", "stretch"]) fun _ _ _ _ _ _ us hl => match us, hl with | [_, _, _, _], _ => rfl⟩
  have h_law_number_right : ∀ base : Heap, Has l.prog w K mg base "_law_number_right" 8 ["ready", "row", "many", "entry"] (spNum27 K C) := fun base => ⟨_, _, ok_law_number_right B T (fun_mk (st := st_law_number_right) llaw_number_right claw_number_right klaw_number_right) (hm_end_of base) (hstretches base) (hhow_many base) (hlongest base) (hshortest base) (h_law_stretch_right base), PySem.W.mg_of X G alaw_number_right, klaw_number_right, (fun_mk (st := st_law_number_right) llaw_number_right claw_number_right klaw_number_right).binds (ps := ["ready", "row", "many", "entry"]) fun _ _ _ _ _ _ us hl => match us, hl with | [_, _, _, _], _ => rfl⟩
  have h_law_within_right : ∀ base : Heap, BmAt base mg → Has l.prog w K mg base "_law_within_right" 8 ["row", "many"] (spWin27 Tb) := fun base hbm => ⟨_, _, ok_law_within_right B ⟨hdT, hbm⟩ llaw_within_right claw_within_right (hlongest base) (hlongest_within base), PySem.W.mg_of X G alaw_within_right, klaw_within_right, (fun_mk (st := st_law_within_right) llaw_within_right claw_within_right klaw_within_right).binds (ps := ["row", "many"]) fun _ _ _ _ _ _ us hl => match us, hl with | [_, _], _ => rfl⟩
  exact ⟨PySem.W.fnOf "law" "law" (defArgs stlaw) (defBody stlaw) (defScope stlaw) .none kVlaw dclaw pmlaw anlaw cdlaw ctlaw, ⟨tc, hdT⟩, fun s v => .of_eq rfl, fun base _ _ hbm => ok_law B T (fun_mk (st := stlaw) llaw claw klaw) (h_law_purse base) (h_law_next base) (h_law_row base) (hReady base) (hcounts base) (h_law_number_right base) (h_law_within_right base hbm)⟩
theorem walk {l : PySem.W.OpenLaw} {q : Program} {loose : List Str} {XP : (Str → Option Value) → Heap → Prop} {YP : World → Heap → Prop} {d : DefRec} {K : Params → PySem.W.Frag} {T : Addr} (hn : l.most = some 63) (hdf : d.params.defaults = [])
    (hY : ∀ (w : World) (h : Heap), YP w h → (K w.params).In h) (hT : ∀ (w : World) (h : Heap), YP w h → h.get? T = some (PySem.W.tabObj #[])) (hKT : ∀ P, (K P).lookup T = none)
    (F : ∀ (w : World) (mg : Str → Option Value) (fa : Addr) (h : Heap), (K w.params).In h → h.Ns mainGlobals mg → mg d.name = some (.ref fa) →
      ∃ fd : FuncData, (∃ c, PySem.W.codeHdIn (K w.params) c T = true) ∧ (∀ (s : Shared) (u : Value), BindsTo s fd ⟨[u], []⟩ [("script", u)]) ∧ ∀ base : Heap, (K w.params).In base → base.Ns mainGlobals mg → BmAt base mg → FnOk l.prog w (K w.params) mg base CX0 9 fa fd ["script"] (spLaw (K w.params) T)) :
    PySem.W.WalkO q loose XP YP l.row.toRowW d [] (fun f vs => PySem.call f vs) :=
  L2.walk_ofT (n := 63) (k := 9) (x := "script") (CX := fun _ => CX0) (sp := fun w => spLaw (K w.params) T) hn (by decide) hdf ⟨rfl, by decide, by decide, rfl⟩ hY hT hKT F (fun _ _ a ns hl hO hS => ⟨a, ns, rfl, hS, hl, hO.1, fun _ => rfl⟩) fun _ _ _ _ _ z => z
end Prf
open PySem PySem.W PyProof.Rows
set_option maxRecDepth 100000 in
set_option maxHeartbeats 0 in
theorem PySem.Challenge.cw_unlikerow_k27_whole_stretches_by_windows_holds : PySem.Challenge.rw_unlikerow_k27_whole_stretches_by_windows.Holds := by
  w_on; o_law; k_head; (case hw => w_witness2)
  k_fill
  refine Prf.walk (l := PySem.Challenge.rw_unlikerow_k27_whole_stretches_by_windows) (T := _) rfl rfl (fun w h Y => PySem.W.km_in_of Y) (fun w h Y => PySem.W.km_tabs_of Y _ (.head _)) ?KT ?F
  case KT => exact fun P => by kernel_rfl
  case F =>
    intro w mg fa h KX G hmg
    refine' Prf.all_mk KX G hmg ?alaw_mixed ?llaw_mixed ?claw_mixed ?klaw_mixed ?alaw_purse ?llaw_purse ?claw_purse ?klaw_purse ?alaw_next ?llaw_next ?claw_next ?klaw_next ?alaw_value ?llaw_value ?claw_value ?klaw_value ?alaw_row ?llaw_row ?claw_row ?klaw_row ?ais_whole ?lis_whole ?cis_whole ?kis_whole ?ais_place ?lis_place ?cis_place ?kis_place ?alast_places ?llast_places ?clast_places ?klast_places ?anext_places ?lnext_places ?cnext_places ?knext_places ?aC ?pgC ?hdC ?poC ?saC ?mkC ?kcC ?n0C ?n1C ?aReady_init ?iReady_init ?lReady_init ?cReady_init ?kReady_init ?aReady_firsts ?iReady_firsts ?lReady_firsts ?cReady_firsts ?kReady_firsts ?aReady_unlike ?iReady_unlike ?lReady_unlike ?cReady_unlike ?kReady_unlike ?aReady_end_of ?iReady_end_of ?lReady_end_of ?cReady_end_of ?kReady_end_of ?areach_of ?lreach_of ?creach_of ?kreach_of ?astretches ?lstretches ?cstretches ?kstretches ?ahow_many ?lhow_many ?chow_many ?khow_many ?acounts ?lcounts ?ccounts ?kcounts ?awidth_of ?lwidth_of ?cwidth_of ?kwidth_of ?alongest ?llongest ?clongest ?klongest ?ashortest ?lshortest ?cshortest ?kshortest ?alongest_within ?llongest_within ?clongest_within ?klongest_within ?alaw_stretch_right ?llaw_stretch_right ?claw_stretch_right ?klaw_stretch_right ?alaw_number_right ?llaw_number_right ?claw_number_right ?klaw_number_right ?alaw_within_right ?llaw_within_right ?claw_within_right ?klaw_within_right ?hdT ?alaw ?llaw ?claw ?klaw ?zlen ?zrange ?zenumerate ?zlist ?zint ?zbool ?zsum ?zmax ?zmin ?zisinstance ?zset ?zsorted ?ztuple ?zdict ?zabs ?zreversed ?zrepr ?zall ?zany ?zzip
    (case alaw_mixed => k_is); (case llaw_mixed => k_is); (case claw_mixed => k_is); (case klaw_mixed => k_is); (case alaw_purse => k_is); (case llaw_purse => k_is); (case claw_purse => k_is); (case klaw_purse => k_is)
    (case alaw_next => k_is); (case llaw_next => k_is); (case claw_next => k_is); (case klaw_next => k_is); (case alaw_value => k_is); (case llaw_value => k_is); (case claw_value => k_is); (case klaw_value => k_is)
    (case alaw_row => k_is); (case llaw_row => k_is); (case claw_row => k_is); (case klaw_row => k_is); (case ais_whole => k_is); (case lis_whole => k_is); (case cis_whole => k_is); (case kis_whole => k_is)
    (case ais_place => k_is); (case lis_place => k_is); (case cis_place => k_is); (case kis_place => k_is); (case alast_places => k_is); (case llast_places => k_is); (case clast_places => k_is); (case klast_places => k_is)
    (case anext_places => k_is); (case lnext_places => k_is); (case cnext_places => k_is); (case knext_places => k_is); (case aC => k_is); (case pgC => k_is); (case hdC => k_is); (case poC => k_is)
    (case saC => k_is); (case mkC => k_is); (case kcC => k_is); (case n0C => k_is); (case n1C => k_is); (case aReady_init => k_is); (case iReady_init => k_is); (case lReady_init => k_is)
    (case cReady_init => k_is); (case kReady_init => k_is); (case aReady_firsts => k_is); (case iReady_firsts => k_is); (case lReady_firsts => k_is); (case cReady_firsts => k_is); (case kReady_firsts => k_is); (case aReady_unlike => k_is)
    (case iReady_unlike => k_is); (case lReady_unlike => k_is); (case cReady_unlike => k_is); (case kReady_unlike => k_is); (case aReady_end_of => k_is); (case iReady_end_of => k_is); (case lReady_end_of => k_is); (case cReady_end_of => k_is)
    (case kReady_end_of => k_is); (case areach_of => k_is); (case lreach_of => k_is); (case creach_of => k_is); (case kreach_of => k_is); (case astretches => k_is); (case lstretches => k_is); (case cstretches => k_is)
    (case kstretches => k_is); (case ahow_many => k_is); (case lhow_many => k_is); (case chow_many => k_is); (case khow_many => k_is); (case acounts => k_is); (case lcounts => k_is); (case ccounts => k_is)
    (case kcounts => k_is); (case awidth_of => k_is); (case lwidth_of => k_is); (case cwidth_of => k_is); (case kwidth_of => k_is); (case alongest => k_is); (case llongest => k_is); (case clongest => k_is)
    (case klongest => k_is); (case ashortest => k_is); (case lshortest => k_is); (case cshortest => k_is); (case kshortest => k_is); (case alongest_within => k_is); (case llongest_within => k_is); (case clongest_within => k_is)
    (case klongest_within => k_is); (case alaw_stretch_right => k_is); (case llaw_stretch_right => k_is); (case claw_stretch_right => k_is); (case klaw_stretch_right => k_is); (case alaw_number_right => k_is); (case llaw_number_right => k_is); (case claw_number_right => k_is)
    (case klaw_number_right => k_is); (case alaw_within_right => k_is); (case llaw_within_right => k_is); (case claw_within_right => k_is); (case klaw_within_right => k_is); (case hdT => kernel_rfl); (case alaw => k_is); (case llaw => k_is)
    (case claw => k_is); (case klaw => k_is); (case zlen => k_is); (case zrange => k_is); (case zenumerate => k_is); (case zlist => k_is); (case zint => k_is); (case zbool => k_is)
    (case zsum => k_is); (case zmax => k_is); (case zmin => k_is); (case zisinstance => k_is); (case zset => k_is); (case zsorted => k_is); (case ztuple => k_is); (case zdict => k_is)
    (case zabs => k_is); (case zreversed => k_is); (case zrepr => k_is); (case zall => k_is); (case zany => k_is); (case zzip => k_is)
#print axioms PySem.Challenge.cw_unlikerow_k27_whole_stretches_by_windows_holds

