import PyProof.Rows.All
import Wide.All
import OpenK.AllK
import Wide.FinOn
import Lean
import PyProof.NeKinds
import PyProof.Rows.SumAny
import PyProof.Rows.EnumRows
import KE.KItemsList
import PyProof.Rows.SetFrom
import PyProof.ListRange
import PyProof.Rows.SeqMore
import PyProof.AttrMissHeap
import KE.KDictOf
import PyProof.ZipIter
import KE.LcSums
import PyProof.EqKinds
import PyProof.FactsAll.dict
import PyProof.Rows.SortShell
import PyProof.Rows.SortWalk
import KE.KDictSum
import PySem.Challenge.RW_unlikerow_k33_tables_spoilt
set_option Elab.async false
set_option linter.all false
set_option maxRecDepth 100000
/-! THE HAND LAYER, for ints, bools, texts, own classes, LISTS and tuples (index, slices, in, append, pop ..), calls, loops. Paste it whole ahead of your own text; what your proof does not reach may be deleted. -/
namespace L2
open PySem PySem.Spec PyProof.Rows

/-- a key: an int or a str -/
abbrev Key := Sum Int Str
def keyIs : Key → Value → Bool
  | .inl k, v => Value.isInt k v
  | .inr x, v => Value.isStrOf x v
def keyH (w : World) : Key → Int
  | .inl k => hashInt k
  | .inr x => hashStr w x
theorem keyIs_shape : ∀ {k : Key} {v : Value}, keyIs k v = true → (∃ i t, k = Sum.inl i ∧ v = Value.int i t) ∨ (∃ x t, k = Sum.inr x ∧ v = Value.str x t)
  | .inl i, v, h => by
    obtain ⟨t, e⟩ := Value.isInt_shape (k := i) (v := v) h
    exact .inl ⟨i, t, rfl, e⟩
  | .inr x, v, h => by
    obtain ⟨t, e⟩ := Value.isStrOf_shape (x := x) (v := v) h
    exact .inr ⟨x, t, rfl, e⟩
theorem keyIs_int (i : Int) (t : Tok) : keyIs (.inl i) (.int i t) = true := by simp [keyIs, Value.isInt]
theorem keyIs_str (x : Str) (t : Tok) : keyIs (.inr x) (.str x t) = true := by simp [keyIs, Value.isStrOf]
theorem key_ll (a b : Int) : decide ((Sum.inl a : Key) = Sum.inl b) = (a == b) := by
  by_cases e : a = b
  · subst e; simp
  · have h : ¬ (Sum.inl a : Key) = Sum.inl b := fun q => e (Sum.inl.inj q)
    rw [decide_eq_false h]
    exact (beq_eq_false_iff_ne.mpr e).symm
theorem key_rr (a b : Str) : decide ((Sum.inr a : Key) = Sum.inr b) = decide (a = b) := by
  by_cases e : a = b
  · subst e; simp
  · have h : ¬ (Sum.inr a : Key) = Sum.inr b := fun q => e (Sum.inr.inj q)
    rw [decide_eq_false h, decide_eq_false e]
theorem key_lr (a : Int) (b : Str) : decide ((Sum.inl a : Key) = Sum.inr b) = false := decide_eq_false (fun q => nomatch q)
theorem key_rl (a : Str) (b : Int) : decide ((Sum.inr a : Key) = Sum.inl b) = false := decide_eq_false (fun q => nomatch q)

def mixKind (prog : Program) (w : World) : PySem.KeyKind prog w Key where
  is := keyIs
  hash := keyH w
  inj := fun v a b ha hb => by
    rcases keyIs_shape ha with ⟨i, t, rfl, rfl⟩ | ⟨x, t, rfl, rfl⟩
    · rcases keyIs_shape hb with ⟨j, u, rfl, e⟩ | ⟨y, u, rfl, e⟩
      · injection e with e1 _; rw [e1]
      · exact nomatch e
    · rcases keyIs_shape hb with ⟨j, u, rfl, e⟩ | ⟨y, u, rfl, e⟩
      · exact nomatch e
      · injection e with e1 _; rw [e1]
  byValue := fun k v h => by
    rcases keyIs_shape h with ⟨i, t, rfl, rfl⟩ | ⟨x, t, rfl, rfl⟩ <;> rfl
  pyHash := fun hv h => by
    rcases keyIs_shape hv with ⟨i, t, rfl, rfl⟩ | ⟨x, t, rfl, rfl⟩
    · exact wpAny_pyHash_int h
    · exact wpAny_pyHash_str h
  eqBool := fun hu hv h => by
    rcases keyIs_shape hu with ⟨i, t, rfl, rfl⟩ | ⟨x, t, rfl, rfl⟩
    · rcases keyIs_shape hv with ⟨j, u, rfl, rfl⟩ | ⟨y, u, rfl, rfl⟩
      · rw [key_ll] at h; exact wpAny_eqBool_int h
      · rw [key_lr] at h; exact SeqAt.EqAt.int_str i t y u _ _ _ _ h
    · rcases keyIs_shape hv with ⟨j, u, rfl, rfl⟩ | ⟨y, u, rfl, rfl⟩
      · rw [key_rl] at h; exact SeqAt.EqAt.str_int x t j u _ _ _ _ h
      · rw [key_rr] at h; exact wpAny_eqBool_str h
  «strs» := fun k x t v h => by
    rcases keyIs_shape h with ⟨i, u, rfl, e⟩ | ⟨y, u, rfl, e⟩
    · exact nomatch e
    · injection e with e1 _
      subst e1
      cases v <;> rfl

theorem mixKind_int (prog : Program) (w : World) (i : Int) (t : Tok) : (mixKind prog w).is (.inl i) (.int i t) = true := keyIs_int i t
theorem mixKind_str (prog : Program) (w : World) (x : Str) (t : Tok) : (mixKind prog w).is (.inr x) (.str x t) = true := keyIs_str x t
end L2

namespace L2
open PySem PySem.Spec PyProof.Rows

/-- a value, without the heap -/
inductive V where
  | non | bl (b : Bool) | int (i : Int) | str (x : Str) | byt (b : Array UInt8) | flt (b : UInt64) | ref (a : Addr) | ty (n : String)
  deriving DecidableEq

def RelV : V → Value → Prop
  | .non, u => u = Value.none
  | .bl b, u => u = Value.bool b
  | .int i, u => ∃ t, u = Value.int i t
  | .str x, u => ∃ t, u = Value.str x t
  | .byt b, u => ∃ t, u = Value.bytes b t
  | .flt b, u => ∃ t, u = Value.float b t
  | .ref a, u => u = Value.ref a
  | .ty n, u => u = Value.type n

abbrev Vals : List V → List Value → Prop := Paired RelV
theorem Vals.length {xs : List V} {us : List Value} (r : Vals xs us) : xs.length = us.length := Paired.length r
theorem Vals.get : ∀ {xs : List V} {us : List Value} {i : Nat} {x : V}, Vals xs us → xs[i]? = some x → ∃ u, us[i]? = some u ∧ RelV x u
  | _, _, _, _, .nil, e => by simp at e
  | _, _, 0, _, .cons r _, e => by simp at e; subst e; exact ⟨_, rfl, r⟩
  | _, _, i + 1, x, .cons _ t, e => by
    obtain ⟨u, h1, h2⟩ := Vals.get (i := i) (x := x) t (by simpa using e)
    exact ⟨u, by simpa using h1, h2⟩
theorem Vals.set {x : V} {u : Value} (r : RelV x u) : ∀ {xs : List V} {us : List Value} (i : Nat), Vals xs us → Vals (xs.set i x) (us.set i u)
  | _, _, _, .nil => .nil
  | _, _, 0, .cons _ t => .cons r t
  | _, _, i + 1, .cons q t => .cons q (Vals.set r i t)
theorem Vals.append : ∀ {xs ys : List V} {us ws : List Value}, Vals xs us → Vals ys ws → Vals (xs ++ ys) (us ++ ws)
  | _, _, _, _, .nil, s => s
  | _, _, _, _, .cons r t, s => .cons r (Vals.append t s)
theorem Vals.take : ∀ {xs : List V} {us : List Value} (n : Nat), Vals xs us → Vals (xs.take n) (us.take n)
  | _, _, 0, _ => .nil
  | _, _, _ + 1, .nil => .nil
  | _, _, n + 1, .cons r t => .cons r (Vals.take n t)
theorem Vals.drop : ∀ {xs : List V} {us : List Value} (n : Nat), Vals xs us → Vals (xs.drop n) (us.drop n)
  | _, _, 0, r => r
  | _, _, _ + 1, .nil => .nil
  | _, _, n + 1, .cons _ t => Vals.drop n t
theorem Vals.none_of : ∀ {xs : List V} {us : List Value} {i : Nat}, Vals xs us → xs[i]? = none → us[i]? = none := fun {xs us i} r e => by
  have h1 := r.length
  have h2 : xs.length ≤ i := List.getElem?_eq_none_iff.mp e
  exact List.getElem?_eq_none_iff.mpr (by omega)

def RelO : Option V → Option Value → Prop
  | some v, some u => RelV v u
  | none, none => True
  | _, _ => False
def KV {κ : Type} : List (κ × V) → List (κ × Value) → Prop := Paired fun (p : κ × V) (q : κ × Value) => p.1 = q.1 ∧ RelV p.2 q.2

/-- a key of a dict (00_mix): an int or a text -/
def kV : Key → V
  | .inl i => .int i
  | .inr x => .str x

/-- what stands at a tracked address -/
inductive HO where
  /-- a list -/
  | lst (xs : List V)
  /-- a tuple (never changes) -/
  | tup (xs : List V)
  /-- a dict whose keys are ints and texts; one whose keys are tuples of ints and texts (the empty one is both) -/
  | dK (kvs : List (Key × V)) | dT (kvs : List (List Key × V))
  /-- a set of ints: its members, its size -/
  | set (S : Int → Bool) (n : Nat)
  /-- an instance of the class at C, its dict at dx, its attributes -/
  | ins (C dx : Addr) (fs : List (Str × V))
  /-- the dict of the instance at x -/
  | own (x : Addr)
  /-- the dict of an exception -/
  | xd (fs : List (Str × V))
  /-- a bound method, f of x -/
  | met (f x : Addr)
  /-- a range object lo, lo + 1, .. below hi -/
  | rng (lo hi : Int)
  /-- a thing that is known to the object (the script; a dict while a loop walks it): read, never written while it is so -/
  | frz (o : Obj) (u : HO)
  /-- a code object's table -/
  | tbl (ps : Array Value)
  /-- any other thing, by what is true of its one object (a def of one's own: SetO a S n := HO.ext fun h => ..) -/
  | ext (φ : Heap → Prop)

abbrev Hp := Addr → Option HO
def upd (H : Hp) (a : Addr) (o : HO) : Hp := fun b => if b = a then some o else H b
theorem upd_same {H : Hp} {a : Addr} {o : HO} : upd H a o a = some o := by unfold upd; rw [if_pos rfl]
theorem upd_ne {H : Hp} {a b : Addr} {o : HO} (h : b ≠ a) : upd H a o b = H b := by unfold upd; rw [if_neg h]
/-- two objects of different content stand apart -/
theorem ne_of {H : Hp} {a b : Addr} {o u : HO} (h : H a = some o) (h' : H b = some u) (d : o ≠ u) : a ≠ b := by
  intro e; subst e; rw [h] at h'; exact d (Option.some.inj h')
theorem ne_of_none {H : Hp} {a b : Addr} {o : HO} (h : H a = some o) (h' : H b = none) : a ≠ b := by
  intro e; subst e; rw [h] at h'; cases h'

section
variable (P : Program) (w : World)
def ObjOk (H : Hp) (h : Heap) (a : Addr) : HO → Prop
  | .lst xs => xs.length ≤ sizeLine ∧ ∃ (its : List Value) (n : Nat), Vals xs its ∧ h.get? a = some { cls := .type "list", data := .seq its.toArray n }
  | .tup xs => xs.length ≤ sizeLine ∧ ∃ its : List Value, Vals xs its ∧ IsTup h a its.toArray
  | .dK kvs => kvs.length ≤ sizeLine ∧ (a == sysModules) = false ∧ ∃ vs, KV kvs vs ∧ h.DictOf (mixKind P w) a vs
  | .dT kvs => kvs.length ≤ sizeLine ∧ (a == sysModules) = false ∧ ∃ xs : List (List Key × Addr × Value),
      Paired (fun (p : List Key × V) (q : List Key × Addr × Value) => p.1 = q.1 ∧ H q.2.1 = some (.tup (p.1.map kV)) ∧ RelV p.2 q.2.2) kvs xs ∧
      ∃ o es ep, h.get? a = some o ∧ o.ExactDict ∧ o.data = .dict es ep ∧ es.toList = xs.map (entryOfKey (tupleKind (mixKind P w))) ∧ (xs.map (·.1)).Nodup
  | .set S n => h.SetOf (intKind P w) a S n
  | .ins C dx fs => H dx = some (.own a) ∧ fs.length ≤ 1000 ∧ dx ≠ a ∧ h.get? a = some (PySem.W.instObj C dx) ∧
      ∃ mA, h.Ns1 dx mA ∧ (∀ f, RelO (fs.lookup f) (mA f)) ∧ PySem.Within mA (fs.map (·.1))
  | .own _ => ∃ o, h.get? a = some o
  | .xd fs => ∃ mA, h.Ns1 a mA ∧ ∀ f, RelO (fs.lookup f) (mA f)
  | .rng lo hi => ∃ t u v, h.get? a = some { cls := .type "range", data := .fields #[.int lo t, .int hi u, .int 1 v] }
  | .frz o u => h.get? a = some o ∧ ObjOk H h a u
  | .tbl ps => h.get? a = some { cls := .none, data := .fields ps }
  | .met f x => h.get? a = some (PySem.W.methodObj (.ref f) (.ref x))
  | .ext φ => φ h ∧ (∃ o, h.get? a = some o) ∧ ∀ h1 h2 : Heap, φ h1 → (∀ o, h1.get? a = some o → h2.get? a = some o) → φ h2
/-- the abstract heap is held -/
def HOk (H : Hp) (h : Heap) : Prop := ∀ a o, H a = some o → ObjOk P w H h a o
end

section
variable {P : Program} {w : World} {H H' : Hp} {h h' : Heap} {a : Addr} {o : HO}
theorem ObjOk.lt (x : ObjOk P w H h a o) : a < h.objs.size := by
  cases o with
  | lst xs => obtain ⟨_, _, _, _, e⟩ := x; exact Heap.lt_size e
  | tup xs => obtain ⟨_, _, _, p⟩ := x; exact p.lt
  | dK kvs => obtain ⟨_, _, _, _, o, _, _, e, _⟩ := x; exact Heap.lt_size e
  | dT kvs => obtain ⟨_, _, _, _, o, _, _, e, _⟩ := x; exact Heap.lt_size e
  | set S n => obtain ⟨o, _, _, _, e, _⟩ := x; exact Heap.lt_size e
  | ins C dx fs => obtain ⟨_, _, _, e, _⟩ := x; exact Heap.lt_size e
  | own y => obtain ⟨_, e⟩ := x; exact Heap.lt_size e
  | xd fs => obtain ⟨_, ⟨_, _, _, e, _⟩, _⟩ := x; exact Heap.lt_size e
  | rng lo hi => obtain ⟨_, _, _, e⟩ := x; exact Heap.lt_size e
  | frz ob u => obtain ⟨e, _⟩ := x; exact Heap.lt_size e
  | tbl ps => exact Heap.lt_size (show h.get? a = some _ from x)
  | met f y => exact Heap.lt_size (show h.get? a = some _ from x)
  | ext φ => obtain ⟨_, ⟨_, e⟩, _⟩ := x; exact Heap.lt_size e
theorem Paired.mapP {α β : Type} {F G : α → β → Prop} : ∀ {l₁ : List α} {l₂ : List β}, Paired F l₁ l₂ → (∀ a b, F a b → G a b) → Paired G l₁ l₂
  | _, _, .nil, _ => .nil
  | _, _, .cons r t, f => .cons (f _ _ r) (Paired.mapP t f)
/-- what an object's description leans on: its own object, its own dict, the tuples -/
theorem ObjOk.stay (x : ObjOk P w H h a o) (k : ∀ b u, (b = a ∨ H b = some (.own a)) → h.get? b = some u → h'.get? b = some u)
    (ho : ∀ b, H b = some (.own a) → H' b = some (.own a)) (ht : ∀ b xs, H b = some (.tup xs) → H' b = some (.tup xs)) : ObjOk P w H' h' a o := by
  induction o with
  | lst xs => obtain ⟨z, its, n, r, e⟩ := x; exact ⟨z, its, n, r, k _ _ (.inl rfl) e⟩
  | tup xs => obtain ⟨z, its, r, ob, e, c⟩ := x; exact ⟨z, its, r, ob, k _ _ (.inl rfl) e, c⟩
  | dK kvs => obtain ⟨z, y, vs, r, ob, es, ep, e, c⟩ := x; exact ⟨z, y, vs, r, ob, es, ep, k _ _ (.inl rfl) e, c⟩
  | dT kvs =>
    obtain ⟨z, y, xs, r, ob, es, ep, e, c⟩ := x
    exact ⟨z, y, xs, Paired.mapP r fun p q z => ⟨z.1, ht _ _ z.2.1, z.2.2⟩, ob, es, ep, k _ _ (.inl rfl) e, c⟩
  | set S n => obtain ⟨ob, es, ep, t, e, c⟩ := x; exact ⟨ob, es, ep, t, k _ _ (.inl rfl) e, c⟩
  | ins C dx fs =>
    obtain ⟨d, z, ne, e, mA, ⟨od, es, ep, e2, c⟩, r⟩ := x
    exact ⟨ho _ d, z, ne, k _ _ (.inl rfl) e, mA, ⟨od, es, ep, k _ _ (.inr d) e2, c⟩, r⟩
  | own y => obtain ⟨ob, e⟩ := x; exact ⟨ob, k _ _ (.inl rfl) e⟩
  | xd fs => obtain ⟨mA, ⟨od, es, ep, e, c⟩, r⟩ := x; exact ⟨mA, ⟨od, es, ep, k _ _ (.inl rfl) e, c⟩, r⟩
  | rng lo hi => obtain ⟨t, u, v, e⟩ := x; exact ⟨t, u, v, k _ _ (.inl rfl) e⟩
  | frz ob u ih => obtain ⟨e, q⟩ := x; exact ⟨k _ _ (.inl rfl) e, ih q⟩
  | tbl ps =>
    have e : h.get? a = some { cls := .none, data := .fields ps } := x
    show h'.get? a = some { cls := .none, data := .fields ps }
    exact k a _ (.inl rfl) e
  | met f y =>
    have e : h.get? a = some (PySem.W.methodObj (.ref f) (.ref y)) := x
    show h'.get? a = some (PySem.W.methodObj (.ref f) (.ref y))
    exact k a _ (.inl rfl) e
  | ext φ => obtain ⟨p, ⟨o, e⟩, st⟩ := x; exact ⟨st _ _ p fun o q => k _ _ (.inl rfl) q, ⟨o, k _ _ (.inl rfl) e⟩, st⟩
theorem HOk.lt (x : HOk P w H h) (e : H a = some o) : a < h.objs.size := (x a o e).lt
theorem HOk.fresh (x : HOk P w H h) (e : h.objs.size ≤ a) : H a = none := by
  cases q : H a with
  | none => rfl
  | some u => exact absurd (Nat.lt_of_lt_of_le (x.lt q) e) (Nat.lt_irrefl _)
/-- every object of the heap is kept -/
theorem HOk.kept (x : HOk P w H h) (k : ∀ b u, h.get? b = some u → h'.get? b = some u) : HOk P w H h' := fun a o e =>
  (x a o e).stay (fun b u _ q => k b u q) (fun _ q => q) fun _ _ q => q
/-- a new object is laid and tracked -/
theorem HOk.laid (x : HOk P w H h) (k : ∀ b u, h.get? b = some u → h'.get? b = some u) (hp : h.objs.size ≤ a) (new : ObjOk P w (upd H a o) h' a o) : HOk P w (upd H a o) h' := fun b u e => by
  have hn := x.fresh hp
  by_cases hb : b = a
  · subst hb; rw [upd_same] at e; cases e; exact new
  · rw [upd_ne hb] at e
    exact (x b u e).stay (fun c v _ q => k c v q) (fun c q => by rw [upd_ne (ne_of_none q hn)]; exact q) fun c xs q => by rw [upd_ne (ne_of_none q hn)]; exact q
end

/-- what may be read as u: it is u, or a known u -/
def Rd (H : Hp) (a : Addr) (u : HO) : Prop := H a = some u ∨ ∃ o, H a = some (.frz o u)
theorem Rd.ok {P : Program} {w : World} {H : Hp} {h : Heap} {a : Addr} {u : HO} (r : Rd H a u) (x : HOk P w H h) : ObjOk P w H h a u := by
  rcases r with r | ⟨o, r⟩
  · exact x a u r
  · obtain ⟨_, q⟩ := x a _ r
    exact q
/-- what may be written -/
def Mut : Option HO → Prop
  | some (.lst _) => True
  | some (.dK _) => True
  | some (.dT _) => True
  | some (.set _ _) => True
  | some (.ins _ _ _) => True
  | some (.ext _) => True
  | _ => False
section
variable {P : Program} {w : World} {H : Hp} {h h' : Heap} {x e : Addr} {o' : HO}
/-- the object at e is changed: x itself, or the dict of the instance x -/
theorem HOk.write (ok : HOk P w H h) (mu : Mut (H x)) (he : e = x ∨ H e = some (.own x)) (k : ∀ b u, b ≠ e → h.get? b = some u → h'.get? b = some u) (heo : ∃ u, h'.get? e = some u)
    (new : ObjOk P w (upd H x o') h' x o') : HOk P w (upd H x o') h' := fun b u q => by
  have nown : ∀ c y, H c = some (.own y) → c ≠ x := fun c y r z => by subst z; rw [r] at mu; exact mu
  have ntup : ∀ c xs, H c = some (.tup xs) → c ≠ x := fun c xs r z => by subst z; rw [r] at mu; exact mu
  by_cases hb : b = x
  · subst hb; rw [upd_same] at q; cases q; exact new
  · rw [upd_ne hb] at q
    by_cases hbe : b = e
    · have q' : H b = some (.own x) := by
        rcases he with z | z
        · exact absurd (hbe.trans z) hb
        · rw [hbe]; exact z
      rw [q] at q'; cases q'
      obtain ⟨v, hv⟩ := heo
      exact ⟨v, by rw [hbe]; exact hv⟩
    · refine (ok b u q).stay (fun c v hc r => k c v ?_ r) (fun c r => by rw [upd_ne (nown c b r)]; exact r) fun c xs r => by rw [upd_ne (ntup c xs r)]; exact r
      rcases hc with rfl | hc
      · exact hbe
      · rintro rfl
        rcases he with z | z
        · exact nown c b hc z
        · rw [hc] at z; cases z; exact hb rfl
end

/-! ### kept unless tracked; of the frames at fs (the callers') the slots may change (an exception that passes writes there); of the records at ex (iterators) nothing is said -/
structure Un (fs ex : List Addr) (H H' : Hp) (h h' : Heap) : Prop where
  keep : ∀ b o, h.get? b = some o → H b = none → b ∉ fs → b ∉ ex → h'.get? b = some o
  slot : ∀ b o, h.get? b = some o → H b = none → b ∈ fs → b ∉ ex → ∃ sl, h'.get? b = some { o with slots := sl }
  free : ∀ b o, h.get? b = some o → H b = none → b ∉ ex → H' b = none
  there : ∀ b o, h.get? b = some o → b ∉ ex → ∃ o', h'.get? b = some o'
  tups : ∀ b xs, H b = some (.tup xs) → H' b = some (.tup xs)
  frzs : ∀ b o u, H b = some (.frz o u) → H' b = some (.frz o u)
  tbls : ∀ b ps, H b = some (.tbl ps) → ∃ more, H' b = some (.tbl (ps ++ more))
section
variable {fs fs' ex ex' : List Addr} {H H1 H2 : Hp} {h h1 h2 h' : Heap} {a x e : Addr} {o : HO}
theorem Un.any (u : Un fs ex H H1 h h1) {b : Addr} {ob : Obj} (q : h.get? b = some ob) (n : H b = none) (hx : b ∉ ex) : ∃ sl, h1.get? b = some { ob with slots := sl } := by
  by_cases hb : b ∈ fs
  · exact u.slot b ob q n hb hx
  · exact ⟨ob.slots, u.keep b ob q n hb hx⟩
theorem Un.kept (k : ∀ b u, h.get? b = some u → h'.get? b = some u) : Un fs ex H H h h' :=
  ⟨fun b ob q _ _ _ => k b ob q, fun b ob q _ _ _ => ⟨ob.slots, k b ob q⟩, fun _ _ _ n _ => n, fun b ob q _ => ⟨ob, k b ob q⟩, fun _ _ q => q, fun _ _ _ q => q, fun _ ps q => ⟨#[], by rw [q]; simp⟩⟩
theorem Un.refl : Un fs ex H H h h := Un.kept fun _ _ q => q
theorem Un.laid (k : ∀ b u, h.get? b = some u → h'.get? b = some u) (hp : h.objs.size ≤ a) (hn : H a = none) : Un fs ex H (upd H a o) h h' where
  keep := fun b u q _ _ _ => k b u q
  slot := fun b u q _ _ _ => ⟨u.slots, k b u q⟩
  free := fun b u q n _ => by rw [upd_ne (Nat.ne_of_lt (Nat.lt_of_lt_of_le (Heap.lt_size q) hp))]; exact n
  there := fun b u q _ => ⟨u, k b u q⟩
  tups := fun b xs q => by rw [upd_ne (ne_of_none q hn)]; exact q
  frzs := fun b u xs q => by rw [upd_ne (ne_of_none q hn)]; exact q
  tbls := fun b ps q => ⟨#[], by rw [upd_ne (ne_of_none q hn), q]; simp⟩
theorem Un.write (mu : Mut (H x)) (he : e = x ∨ H e = some (.own x)) (k : ∀ b u, b ≠ e → h.get? b = some u → h'.get? b = some u) (heo : ∃ u, h'.get? e = some u) : Un fs ex H (upd H x o) h h' := by
  have hx : ∀ b, H b = none → b ≠ x := fun b n z => by subst z; rw [n] at mu; exact mu
  have hb : ∀ b, H b = none → b ≠ e := fun b n z => by
    subst z
    rcases he with r | r
    · exact hx b n r
    · rw [n] at r; cases r
  have hm : ∀ b u, H b = some u → ¬ Mut (some u) → b ≠ x := fun b u q nm z => by subst z; rw [q] at mu; exact nm mu
  refine ⟨fun b u q n _ _ => k b u (hb b n) q, fun b u q n _ _ => ⟨u.slots, k b u (hb b n) q⟩, fun b u q n _ => by rw [upd_ne (hx b n)]; exact n, fun b u q _ => ?_,
    fun b xs q => by rw [upd_ne (hm b _ q fun z => z)]; exact q, fun b u xs q => by rw [upd_ne (hm b _ q fun z => z)]; exact q, fun b ps q => ⟨#[], by rw [upd_ne (hm b _ q fun z => z), q]; simp⟩⟩
  by_cases hbe : b = e
  · subst hbe; exact heo
  · exact ⟨u, k b u hbe q⟩
end

/-! ### the heap without what is tracked -/
def trk (h : Heap) (H : Hp) : List Addr := (List.range h.objs.size).filter fun a => (H a).isSome
def hidT (h : Heap) (H : Hp) : Heap := PySem.W.hideAll h (trk h H)
theorem hidT_size (h : Heap) (H : Hp) : (hidT h H).objs.size = h.objs.size := PySem.W.hideAll_size _ _
theorem hidT_get {h : Heap} {H : Hp} {b : Addr} {o : Obj} (e : h.get? b = some o) (n : H b = none) : (hidT h H).get? b = some o :=
  PySem.W.hideAll_get _ e fun hm => by
    have q : (H b).isSome = true := (List.mem_filter.mp hm).2
    rw [n] at q; simp at q
theorem of_hidT {h : Heap} {H : Hp} {b : Addr} {o : Obj} (e : (hidT h H).get? b = some o) : h.get? b = some o ∧ H b = none := by
  have e' : h.get? b = some o := PySem.W.of_hideAll (trk h H) e
  refine ⟨e', ?_⟩
  cases q : H b with
  | none => rfl
  | some x =>
    have hm : b ∈ trk h H := List.mem_filter.mpr ⟨List.mem_range.mpr (Heap.lt_size e'), by simp [q]⟩
    have z : (hidT h H).get? b = none := PySem.W.hideAll_none (trk h H) hm
    rw [z] at e; cases e

/-! ### OpenK's ledger, filled with every new object but one -/
end L2

namespace L2
open PySem PySem.Spec PyProof.Rows

/-- the module's facts, over the base: the heap at the law's entry without what is tracked there -/
structure Mod (K : PySem.W.Frag) (mg : Str → Option Value) (base : Heap) : Prop where
  kin : K.In base
  glob : base.Ns mainGlobals mg
  blt : ∃ mb, base.Ns builtinsNs mb ∧ ∀ x : Str, x ≠ "__name__" → mb x = bootBuiltins x
  nolimit : base.NoLimit

/-- the context: a def's body (or a comprehension's block) running. base: fixed through the whole law; s₀, H₀: the entry; outer: the frames whose slots others may change (a def's callers); stack: all frames that run;
   ex: iterators that were made ahead of the entry and are walked here (a comprehension's); fn: the names whose cells were made at the entry (a def: all; a comprehension's block: its own); calm: not within an except suite; pn: pins that every state bears; xe: what is wanted of an exception that leaves the code -/
structure Cx where
  prog : Program
  w : World
  K : PySem.W.Frag
  mg : Str → Option Value
  base : Heap
  A : Around
  N : List Str
  s₀ : Shared
  H₀ : Hp
  env : Env
  outer : List Env
  stack : List Env
  ex : List Addr
  fn : Str → Bool
  calm : Bool
  pn : List (Addr × Obj)
  xe : Value → Shared → Prop
/-- the callers' frames -/
def frs (l : List Env) : List Addr := l.filterMap (·.frame)
abbrev Cx.fs (X : Cx) : List Addr := frs X.outer

def Vis (sc : Scope) (x : Str) : Prop := sc.names.lookup x = some .local ∨ sc.names.lookup x = some .cell ∨ sc.names.lookup x = some .free
def Loc (sc : Scope) (x : Str) : Prop := sc.names.lookup x = some .local ∨ sc.names.lookup x = some .cell
def Look (env : Env) (h : Heap) (m : Str → Option Value) (x : Str) (u : Value) : Prop :=
  (env.kindOf x = some .local ∧ m x = some u) ∨ ((env.kindOf x = some .cell ∨ env.kindOf x = some .free) ∧ ∃ c, env.cells.lookup x = some c ∧ h.IsCell c (some u))

structure Cx.Ok (X : Cx) : Prop where
  mod : Mod X.K X.mg X.base
  kind : X.env.scope.kind = .function
  glob : X.env.globals = mainGlobals
  blt : X.env.builtins = builtinsNs
  above : X.s₀.heap.objs.size ≤ X.env.locals
  inj : ∀ x y c, X.env.cells.lookup x = some c → X.env.cells.lookup y = some c → x = y
  has : ∀ x, (X.env.kindOf x = some .cell ∨ X.env.kindOf x = some .free) → ∃ c, X.env.cells.lookup x = some c
  cab : ∀ x c, X.fn x = true → X.env.cells.lookup x = some c → X.s₀.heap.objs.size ≤ c
  hd : X.calm = true → X.A.handled = none
  frames : X.A.frames = some X.stack
  stk : X.stack = X.outer ∨ (X.stack = X.env :: X.outer ∧ X.env.frame = some X.env.locals)
  exf : ∀ b ∈ X.ex, b ≠ X.env.locals ∧ ∀ x c, X.env.cells.lookup x = some c → c ≠ b
  bs : ∀ b o, X.base.get? b = some o → X.s₀.heap.get? b = some o ∧ X.H₀ b = none
  bsz : X.base.objs.size ≤ X.s₀.heap.objs.size
  noex : ∀ b o, X.base.get? b = some o → b ∉ X.ex
  exfs : ∀ b ∈ X.ex, b ∉ X.fs
  funs : X.s₀.heap.FunFrames X.base X.outer
  frf : ∀ b ∈ X.fs, X.H₀ b = none

structure Inv (X : Cx) (pins : List (Addr × Obj)) (σ : List (Option V)) (H : Hp) (s : Shared) : Prop where
  ok : X.Ok
  os : s.os = X.s₀.os
  bare : AllBare s.gens
  base : Un X.fs X.ex X.H₀ H X.s₀.heap s.heap
  loc : ∃ m, s.heap.Ns X.env.locals m ∧ ∀ (i : Nat) (x : Str) (v : V), X.N[i]? = some x → σ[i]? = some (some v) → Vis X.env.scope x → ∃ u, RelV v u ∧ Look X.env s.heap m x u
  cell : ∀ x c, X.env.cells.lookup x = some c → ∃ v, s.heap.IsCell c v
  free : H X.env.locals = none
  freeC : ∀ x c, X.env.cells.lookup x = some c → H c = none
  pin : ∀ p ∈ X.pn ++ pins, s.heap.get? p.1 = some p.2 ∧ H p.1 = none ∧ p.1 ≠ X.env.locals ∧ p.1 ∉ X.fs ∧ ∀ v, p.2.data ≠ .cell v
  hok : HOk X.prog X.w H s.heap
  len : σ.length = X.N.length

section
variable {X : Cx} {pins : List (Addr × Obj)} {σ : List (Option V)} {H H' : Hp} {s : Shared} {h' : Heap}

theorem Cx.Ok.nofr (ok : X.Ok) {b : Addr} {o : Obj} (e : X.base.get? b = some o) : b ∉ X.fs := fun hb => by
  have := (ok.funs.mem hb).1
  rw [e] at this; cases this
theorem Inv.bs (I : Inv X pins σ H s) : ∀ b o, X.base.get? b = some o → s.heap.get? b = some o ∧ H b = none := fun b o e =>
  ⟨I.base.keep b o (I.ok.bs b o e).1 (I.ok.bs b o e).2 (I.ok.nofr e) (I.ok.noex b o e), I.base.free b o (I.ok.bs b o e).1 (I.ok.bs b o e).2 (I.ok.noex b o e)⟩
theorem Inv.bk (I : Inv X pins σ H s) : ∀ b o, X.base.get? b = some o → s.heap.get? b = some o := fun b o e => (I.bs b o e).1
theorem Inv.mod (I : Inv X pins σ H s) : Mod X.K X.mg X.base := I.ok.mod
theorem Inv.kIn (I : Inv X pins σ H s) : X.K.In s.heap := I.ok.mod.kin.keeps I.bk
theorem Inv.lt (I : Inv X pins σ H s) : X.env.locals < s.heap.objs.size := let ⟨_, hn, _⟩ := I.loc; hn.lt
theorem Inv.sz (I : Inv X pins σ H s) : X.s₀.heap.objs.size ≤ s.heap.objs.size := Nat.le_trans I.ok.above (Nat.le_of_lt I.lt)
theorem Inv.nofs (I : Inv X pins σ H s) {a : Addr} (h : s.heap.objs.size ≤ a) : a ∉ X.fs := fun hb => by
  obtain ⟨_, o, ho, _⟩ := I.ok.funs.mem hb
  exact absurd (Nat.lt_of_lt_of_le (Heap.lt_size ho) (Nat.le_trans I.sz h)) (Nat.lt_irrefl _)
theorem Inv.cne (I : Inv X pins σ H s) : ∀ x c, X.env.cells.lookup x = some c → c ≠ X.env.locals := fun x c e z => by
  obtain ⟨v, o, ho, hd⟩ := I.cell x c e
  obtain ⟨m, ⟨o', es, ep, ho', hd', _⟩, _⟩ := I.loc
  rw [z, ho'] at ho; cases ho; rw [hd'] at hd; cases hd
theorem Inv.funs (I : Inv X pins σ H s) : s.heap.FunFrames X.base X.outer := by
  have all : ∀ (l : List Env), (∀ b ∈ frs l, b ∈ X.fs) → X.s₀.heap.FunFrames X.base l → s.heap.FunFrames X.base l := by
    intro l
    induction l with
    | nil => intro _ _; trivial
    | cons env r ih =>
      intro hs hl
      obtain ⟨hk, ⟨L, o, hf, hn, ho, hd⟩, hr⟩ := hl
      have hL : L ∈ X.fs := hs L (by unfold frs; rw [List.filterMap_cons, hf]; exact List.mem_cons_self)
      obtain ⟨sl, e⟩ := I.base.slot L o ho (I.ok.frf L hL) hL fun z => I.ok.exfs L z hL
      exact ⟨hk, ⟨L, _, hf, hn, e, hd⟩, ih (fun b hb => hs b (by unfold frs; rw [List.filterMap_cons, hf]; exact List.mem_cons_of_mem _ hb)) hr⟩
  exact all X.outer (fun _ hb => hb) I.ok.funs

/-- the frames that run, for a call -/
theorem Inv.stack (I : Inv X pins σ H s) : s.heap.FunFrames X.base X.stack := by
  rcases I.ok.stk with e | ⟨e, hf⟩
  · rw [e]; exact I.funs
  · rw [e]
    obtain ⟨m, hn, _⟩ := I.loc
    refine .cons (by rw [I.ok.kind]; decide) hf hn ?_ I.funs
    exact Heap.get?_none_of_le (Nat.le_trans I.ok.bsz I.ok.above)
theorem Inv.stkSub (I : Inv X pins σ H s) : ∀ b ∈ frs X.stack, b ∈ X.env.locals :: X.fs := fun b hb => by
  rcases I.ok.stk with e | ⟨e, hf⟩
  · rw [e] at hb; exact List.mem_cons_of_mem _ hb
  · rw [e] at hb
    unfold frs at hb
    rw [List.filterMap_cons, hf] at hb
    exact hb
theorem Inv.stkFree (I : Inv X pins σ H s) : ∀ b ∈ frs X.stack, H b = none := fun b hb => by
  rcases List.mem_cons.mp (I.stkSub b hb) with e | hb
  · rw [e]; exact I.free
  · obtain ⟨_, o, ho, _⟩ := I.ok.funs.mem hb
    exact I.base.free b o ho (I.ok.frf b hb) fun z => I.ok.exfs b z hb

/-- THE STEP: the untracked objects but the frame and the records at ch are kept (the callers' frames up to slots), the frame's map is kept, the new abstract heap is held -/
theorem Inv.step {g' : Array GenState} {t' : Nat} {d' : Drawn} {ch : List Addr} (I : Inv X pins σ H s)
    (hch : ∀ b ∈ ch, (b ∈ X.ex ∨ X.s₀.heap.objs.size ≤ b) ∧ b ≠ X.env.locals ∧ (∀ x c, X.env.cells.lookup x = some c → c ≠ b) ∧ ∀ p ∈ X.pn ++ pins, p.1 ≠ b)
    (keep : ∀ b o, b ≠ X.env.locals → b ∉ X.fs → b ∉ ch → s.heap.get? b = some o → H b = none → h'.get? b = some o)
    (slot : ∀ b o, b ≠ X.env.locals → b ∈ X.fs → b ∉ ch → s.heap.get? b = some o → H b = none → ∃ sl, h'.get? b = some { o with slots := sl }) (free : ∀ b o, b ∉ ch → s.heap.get? b = some o → H b = none → H' b = none)
    (there : ∀ b o, b ∉ ch → s.heap.get? b = some o → ∃ o', h'.get? b = some o')
    (tups : ∀ b xs, H b = some (.tup xs) → H' b = some (.tup xs)) (frzs : ∀ b o u, H b = some (.frz o u) → H' b = some (.frz o u)) (tbls : ∀ b ps, H b = some (.tbl ps) → ∃ more, H' b = some (.tbl (ps ++ more)))
    (ns : ∀ m, s.heap.Ns X.env.locals m → h'.Ns X.env.locals m) (hok : HOk X.prog X.w H' h') (hg : AllBare g') :
    Inv X pins σ H' { s with heap := h', gens := g', drawn := d', toks := t' } := by
  have neL : ∀ b o, X.s₀.heap.get? b = some o → b ≠ X.env.locals := fun b o e => Nat.ne_of_lt (Nat.lt_of_lt_of_le (Heap.lt_size e) I.ok.above)
  have neC : ∀ b o, X.s₀.heap.get? b = some o → b ∉ X.ex → b ∉ ch := fun b o e hx hb => by
    rcases (hch b hb).1 with z | z
    · exact hx z
    · exact absurd (Nat.lt_of_lt_of_le (Heap.lt_size e) z) (Nat.lt_irrefl _)
  have cellK : ∀ x c, X.env.cells.lookup x = some c → ∀ v, s.heap.IsCell c v → h'.IsCell c v := fun x c e v ⟨o, ho, hd⟩ => by
    have nch : c ∉ ch := fun z => (hch c z).2.2.1 x c e rfl
    by_cases hc : c ∈ X.fs
    · obtain ⟨sl, q⟩ := slot c o (I.cne x c e) hc nch ho (I.freeC x c e)
      exact ⟨_, q, hd⟩
    · exact ⟨o, keep c o (I.cne x c e) hc nch ho (I.freeC x c e), hd⟩
  refine ⟨I.ok, I.os, hg, ⟨fun b o e n hb hx => ?_, fun b o e n hb hx => ?_, fun b o e n hx => ?_, fun b o e hx => ?_, fun b xs e => tups b xs (I.base.tups b xs e), fun b o xs e => frzs b o xs (I.base.frzs b o xs e), fun b ps e => ?_⟩, ?_, fun x c e => ?_, ?_, fun x c e => ?_, fun p hp => ?_, hok, I.len⟩
  · exact keep b o (neL b o e) hb (neC b o e hx) (I.base.keep b o e n hb hx) (I.base.free b o e n hx)
  · obtain ⟨sl, e1⟩ := I.base.slot b o e n hb hx
    obtain ⟨sl', e2⟩ := slot b _ (neL b o e) hb (neC b o e hx) e1 (I.base.free b o e n hx)
    exact ⟨sl', e2⟩
  · obtain ⟨o', e1⟩ := I.base.there b o e hx
    exact free b o' (neC b o e hx) e1 (I.base.free b o e n hx)
  · obtain ⟨o', e1⟩ := I.base.there b o e hx
    exact there b o' (neC b o e hx) e1
  · obtain ⟨m1, e1⟩ := I.base.tbls b ps e
    obtain ⟨m2, e2⟩ := tbls b _ e1
    exact ⟨m1 ++ m2, by rw [e2, Array.append_assoc]⟩
  · obtain ⟨m, hn, hl⟩ := I.loc
    refine ⟨m, ns m hn, fun i x v e1 e2 e3 => ?_⟩
    obtain ⟨u, r, l⟩ := hl i x v e1 e2 e3
    refine ⟨u, r, ?_⟩
    rcases l with l | ⟨k, c, e, z⟩
    · exact .inl l
    · exact .inr ⟨k, c, e, cellK x c e _ z⟩
  · obtain ⟨v, z⟩ := I.cell x c e
    exact ⟨v, cellK x c e v z⟩
  · obtain ⟨m, ⟨o, _, _, ho, _⟩, _⟩ := I.loc
    exact free _ o (fun z => (hch _ z).2.1 rfl) ho I.free
  · obtain ⟨v, o, ho, hd⟩ := I.cell x c e
    exact free c o (fun z => (hch c z).2.2.1 x c e rfl) ho (I.freeC x c e)
  · obtain ⟨e, n, ne, nf, d⟩ := I.pin p hp
    have nch : p.1 ∉ ch := fun z => (hch p.1 z).2.2.2 p hp rfl
    exact ⟨keep p.1 p.2 ne nf nch e n, free p.1 p.2 nch e n, ne, nf, d⟩
/-- .. where the frame's own object is kept too -/
theorem Inv.un {t' : Nat} (I : Inv X pins σ H s) (u : Un X.fs [] H H' s.heap h') (hok : HOk X.prog X.w H' h') : Inv X pins σ H' { s with heap := h', toks := t' } := by
  obtain ⟨m, ⟨o, es, ep, ho, r⟩, _⟩ := id I.loc
  obtain ⟨sl, hL⟩ := u.any ho I.free (by simp)
  exact I.step (g' := s.gens) (d' := s.drawn) (ch := []) (fun _ z => nomatch z) (fun b o _ hb _ e n => u.keep b o e n hb (by simp)) (fun b o _ hb _ e n => u.slot b o e n hb (by simp)) (fun b o _ e n => u.free b o e n (by simp)) (fun b o _ e => u.there b o e (by simp)) u.tups u.frzs u.tbls (fun m' hm => by
    obtain ⟨o', es', ep', ho', r'⟩ := hm
    rw [ho] at ho'; cases ho'
    exact ⟨_, es', ep', hL, r'⟩) hok I.bare
/-- behind a call (or a comprehension's block): the slots of this frame may have changed too, the records at ch may have turned -/
theorem Inv.call {g' : Array GenState} {t' : Nat} {d' : Drawn} {ch : List Addr} (I : Inv X pins σ H s) (u : Un (frs X.stack) ch H H' s.heap h') (hok : HOk X.prog X.w H' h') (hg : AllBare g')
    (hch : ∀ b ∈ ch, (b ∈ X.ex ∨ X.s₀.heap.objs.size ≤ b) ∧ b ≠ X.env.locals ∧ (∀ x c, X.env.cells.lookup x = some c → c ≠ b) ∧ ∀ p ∈ X.pn ++ pins, p.1 ≠ b) :
    Inv X pins σ H' { s with heap := h', gens := g', drawn := d', toks := t' } := by
  obtain ⟨m, ⟨o, es, ep, ho, r⟩, _⟩ := id I.loc
  obtain ⟨sl, hL⟩ := u.any ho I.free fun z => (hch _ z).2.1 rfl
  exact I.step (ch := ch) hch (fun b o hL hb hc e n => u.keep b o e n (fun z => (List.mem_cons.mp (I.stkSub b z)).elim hL hb) hc) (fun b o _ _ hc e n => u.any e n hc) (fun b o hc e n => u.free b o e n hc) (fun b o hc e => u.there b o e hc) u.tups u.frzs u.tbls (fun m' hm => by
    obtain ⟨o', es', ep', ho', r'⟩ := hm
    rw [ho] at ho'; cases ho'
    exact ⟨_, es', ep', hL, r'⟩) hok hg
/-- an untracked record of ours (an iterator) has turned -/
theorem Inv.turned {t' : Nat} {it : Addr} (I : Inv X pins σ H s) (k : ∀ b o, b ≠ it → s.heap.get? b = some o → h'.get? b = some o) (hn : H it = none) (hL : it ≠ X.env.locals)
    (h1 : it ∈ X.ex ∨ X.s₀.heap.objs.size ≤ it) (h2 : ∀ x c, X.env.cells.lookup x = some c → c ≠ it) (h3 : ∀ p ∈ X.pn ++ pins, p.1 ≠ it) : Inv X pins σ H { s with heap := h', toks := t' } := by
  have nit : ∀ b u, H b = some u → b ≠ it := fun b u e z => by rw [z, hn] at e; cases e
  refine I.step (g' := s.gens) (d' := s.drawn) (ch := [it]) (fun b hb => ?_) (fun b o _ _ hc e _ => k b o (fun z => hc (by simp [z])) e) (fun b o _ _ hc e _ => ⟨o.slots, k b o (fun z => hc (by simp [z])) e⟩) (fun _ _ _ _ n => n)
    (fun b o hc e => ⟨o, k b o (fun z => hc (by simp [z])) e⟩) (fun _ _ e => e) (fun _ _ _ e => e) (fun b ps e => ⟨#[], by rw [e]; simp⟩) (fun m hm => ?_) (fun b u e => ?_) I.bare
  · have e : b = it := by simpa using hb
    subst e
    exact ⟨h1, hL, h2, h3⟩
  · obtain ⟨o, es, ep, ho, r⟩ := hm
    exact ⟨o, es, ep, k _ o (Ne.symm hL) ho, r⟩
  · refine (I.hok b u e).stay (fun c v hc q => k c v ?_ q) (fun _ q => q) fun _ _ q => q
    rcases hc with z | z
    · rw [z]; exact nit b u e
    · exact nit c _ z
theorem Inv.tok (I : Inv X pins σ H s) (t : Nat) : Inv X pins σ H { s with toks := t } := I.un (h' := s.heap) (t' := t) Un.refl I.hok
/-- all objects kept -/
theorem Inv.kept {t' : Nat} (I : Inv X pins σ H s) (k : ∀ b u, s.heap.get? b = some u → h'.get? b = some u) : Inv X pins σ H { s with heap := h', toks := t' } := I.un (Un.kept k) (I.hok.kept k)
/-- a new object laid and tracked -/
theorem Inv.laid {a : Addr} {o : HO} {t' : Nat} (I : Inv X pins σ H s) (k : ∀ b u, s.heap.get? b = some u → h'.get? b = some u) (hp : s.heap.objs.size ≤ a) (new : ObjOk X.prog X.w (upd H a o) h' a o) :
    Inv X pins σ (upd H a o) { s with heap := h', toks := t' } := I.un (Un.laid k hp (I.hok.fresh hp)) (I.hok.laid k hp new)
/-- an object written -/
theorem Inv.write {x e : Addr} {o : HO} {t' : Nat} (I : Inv X pins σ H s) (mu : Mut (H x)) (he : e = x ∨ H e = some (.own x)) (k : ∀ b u, b ≠ e → s.heap.get? b = some u → h'.get? b = some u) (heo : ∃ u, h'.get? e = some u)
    (new : ObjOk X.prog X.w (upd H x o) h' x o) : Inv X pins σ (upd H x o) { s with heap := h', toks := t' } := I.un (Un.write mu he k heo) (I.hok.write mu he k heo new)
theorem Inv.pins_of {pins' : List (Addr × Obj)} (I : Inv X pins σ H s) (h : ∀ p ∈ pins', s.heap.get? p.1 = some p.2 ∧ H p.1 = none ∧ p.1 ≠ X.env.locals ∧ p.1 ∉ X.fs ∧ ∀ v, p.2.data ≠ .cell v) : Inv X pins' σ H s :=
  ⟨I.ok, I.os, I.bare, I.base, I.loc, I.cell, I.free, I.freeC, fun p hp => (List.mem_append.mp hp).elim (fun z => I.pin p (List.mem_append_left _ z)) (h p), I.hok, I.len⟩

theorem nodup_ix {N : List Str} (hN : N.Nodup) {i j : Nat} {x : Str} (a : N[i]? = some x) (b : N[j]? = some x) : i = j := by
  obtain ⟨h1, e1⟩ := List.getElem?_eq_some_iff.mp a
  obtain ⟨h2, e2⟩ := List.getElem?_eq_some_iff.mp b
  exact (List.getElem_inj hN).mp (e1.trans e2.symm)

/-- a name is stored; what changed -/
theorem store_ok2 {M : Model} {A : Around} {E : Value → Shared → Prop} {i : Nat} {x : Str} {v : V} {u : Value} {Q : Unit → Shared → Prop} (I : Inv X pins σ H s) (hN : X.N.Nodup) (hi : X.N[i]? = some x) (hx : Loc X.env.scope x) (r : RelV v u)
    (h : ∀ s', Inv X pins (σ.set i (some v)) H s' → (∃ a, Heap.SameBut a s.heap s'.heap ∧ (a = X.env.locals ∨ X.env.cells.lookup x = some a)) → Q () s') (hf : X.fn x = true ∨ X.env.scope.names.lookup x = some .local := by first | exact .inl rfl | exact .inr rfl | assumption) : wpAny M A (storeName X.env x u) Q E s := by
  obtain ⟨m, hn, hl⟩ := id I.loc
  have hcls : (X.env.scope.kind == .class || (X.env.scope.kind == .module && X.env.locals != X.env.globals)) = false := by rw [I.ok.kind]; rfl
  have hiσ : i < σ.length := by rw [I.len]; exact (List.getElem?_eq_some_iff.mp hi).1
  have cne := I.cne
  have tracked : ∀ {a : Addr} {h' : Heap}, (∃ o, s.heap.get? a = some o ∧ H a = none) → Heap.SameBut a s.heap h' → HOk X.prog X.w H h' := fun {a h'} ha hs b ob e => by
    obtain ⟨_, _, hfree⟩ := ha
    refine (I.hok b ob e).stay (fun c w' hc q => (hs.2 c ?_).trans q) (fun _ q => q) fun _ _ q => q
    rintro rfl
    rcases hc with rfl | hc
    · rw [hfree] at e; cases e
    · rw [hfree] at hc; cases hc
  rcases hx with hk | hk
  · refine wpAny_storeName_local hk hn (fun h' hn' hs => ?_) hcls
    obtain ⟨oL, _, _, hoL, _⟩ := id hn
    refine h _ ⟨I.ok, I.os, I.bare, ⟨fun b o e n hb hx => ?_, fun b o e n hb hx => ?_, I.base.free, fun b o e hx => ?_, I.base.tups, I.base.frzs, I.base.tbls⟩, ⟨_, hn', fun j y v' e1 e2 e3 => ?_⟩, fun y c e => ?_, I.free, I.freeC, fun p hp => ?_, tracked ⟨oL, hoL, I.free⟩ hs, by simpa using I.len⟩ ⟨_, hs, .inl rfl⟩
    · exact (hs.2 b (Nat.ne_of_lt (Nat.lt_of_lt_of_le (Heap.lt_size e) I.ok.above))).trans (I.base.keep b o e n hb hx)
    · obtain ⟨sl, e1⟩ := I.base.slot b o e n hb hx
      exact ⟨sl, (hs.2 b (Nat.ne_of_lt (Nat.lt_of_lt_of_le (Heap.lt_size e) I.ok.above))).trans e1⟩
    · obtain ⟨o', e1⟩ := I.base.there b o e hx
      exact ⟨o', (hs.2 b (Nat.ne_of_lt (Nat.lt_of_lt_of_le (Heap.lt_size e) I.ok.above))).trans e1⟩
    · by_cases hj : j = i
      · subst hj
        rw [hi] at e1; cases e1
        rw [List.getElem?_set_self hiσ] at e2
        cases e2
        exact ⟨u, r, .inl ⟨hk, by simp⟩⟩
      · rw [List.getElem?_set_ne (Ne.symm hj)] at e2
        obtain ⟨u', r', q⟩ := hl j y v' e1 e2 e3
        refine ⟨u', r', ?_⟩
        rcases q with ⟨k, e⟩ | ⟨k, c, e, z⟩
        · refine .inl ⟨k, ?_⟩
          have : y ≠ x := fun e => hj (nodup_ix hN e1 (e ▸ hi))
          simp [this, e]
        · exact .inr ⟨k, c, e, z.sameBut hs (cne y c e)⟩
    · obtain ⟨w', z⟩ := I.cell y c e
      exact ⟨w', z.sameBut hs (cne y c e)⟩
    · obtain ⟨e, n, ne, nf, d⟩ := I.pin p hp
      exact ⟨(hs.2 p.1 ne).trans e, n, ne, nf, d⟩
  · have hfn : X.fn x = true := by
      rcases hf with z | z
      · exact z
      · rw [z] at hk; cases hk
    obtain ⟨c, hc⟩ := I.ok.has x (.inl hk)
    obtain ⟨w', z⟩ := I.cell x c hc
    refine wpAny_storeName_cell I.ok.kind hk hc z (fun h' hc' hs => ?_)
    obtain ⟨oc, hoc, hocd⟩ := id z
    refine h { s with heap := h' } ⟨I.ok, I.os, I.bare, ⟨fun b o e n hb hx => ?_, fun b o e n hb hx => ?_, I.base.free, fun b o e hx => ?_, I.base.tups, I.base.frzs, I.base.tbls⟩, ⟨m, hn.sameBut hs (Ne.symm (cne x c hc)), fun j y v' e1 e2 e3 => ?_⟩, fun y c' e => ?_, I.free, I.freeC, fun p hp => ?_, tracked ⟨oc, hoc, I.freeC x c hc⟩ hs, by simpa using I.len⟩ ⟨c, hs, .inr hc⟩
    · exact (hs.2 b (Nat.ne_of_lt (Nat.lt_of_lt_of_le (Heap.lt_size e) (I.ok.cab x c hfn hc)))).trans (I.base.keep b o e n hb hx)
    · obtain ⟨sl, e1⟩ := I.base.slot b o e n hb hx
      exact ⟨sl, (hs.2 b (Nat.ne_of_lt (Nat.lt_of_lt_of_le (Heap.lt_size e) (I.ok.cab x c hfn hc)))).trans e1⟩
    · obtain ⟨o', e1⟩ := I.base.there b o e hx
      exact ⟨o', (hs.2 b (Nat.ne_of_lt (Nat.lt_of_lt_of_le (Heap.lt_size e) (I.ok.cab x c hfn hc)))).trans e1⟩
    · by_cases hj : j = i
      · subst hj
        rw [hi] at e1; cases e1
        rw [List.getElem?_set_self hiσ] at e2
        cases e2
        exact ⟨u, r, .inr ⟨.inl hk, c, hc, hc'⟩⟩
      · rw [List.getElem?_set_ne (Ne.symm hj)] at e2
        obtain ⟨u', r', q⟩ := hl j y v' e1 e2 e3
        refine ⟨u', r', ?_⟩
        rcases q with q | ⟨k, c', e, z'⟩
        · exact .inl q
        · refine .inr ⟨k, c', e, z'.sameBut hs ?_⟩
          rintro rfl
          exact hj (nodup_ix hN e1 (I.ok.inj _ _ _ e hc ▸ hi))
    · by_cases hcc : c' = c
      · subst hcc; exact ⟨_, hc'⟩
      · obtain ⟨w2, z2⟩ := I.cell y c' e
        exact ⟨w2, z2.sameBut hs hcc⟩
    · obtain ⟨e, n, ne, nf, d⟩ := I.pin p hp
      refine ⟨(hs.2 p.1 ?_).trans e, n, ne, nf, d⟩
      intro q
      rw [q, hoc] at e
      have q' : oc = p.2 := Option.some.inj e
      exact d w' (by rw [← q']; exact hocd)
theorem store_ok {M : Model} {A : Around} {E : Value → Shared → Prop} {i : Nat} {x : Str} {v : V} {u : Value} {Q : Unit → Shared → Prop} (I : Inv X pins σ H s) (hN : X.N.Nodup) (hi : X.N[i]? = some x) (hx : Loc X.env.scope x) (r : RelV v u)
    (h : ∀ s', Inv X pins (σ.set i (some v)) H s' → Q () s') (hf : X.fn x = true ∨ X.env.scope.names.lookup x = some .local := by first | exact .inl rfl | exact .inr rfl | assumption) : wpAny M A (storeName X.env x u) Q E s :=
  store_ok2 I hN hi hx r (fun s' I' _ => h s' I') hf
/-- behind a call or a block, the state as it is -/
theorem Inv.call' {s' : Shared} {ch : List Addr} (I : Inv X pins σ H s) (ho : s'.os = s.os) (u : Un (frs X.stack) ch H H' s.heap s'.heap) (hok : HOk X.prog X.w H' s'.heap) (hg : AllBare s'.gens)
    (hch : ∀ b ∈ ch, (b ∈ X.ex ∨ X.s₀.heap.objs.size ≤ b) ∧ b ≠ X.env.locals ∧ (∀ x c, X.env.cells.lookup x = some c → c ≠ b) ∧ ∀ p ∈ X.pn ++ pins, p.1 ≠ b) : Inv X pins σ H' s' := by
  obtain ⟨h', g', d', t', o'⟩ := s'
  have e : o' = s.os := ho
  subst e
  exact I.call (g' := g') (t' := t') (d' := d') u hok hg hch
end

/-! ### the judgements -/
/-- an exception: its class, its own dict's address (where it has one), the abstract heap behind it -/
abbrev XK := Value → Option Addr → Hp → Prop
abbrev St := List (Option V)
abbrev VK := V → Hp → Prop
/-- an expression's reading; a test's; an argument list's -/
abbrev TE := St → Hp → VK → Prop
abbrev TT := St → Hp → (Bool → Hp → Prop) → Prop
abbrev TA := St → Hp → (List V → Hp → Prop) → Prop
/-- what is wanted behind a statement -/
structure Ends where
  nx : St → Hp → Prop
  rt : VK
  bk : St → Hp → Prop := fun _ _ => False
  ct : St → Hp → Prop := fun _ _ => False
abbrev TS := Ends → St → Hp → Prop

def EP (X : Cx) (pins : List (Addr × Obj)) (σ : St) (Q : VK) (u : Value) (s' : Shared) : Prop := ∃ v H', Inv X pins σ H' s' ∧ RelV v u ∧ Q v H'
def TP (X : Cx) (pins : List (Addr × Obj)) (σ : St) (Q : Bool → Hp → Prop) (b : Bool) (s' : Shared) : Prop := ∃ H', Inv X pins σ H' s' ∧ Q b H'
def AP (X : Cx) (pins : List (Addr × Obj)) (σ : St) (Q : List V → Hp → Prop) (us : List Value) (s' : Shared) : Prop := ∃ vs H', Inv X pins σ H' s' ∧ Vals vs us ∧ Q vs H'
def SP (X : Cx) (pins : List (Addr × Obj)) (D : Ends) (f : Flow) (s' : Shared) : Prop :=
  match f with
  | .next => ∃ σ' H', Inv X pins σ' H' s' ∧ D.nx σ' H'
  | .brk => ∃ σ' H', Inv X pins σ' H' s' ∧ D.bk σ' H'
  | .cont => ∃ σ' H', Inv X pins σ' H' s' ∧ D.ct σ' H'
  | .ret u => ∃ v σ' H', Inv X pins σ' H' s' ∧ RelV v u ∧ D.rt v H'

def PE (X : Cx) (e : Expr) (t : TE) : Prop :=
  ∀ (pins : List (Addr × Obj)) (s : Shared) (σ : St) (H : Hp) (Q : VK), Inv X pins σ H s → t σ H Q → wpAny (model X.prog X.w) X.A (eval e X.env) (EP X pins σ Q) X.xe s
def PT (X : Cx) (e : Expr) (t : TT) : Prop :=
  ∀ (pins : List (Addr × Obj)) (s : Shared) (σ : St) (H : Hp) (Q : Bool → Hp → Prop), Inv X pins σ H s → t σ H Q → wpAny (model X.prog X.w) X.A (isTrue e X.env (eval e X.env)) (TP X pins σ Q) X.xe s
/-- a test whatever its 'whole' is (and, or) -/
def PW (X : Cx) (e : Expr) (t : TT) : Prop :=
  ∀ (whole : Sem Value) (pins : List (Addr × Obj)) (s : Shared) (σ : St) (H : Hp) (Q : Bool → Hp → Prop), Inv X pins σ H s → t σ H Q → wpAny (model X.prog X.w) X.A (isTrue e X.env whole) (TP X pins σ Q) X.xe s
theorem PW.pt {X : Cx} {e : Expr} {t : TT} (h : PW X e t) : PT X e t := h _
/-- an argument list (no star), from the left -/
def PA (X : Cx) (es : List Expr) (t : TA) : Prop :=
  ∀ (pos : Pos) (pins : List (Addr × Obj)) (s : Shared) (σ : St) (H : Hp) (Q : List V → Hp → Prop), Inv X pins σ H s → t σ H Q → wpAny (model X.prog X.w) X.A (spliced (backTo pos (starEach es X.env))) (AP X pins σ Q) X.xe s
def PS (X : Cx) (st : Stmt) (t : TS) : Prop :=
  ∀ (pins : List (Addr × Obj)) (s : Shared) (σ : St) (H : Hp) (D : Ends), Inv X pins σ H s → t D σ H → wpAny (model X.prog X.w) X.A (exec st X.env) (SP X pins D) X.xe s
def PSs (X : Cx) (st : List Stmt) (t : TS) : Prop :=
  ∀ (pins : List (Addr × Obj)) (s : Shared) (σ : St) (H : Hp) (D : Ends), Inv X pins σ H s → t D σ H → wpAny (model X.prog X.w) X.A (execs st X.env) (SP X pins D) X.xe s
/-- weaken the end -/
theorem thn {α : Type} {t : Sem α} {Q Q' : α → Shared → Prop} {M : Model} {A : Around} {E : Value → Shared → Prop} {s : Shared} (h : wpAny M A t Q E s) (hQ : ∀ a s, Q a s → Q' a s) : wpAny M A t Q' E s := wpAny_mono h hQ fun _ _ x => x
end L2

namespace L2
open PySem PySem.Spec PyProof.Rows
section
variable {X : Cx}

/-! ### names and constants -/
def tVar (i : Nat) : TE := fun σ H Q => ∃ v, σ[i]? = some (some v) ∧ Q v H
def tC (v : V) : TE := fun _ H Q => Q v H
theorem pe_var {i : Nat} {x : Str} {pos : Pos} (hN : X.N[i]? = some x) (hv : Vis X.env.scope x) (hd : (x == ("__debug__" : Str)) = false := by decide) (hcd : (x == ("__classdict__" : Str)) = false := by decide) : PE X (.Name x pos) (tVar i) := by
  intro pins s σ H Q I h
  obtain ⟨v, e, h⟩ := h
  obtain ⟨m, hn, hl⟩ := I.loc
  obtain ⟨u, r, l⟩ := hl i x v hN e hv
  have fin : EP X pins σ Q u s := ⟨v, H, I, r, h⟩
  rcases l with ⟨hk, hm⟩ | ⟨hk, c, hc, hcell⟩
  · exact wpAny_Name (wpAny_loadName_local I.ok.kind hk hn hm fin) hd
  · rcases hk with hk | hk
    · exact wpAny_Name (wpAny_loadName_cell I.ok.kind hk hc hcell fin) hd
    · exact wpAny_Name (wpAny_loadName_free I.ok.kind hk hc hcell fin hcd) hd
theorem pe_int {i j pos} : PE X (.Constant (.int i) j pos) (tC (.int i)) := fun _ _ _ H _ I h => wpAny_Constant_int ⟨.int i, H, I.tok _, ⟨_, rfl⟩, h⟩
theorem pe_bl {b j pos} : PE X (.Constant (.bool b) j pos) (tC (.bl b)) := fun _ _ _ H _ I h => Constant_bool ⟨.bl b, H, I, rfl, h⟩
theorem pe_non {j pos} : PE X (.Constant .none j pos) (tC .non) := fun _ _ _ H _ I h => Constant_none ⟨.non, H, I, rfl, h⟩
theorem pe_str {x j pos} : PE X (.Constant (.str x) j pos) (tC (.str x)) := fun _ _ _ H _ I h => Calls.Constant_str ⟨.str x, H, I.tok _, ⟨_, rfl⟩, h⟩

/-- a global name of the def -/
def Gl (X : Cx) (x : Str) : Prop := X.env.kindOf x = some .globalImplicit
theorem ld_glob {E : Value → Shared → Prop} {pins : List (Addr × Obj)} {s : Shared} {σ : St} {H : Hp} {x : Str} {u : Value} {pos : Pos} {Q : Value → Shared → Prop} (I : Inv X pins σ H s) (hg : Gl X x) (hm : X.mg x = some u) (h : Q u s)
    (hd : (x == ("__debug__" : Str)) = false := by decide) : wpAny (model X.prog X.w) X.A (eval (.Name x pos) X.env) Q E s :=
  Calls.Name_function_global I.ok.kind hg (Calls.loadGlobal_global (by rw [I.ok.glob]; exact I.mod.glob.keeps I.bk) hm h) hd
theorem ld_blt {E : Value → Shared → Prop} {pins : List (Addr × Obj)} {s : Shared} {σ : St} {H : Hp} {x : Str} {u : Value} {pos : Pos} {Q : Value → Shared → Prop} (I : Inv X pins σ H s) (hg : Gl X x) (hm : X.mg x = none) (hv : bootBuiltins x = some u) (h : Q u s)
    (hn : x ≠ "__name__" := by decide) (hd : (x == ("__debug__" : Str)) = false := by decide) : wpAny (model X.prog X.w) X.A (eval (.Name x pos) X.env) Q E s := by
  obtain ⟨mb, h1, h2⟩ := I.mod.blt
  exact Calls.Name_function_global I.ok.kind hg (Calls.loadGlobal_builtin (by rw [I.ok.glob]; exact I.mod.glob.keeps I.bk) hm (by rw [I.ok.blt]; exact h1.keeps I.bk) ((h2 x hn).trans hv) h) hd
/-- a module's constant, a class, a function, as a value -/
theorem pe_glob {x : Str} {v : V} {u : Value} {pos : Pos} (hg : Gl X x) (hm : X.mg x = some u) (r : RelV v u) (hd : (x == ("__debug__" : Str)) = false := by decide) : PE X (.Name x pos) (tC v) :=
  fun _ _ _ H _ I h => ld_glob I hg hm ⟨v, H, I, r, h⟩ hd
theorem pe_bltn {x : Str} {v : V} {u : Value} {pos : Pos} (hg : Gl X x) (hm : X.mg x = none) (hv : bootBuiltins x = some u) (r : RelV v u) (hn : x ≠ "__name__" := by decide) (hd : (x == ("__debug__" : Str)) = false := by decide) : PE X (.Name x pos) (tC v) :=
  fun _ _ _ H _ I h => ld_blt I hg hm hv ⟨v, H, I, r, h⟩ hn hd

/-! ### arithmetic -/
variable {a b : Expr} {ta tb : TE} {pos : Pos}
/-! ### comparisons -/
def PC (X : Cx) (op : CmpOp) (a b : Expr) (t : TE) : Prop :=
  ∀ (pins : List (Addr × Obj)) (s : Shared) (σ : St) (H : Hp) (Q : VK), Inv X pins σ H s → t σ H Q →
    wpAny (model X.prog X.w) X.A (eval a X.env) (fun v s₁ => wpAny (model X.prog X.w) X.A (eval b X.env) (fun u s₂ => wpAny (model X.prog X.w) X.A (compareOp op v u) (EP X pins σ Q) X.xe s₂) X.xe s₁) X.xe s
/-- a comparison as a value, as a test -/
def tB (t : TE) : TT := fun σ H Q => t σ H fun x H1 => ∃ c, x = .bl c ∧ Q c H1
theorem pt_cmp {op : CmpOp} {t : TE} (h : PC X op a b t) (h1 : behindInMarks op b = false := by first | exact nobehind _ (by decide) (by decide) | rfl) : PT X (.Compare a [op] [b] pos) (tB t) := by
  intro pins s σ H Q I hw
  refine wpAny_isTrue_Compare1 (thn (h pins s σ H _ I hw) fun v s1 h1 => thn h1 fun u s2 h2 => thn h2 fun c s3 ⟨x, H1, I1, r1, q1⟩ => ?_) h1
  obtain ⟨d, rfl, q⟩ := q1
  cases r1
  exact wpAny_truthy_bool ⟨H1, I1, q⟩
/-- an expression whose value is a bool, as a test -/
theorem pt_val {e : Expr} {t : TE} (h : PE X e t) (he : ∀ whole, isTrue e X.env whole = (do let v ← whole; standAt e.pos; holding [v] (truthy v)) := by intro _; rfl) : PT X e (tB t) := by
  intro pins s σ H Q I hw
  refine isTrue_plain (thn (h pins s σ H _ I hw) fun v s1 ⟨x, H1, I1, r1, q1⟩ => ?_) (he _)
  obtain ⟨d, rfl, q⟩ := q1
  cases r1
  exact wpAny_truthy_bool ⟨H1, I1, q⟩

/-! ### and, or, not -/
variable {tA tB' : TT} {rest : List Expr}
def tAnd (t u : TT) : TT := fun σ H Q => t σ H fun c H1 => if c = true then u σ H1 Q else Q false H1
def tOr (t u : TT) : TT := fun σ H Q => t σ H fun c H1 => if c = true then Q true H1 else u σ H1 Q
def tNot (t : TT) : TT := fun σ H Q => t σ H fun c H1 => Q (!c) H1
theorem pw_and1 (ha : PT X a tA) : PW X (.BoolOp .And [a] pos) tA := by
  intro wh pins s σ H Q I h
  refine isTrue_and (thn (ha pins s σ H Q I h) fun c s1 e => ?_)
  cases c with
  | true => exact isTrue_and_nil e
  | false => exact e
theorem pw_or1 (ha : PT X a tA) : PW X (.BoolOp .Or [a] pos) tA := by
  intro wh pins s σ H Q I h
  refine isTrue_or (thn (ha pins s σ H Q I h) fun c s1 e => ?_)
  cases c with
  | false => exact isTrue_or_nil e
  | true => exact e
theorem pw_and (ha : PT X a tA) (hb : PW X (.BoolOp .And (b :: rest) pos) tB') : PW X (.BoolOp .And (a :: b :: rest) pos) (tAnd tA tB') := by
  intro wh pins s σ H Q I h
  refine isTrue_and (thn (ha pins s σ H _ I h) fun c s1 ⟨H1, I1, q1⟩ => ?_)
  cases c with
  | true => exact hb wh pins s1 σ H1 Q I1 q1
  | false => exact ⟨H1, I1, q1⟩
theorem pw_or (ha : PT X a tA) (hb : PW X (.BoolOp .Or (b :: rest) pos) tB') : PW X (.BoolOp .Or (a :: b :: rest) pos) (tOr tA tB') := by
  intro wh pins s σ H Q I h
  refine isTrue_or (thn (ha pins s σ H _ I h) fun c s1 ⟨H1, I1, q1⟩ => ?_)
  cases c with
  | true => exact ⟨H1, I1, q1⟩
  | false => exact hb wh pins s1 σ H1 Q I1 q1
theorem pt_not (ha : PT X a tA) : PT X (.UnaryOp .Not a pos) (tNot tA) := by
  intro pins s σ H Q I h
  exact isTrue_not (ha pins s σ H (fun c H1 => Q (!c) H1) I h)
/-- .. as values (bools) -/
def tAndV (ta tb : TE) : TE := fun σ H Q => ta σ H fun x H1 => ∃ c, x = .bl c ∧ if c = true then tb σ H1 Q else Q (.bl false) H1
def tNotV (ta : TE) : TE := fun σ H Q => ta σ H fun x H1 => ∃ c, x = .bl c ∧ Q (.bl (!c)) H1
theorem pe_one {op} {t : TE} (h : PE X a t) : PE X (.BoolOp op [a] pos) t := fun pins s σ H Q I hw => BoolOp_one (h pins s σ H Q I hw)
theorem pe_and (ha : PE X a ta) (hb : PE X (.BoolOp .And (b :: rest) pos) tb) : PE X (.BoolOp .And (a :: b :: rest) pos) (tAndV ta tb) := by
  intro pins s σ H Q I h
  refine BoolOp_and (thn (ha pins s σ H _ I h) fun v s1 ⟨x, H1, I1, r1, q1⟩ => ?_)
  obtain ⟨c, rfl, q1⟩ := q1
  cases r1
  refine wpAny_truthy_bool ?_
  cases c with
  | true => exact hb pins s1 σ H1 Q I1 q1
  | false => exact ⟨.bl false, H1, I1, rfl, q1⟩
theorem pe_not (ha : PE X a ta) : PE X (.UnaryOp .Not a pos) (tNotV ta) := by
  intro pins s σ H Q I h
  refine UnaryOp_ (thn (ha pins s σ H _ I h) fun v s1 ⟨x, H1, I1, r1, q1⟩ => ?_)
  obtain ⟨c, rfl, q1⟩ := q1
  cases r1
  exact not_of (wpAny_truthy_bool ⟨.bl (!c), H1, I1, rfl, q1⟩)
end
end L2

namespace L2
open PySem PySem.Spec PyProof.Rows

/-! ### a list, a tuple that is read: tracked, frozen, or an object of the module -/
def SqL (K : PySem.W.Frag) (H : Hp) (a : Addr) (xs : List V) : Prop :=
  Rd H a (.lst xs) ∨
    ∃ (o : Obj) (its : Array Value) (n : Nat), K.lookup a = some o ∧ o.cls = .type "list" ∧ o.dict = none ∧ o.data = .seq its n ∧ its.size ≤ sizeLine ∧ Vals xs its.toList
def SqT (K : PySem.W.Frag) (H : Hp) (a : Addr) (xs : List V) : Prop :=
  Rd H a (.tup xs) ∨
    ∃ (o : Obj) (its : Array Value) (n : Nat), K.lookup a = some o ∧ o.cls = .type "tuple" ∧ o.data = .seq its n ∧ its.size ≤ sizeLine ∧ Vals xs its.toList
def absV : Value → Option V
  | .none => some .non
  | .bool b => some (.bl b)
  | .int i _ => some (.int i)
  | .str x _ => some (.str x)
  | .bytes b _ => some (.byt b)
  | .float b _ => some (.flt b)
  | .ref a => some (.ref a)
  | .type n => some (.ty n)
  | _ => none
theorem RelV.abs {x : V} {u : Value} (r : RelV x u) : absV u = some x := by
  cases x with
  | non => cases r; rfl
  | bl _ => cases r; rfl
  | int _ => obtain ⟨t, rfl⟩ := r; rfl
  | str _ => obtain ⟨t, rfl⟩ := r; rfl
  | byt _ => obtain ⟨t, rfl⟩ := r; rfl
  | flt _ => obtain ⟨t, rfl⟩ := r; rfl
  | ref _ => cases r; rfl
  | ty _ => cases r; rfl
theorem RelV.inj {x y : V} {u : Value} (r : RelV x u) (q : RelV y u) : x = y := Option.some.inj (r.abs.symm.trans q.abs)
theorem Vals.inj : ∀ {xs ys : List V} {us : List Value}, Vals xs us → Vals ys us → xs = ys
  | _, _, _, .nil, .nil => rfl
  | _, _, _, .cons r t, .cons r' t' => by rw [r.inj r', Vals.inj t t']
section
variable {X : Cx} {pins : List (Addr × Obj)} {σ : St} {H : Hp} {s : Shared} {a : Addr} {xs ys : List V}
theorem SqL.of {K : PySem.W.Frag} (h : H a = some (.lst xs)) : SqL K H a xs := .inl (.inl h)
theorem SqT.of {K : PySem.W.Frag} (h : H a = some (.tup xs)) : SqT K H a xs := .inl (.inl h)
theorem Inv.list (I : Inv X pins σ H s) (h : SqL X.K H a xs) : ∃ its : List Value, Vals xs its ∧ PlainL s.heap a its.toArray ∧ xs.length ≤ sizeLine := by
  rcases h with h | ⟨o, its, n, hk, hc, hd, hs, hz, r⟩
  · obtain ⟨z, its, n, r, e⟩ := h.ok I.hok
    exact ⟨its, r, ⟨_, n, e, rfl, rfl, rfl⟩, z⟩
  · refine ⟨its.toList, r, ⟨o, n, I.kIn a o hk, hc, hd, by simpa using hs⟩, ?_⟩
    have e := r.length
    simp only [Array.length_toList] at e
    omega
theorem Inv.tuple (I : Inv X pins σ H s) (h : SqT X.K H a xs) : ∃ its : List Value, Vals xs its ∧ IsTup s.heap a its.toArray ∧ xs.length ≤ sizeLine := by
  rcases h with h | ⟨o, its, n, hk, hc, hs, hz, r⟩
  · obtain ⟨z, its, r, p⟩ := h.ok I.hok
    exact ⟨its, r, p, z⟩
  · refine ⟨its.toList, r, ⟨o, I.kIn a o hk, hc, n, by simpa using hs⟩, ?_⟩
    have e := r.length
    simp only [Array.length_toList] at e
    omega
theorem Inv.list_inj (I : Inv X pins σ H s) (h : SqL X.K H a xs) (h' : SqL X.K H a ys) : xs = ys := by
  obtain ⟨its, r, ⟨o, n, e, _, _, d⟩, _⟩ := I.list h
  obtain ⟨its', r', ⟨o', n', e', _, _, d'⟩, _⟩ := I.list h'
  rw [e] at e'; cases e'
  rw [d] at d'
  injection d' with d1 _
  have : its = its' := by simpa using congrArg Array.toList d1
  subst this
  exact r.inj r'
end

/-! ### another wish about exceptions -/
abbrev Cx.wish (X : Cx) (E : Value → Shared → Prop) : Cx := { X with xe := E }
/-- no exception leaves -/
abbrev Cx.nox (X : Cx) : Cx := X.wish fun _ _ => False
theorem Cx.Ok.wish {X : Cx} (ok : X.Ok) (E : Value → Shared → Prop) : (X.wish E).Ok :=
  ⟨ok.mod, ok.kind, ok.glob, ok.blt, ok.above, ok.inj, ok.has, ok.cab, ok.hd, ok.frames, ok.stk, ok.exf, ok.bs, ok.bsz, ok.noex, ok.exfs, ok.funs, ok.frf⟩
theorem Cx.Ok.unwish {X : Cx} {E : Value → Shared → Prop} (ok : (X.wish E).Ok) : X.Ok :=
  ⟨ok.mod, ok.kind, ok.glob, ok.blt, ok.above, ok.inj, ok.has, ok.cab, ok.hd, ok.frames, ok.stk, ok.exf, ok.bs, ok.bsz, ok.noex, ok.exfs, ok.funs, ok.frf⟩
section
variable {X : Cx} {pins : List (Addr × Obj)} {σ : St} {H : Hp} {s : Shared} {E : Value → Shared → Prop}
theorem Inv.wish (I : Inv X pins σ H s) (E : Value → Shared → Prop) : Inv (X.wish E) pins σ H s := ⟨I.ok.wish E, I.os, I.bare, I.base, I.loc, I.cell, I.free, I.freeC, I.pin, I.hok, I.len⟩
theorem Inv.unwish (I : Inv (X.wish E) pins σ H s) : Inv X pins σ H s := ⟨I.ok.unwish, I.os, I.bare, I.base, I.loc, I.cell, I.free, I.freeC, I.pin, I.hok, I.len⟩
theorem SP.unwish {D : Ends} {f : Flow} {s' : Shared} (h : SP (X.wish E) pins D f s') : SP X pins D f s' := by
  cases f with
  | next => obtain ⟨σ', H', I, q⟩ := h; exact ⟨σ', H', I.unwish, q⟩
  | brk => obtain ⟨σ', H', I, q⟩ := h; exact ⟨σ', H', I.unwish, q⟩
  | cont => obtain ⟨σ', H', I, q⟩ := h; exact ⟨σ', H', I.unwish, q⟩
  | ret u => obtain ⟨v, σ', H', I, r, q⟩ := h; exact ⟨v, σ', H', I.unwish, r, q⟩
theorem PSs.nox {st : List Stmt} {t : TS} (h : PSs X.nox st t) : PSs X st t := fun pins s σ H D I hw =>
  wpAny_mono (h pins s σ H D (I.wish _) hw) (fun _ _ q => q.unwish) fun _ _ z => False.elim z
end

/-! ### blocks and small statements -/
section
variable {X : Cx} {st : Stmt} {rest : List Stmt} {t u : TS} {e : Expr} {te : TE} {pos : Pos}
def tNext : TS := fun D σ H => D.nx σ H
def tSeq (t u : TS) : TS := fun D σ H => t { D with nx := u D } σ H
theorem pss_nil : PSs X [] tNext := fun _ _ σ H _ I h => wpAny_execs_nil ⟨σ, H, I, h⟩
theorem pss_cons (h1 : PS X st t) (h2 : PSs X rest u) : PSs X (st :: rest) (tSeq t u) := by
  intro pins s σ H D I h
  refine wpAny_execs_cons (thn (h1 pins s σ H { D with nx := u D } I h) fun f s1 q => ?_)
  cases f with
  | next =>
    obtain ⟨σ', H', I', q⟩ := q
    exact h2 pins s1 σ' H' D I' q
  | ret v => exact q
  | brk => exact q
  | cont => exact q
theorem pss_one (h1 : PS X st t) : PSs X [st] t := by
  intro pins s σ H D I h
  refine wpAny_execs_cons (thn (h1 pins s σ H D I h) fun f s1 q => ?_)
  cases f with
  | next => exact wpAny_execs_nil q
  | ret v => exact q
  | brk => exact q
  | cont => exact q
/-- in a def's body nothing is shown -/
theorem Inv.quiet {pins : List (Addr × Obj)} {σ : St} {H : Hp} {s : Shared} (I : Inv X pins σ H s) : interactive X.env = false := by simp [interactive, I.ok.kind]
/-- an expression whose value is dropped -/
def tDrop (te : TE) : TS := fun D σ H => te σ H fun _ H1 => D.nx σ H1
theorem ps_expr (he : PE X e te) (hs : swapsWith e none pos.line X.env = pure false := by rfl) : PS X (.Expr e pos) (tDrop te) := by
  intro pins s σ H D I h
  exact wpAny_Expr_any (thn (he pins s σ H _ I h) fun v s1 ⟨x, H1, I1, r1, q1⟩ => ⟨σ, H1, I1, q1⟩) I.quiet hs
def tRet (te : TE) : TS := fun D σ H => te σ H D.rt
theorem ps_ret (he : PE X e te) : PS X (.Return (some e) pos) (tRet te) := by
  intro pins s σ H D I h
  exact wpAny_Return_some (thn (he pins s σ H _ I h) fun v s1 ⟨x, H1, I1, r1, q1⟩ => ⟨x, σ, H1, I1, r1, q1⟩)
def tIfS (c : TT) (t u : TS) : TS := fun D σ H => c σ H fun b H1 => if b = true then t D σ H1 else u D σ H1
theorem ps_if {c : Expr} {a b : List Stmt} {tc : TT} (hc : PT X c tc) (ha : PSs X a t) (hb : PSs X b u) : PS X (.If c a b pos) (tIfS tc t u) := by
  intro pins s σ H D I h
  refine wpAny_If (thn (hc pins s σ H _ I h) fun d s1 ⟨H1, I1, q1⟩ => ?_)
  cases d with
  | true => exact ha pins s1 σ H1 D I1 q1
  | false => exact hb pins s1 σ H1 D I1 q1
/-- code that the proof never comes to -/
def tNever : TS := fun _ _ _ => False
theorem ps_never : PS X st tNever := fun _ _ _ _ _ _ h => h.elim
end

/-! ### targets -/
abbrev TG := V → St → Hp → (St → Hp → Prop) → Prop
abbrev TGs := List V → St → Hp → (St → Hp → Prop) → Prop
def PG (X : Cx) (target : Expr) (t : TG) : Prop :=
  ∀ (pins : List (Addr × Obj)) (s : Shared) (σ : St) (H : Hp) (v : V) (u : Value) (Q : St → Hp → Prop), Inv X pins σ H s → RelV v u → t v σ H Q →
    wpAny (model X.prog X.w) X.A (assign target X.env u) (fun _ s' => ∃ σ' H', Inv X pins σ' H' s' ∧ Q σ' H') X.xe s
/-- several targets, one after another -/
def PGs (X : Cx) (ts : List Expr) (t : TGs) : Prop :=
  ∀ (pins : List (Addr × Obj)) (s : Shared) (σ : St) (H : Hp) (vs : List V) (us : List Value) (Q : St → Hp → Prop), Inv X pins σ H s → Vals vs us → t vs σ H Q →
    wpAny (model X.prog X.w) X.A (assignInOrder ((assignEach ts X.env).map (·.2)) us) (fun _ s' => ∃ σ' H', Inv X pins σ' H' s' ∧ Q σ' H') X.xe s
/-- o[i] = v, by values -/
abbrev TSet := V → V → V → Hp → (Hp → Prop) → Prop
def PSet (X : Cx) (t : TSet) : Prop :=
  ∀ (pins : List (Addr × Obj)) (s : Shared) (σ : St) (H : Hp) (o i v : V) (ov iv u : Value) (Q : Hp → Prop), Inv X pins σ H s → RelV o ov → RelV i iv → RelV v u → t o i v H Q →
    wpAny (model X.prog X.w) X.A (setItem ov iv u) (fun _ s' => ∃ H', Inv X pins σ H' s' ∧ Q H') X.xe s
/-- a op= b, by values -/
abbrev TIp := V → V → Hp → VK → Prop
def PIp (X : Cx) (op : Operator) (t : TIp) : Prop :=
  ∀ (pins : List (Addr × Obj)) (s : Shared) (σ : St) (H : Hp) (x y : V) (v u : Value) (Q : VK), Inv X pins σ H s → RelV x v → RelV y u → t x y H Q →
    wpAny (model X.prog X.w) X.A (inplaceOp op v u) (EP X pins σ Q) X.xe s
section
variable {X : Cx} {pos : Pos}
def gName (i : Nat) : TG := fun v σ H Q => Q (σ.set i (some v)) H
theorem pg_name {i : Nat} {x : Str} (hN : X.N.Nodup) (hi : X.N[i]? = some x) (hx : Loc X.env.scope x) (hf : X.fn x = true ∨ X.env.scope.names.lookup x = some .local := by first | exact .inl rfl | exact .inr rfl | assumption) : PG X (.Name x pos) (gName i) := by
  intro pins s σ H v u Q I r h
  exact wpAny_assign_Name (store_ok I hN hi hx r (fun s' I' => ⟨_, H, I', h⟩) hf)
def gNil : TGs := fun vs σ H Q => vs = [] ∧ Q σ H
def gCons (t : TG) (u : TGs) : TGs := fun vs σ H Q => ∃ v r, vs = v :: r ∧ t v σ H fun σ' H' => u r σ' H' Q
theorem pgs_nil : PGs X [] gNil := by
  intro pins s σ H vs us Q I r h
  obtain ⟨e, h⟩ := h
  subst e
  cases r
  exact assignInOrder_nil ⟨σ, H, I, h⟩
theorem pgs_cons {e : Expr} {es : List Expr} {t : TG} {u : TGs} (h1 : PG X e t) (h2 : PGs X es u)
    (hs : (assignEach (e :: es) X.env).map (·.2) = assign e X.env :: (assignEach es X.env).map (·.2) := by rfl) : PGs X (e :: es) (gCons t u) := by
  intro pins s σ H vs us Q I r h
  obtain ⟨v, vr, e1, h⟩ := h
  subst e1
  cases r with
  | cons r rr =>
    rw [hs]
    refine assignInOrder_cons (thn (h1 pins s σ H _ _ _ I r h) fun _ s1 ⟨σ1, H1, I1, q1⟩ => ?_)
    exact h2 pins s1 σ1 H1 _ _ Q I1 rr q1
/-- (a, b, ..) = a tuple of that length -/
def gTup (K : PySem.W.Frag) (n : Nat) (t : TGs) : TG := fun v σ H Q => ∃ a xs, v = .ref a ∧ SqT K H a xs ∧ xs.length = n ∧ t xs σ H Q
theorem pg_tup {es : List Expr} {k : Nat} {t : TGs} {n : Nat} (hc : X.calm = true) (h : PGs X es t)
    (hn : (assignEach es X.env).length = n := by rfl) (hst : (assignEach es X.env).findIdx? (·.1) = none := by rfl) : PG X (.Tuple es k pos) (gTup X.K n t) := by
  intro pins s σ H v u Q I r hw
  obtain ⟨a, xs, e1, hq, hl, hw⟩ := hw
  subst e1
  cases r
  obtain ⟨its, rv, ht, hz⟩ := I.tuple hq
  refine assign_Tuple_tuple (I.ok.hd hc) ht (by simp [hn, ← hl, rv.length]) hst fun h' hx => ?_
  have I1 : Inv X pins σ H { s with heap := h' } := I.kept (t' := s.toks) fun b o e => hx b o (Nat.ne_of_lt (Heap.lt_size e)) e
  exact h pins _ σ H xs _ Q I1 (by simpa using rv) hw
/-- o[i] = .. -/
def gSub (to ti : TE) (t : TSet) : TG := fun v σ H Q => to σ H fun o H1 => ti σ H1 fun i H2 => t o i v H2 fun H3 => Q σ H3
theorem pg_sub {o i : Expr} {to ti : TE} {t : TSet} (ho : PE X o to) (hi : PE X i ti) (hs : PSet X t)
    (ha : ∀ v, assign (.Subscript o i pos) X.env v = (do
      let ov ← holding [v] (eval o X.env)
      let iv ← holding [v, ov] (eval i X.env)
      standAt pos
      holding [v, ov, iv] (setItem ov iv v)
      release [v, ov, iv] []) := by intro _; rfl) : PG X (.Subscript o i pos) (gSub to ti t) := by
  intro pins s σ H v u Q I r h
  rw [ha]
  refine wpAny_bind (wpAny_holding (thn (ho pins s σ H _ I h) fun ov s1 ⟨x, H1, I1, r1, q1⟩ => ?_))
  refine wpAny_bind (wpAny_holding (thn (hi pins s1 σ H1 _ I1 q1) fun iv s2 ⟨y, H2, I2, r2, q2⟩ => ?_))
  refine wpAny_bind (wpAny_standAt (wpAny_bind (wpAny_holding (thn (hs pins s2 σ H2 x y v ov iv u _ I2 r1 r2 r q2) fun _ s3 ⟨H3, I3, q3⟩ => ?_))))
  exact wpAny_release ⟨σ, H3, I3, q3⟩
/-- target = value -/
def tAsg (te : TE) (g : TG) : TS := fun D σ H => te σ H fun x H1 => g x σ H1 D.nx
theorem ps_asg {tg e : Expr} {te : TE} {g : TG} (he : PE X e te) (hg : PG X tg g) (hs : swapsWithSole [tg] e pos.line X.env = pure false := by rfl) (hw : swappedStores [tg] e X.env = pure none := by rfl)
    (h1 : (assignEach [tg] X.env).map (·.2) = [assign tg X.env] := by rfl) : PS X (.Assign [tg] e pos) (tAsg te g) := by
  intro pins s σ H D I h
  refine wpAny_Assign_stores (thn (he pins s σ H _ I h) fun v s1 ⟨x, H1, I1, r1, q1⟩ => ?_) hs hw
  rw [h1]
  exact thn (hg pins s1 σ H1 x v _ I1 r1 q1) fun _ s2 q => q
/-- name = value -/
theorem ps_set {i : Nat} {x : Str} {e : Expr} {te : TE} {pos' : Pos} (hN : X.N.Nodup) (hi : X.N[i]? = some x) (hx : Loc X.env.scope x) (he : PE X e te) (hs : swapsWith e (some (.Name x pos')) pos.line X.env = pure false := by rfl) (hf : X.fn x = true ∨ X.env.scope.names.lookup x = some .local := by first | exact .inl rfl | exact .inr rfl | assumption) :
    PS X (.Assign [.Name x pos'] e pos) (tAsg te (gName i)) := by
  intro pins s σ H D I h
  refine wpAny_Assign_Name (thn (he pins s σ H _ I h) fun v s1 ⟨y, H1, I1, r1, q1⟩ => ?_) hs
  exact store_ok I1 hN hi hx r1 (fun s2 I2 => ⟨_, H1, I2, q1⟩) hf
/-- name op= e -/
def tAug (i : Nat) (te : TE) (ti : TIp) : TS := fun D σ H => ∃ x, σ[i]? = some (some x) ∧ te σ H fun y H1 => ti x y H1 fun z H2 => D.nx (σ.set i (some z)) H2
theorem ps_aug {i : Nat} {x : Str} {e : Expr} {te : TE} {op : Operator} {ti : TIp} {pos' : Pos} (hN : X.N.Nodup) (hi : X.N[i]? = some x) (hx : Loc X.env.scope x) (he : PE X e te) (ho : PIp X op ti) (hf : X.fn x = true ∨ X.env.scope.names.lookup x = some .local := by first | exact .inl rfl | exact .inr rfl | assumption) :
    PS X (.AugAssign (.Name x pos') op e pos) (tAug i te ti) := by
  intro pins s σ H D I h
  obtain ⟨v, e1, h⟩ := h
  obtain ⟨m, hn, hl⟩ := I.loc
  have vis : Vis X.env.scope x := by rcases hx with k | k; exact .inl k; exact .inr (.inl k)
  obtain ⟨u, r, l⟩ := hl i x v hi e1 vis
  refine wpAny_AugAssign_Name ?_
  have go : wpAny (model X.prog X.w) X.A (eval e X.env) (fun w s₂ => wpAny (model X.prog X.w) X.A (inplaceOp op u w) (fun r s₃ => wpAny (model X.prog X.w) X.A (storeName X.env x r) (fun _ => SP X pins D .next) X.xe s₃) X.xe s₂) X.xe s := by
    refine thn (he pins s σ H _ I h) fun w s1 ⟨y, H1, I1, r1, q1⟩ => ?_
    refine thn (ho pins s1 σ H1 v y u w _ I1 r r1 q1) fun z s2 ⟨zv, H2, I2, r2, q2⟩ => ?_
    exact store_ok I2 hN hi hx r2 (fun s3 I3 => ⟨_, H2, I3, q2⟩) hf
  rcases l with ⟨hk, hm⟩ | ⟨hk, c, hc, hcell⟩
  · exact wpAny_loadName_local I.ok.kind hk hn hm go
  · rcases hk with hk | hk
    · exact wpAny_loadName_cell I.ok.kind hk hc hcell go
    · rcases hx with k | k
      · have : X.env.scope.names.lookup x = some .free := hk
        rw [k] at this; cases this
      · have : X.env.scope.names.lookup x = some .free := hk
        rw [k] at this; cases this
/-- ints -/
def ipI (f : Int → Int → Int) : TIp := fun x y H Q => ∃ i j, x = .int i ∧ y = .int j ∧ Q (.int (f i j)) H
theorem ip_add : PIp X .Add (ipI fun i j => i + j) := by
  intro pins s σ H x y v u Q I r1 r2 h
  obtain ⟨i, j, e1, e2, q⟩ := h
  subst e1; subst e2
  obtain ⟨t, rfl⟩ := r1
  obtain ⟨t', rfl⟩ := r2
  exact iadd_int ⟨.int _, H, I.tok _, ⟨_, rfl⟩, q⟩
end

/-! ### while -/
section
variable {X : Cx} {pos : Pos}
end

/-! ### what a loop or a comprehension walks -/
/-- at turn i: it yields x (the heap may grow), or it stops -/
structure It where
  go : Nat → Hp → Prop
  yld : Nat → Hp → V → Hp → Prop
  stop : Nat → Hp → Prop
/-- the iterator's own objects may turn: they are not the frame's, not pinned, younger than the entry (or a comprehension's own) -/
def FpOk (X : Cx) (pins : List (Addr × Obj)) (H : Hp) (b : Addr) : Prop :=
  H b = none ∧ b ≠ X.env.locals ∧ b ∉ X.fs ∧ (b ∈ X.ex ∨ X.s₀.heap.objs.size ≤ b) ∧ (∀ x c, X.env.cells.lookup x = some c → c ≠ b) ∧ ∀ p ∈ X.pn ++ pins, p.1 ≠ b
theorem Inv.fpOk {X : Cx} {pins : List (Addr × Obj)} {σ : St} {H H' : Hp} {s : Shared} {b : Addr} (I : Inv X pins σ H s) (hb : s.heap.objs.size ≤ b) (hn : H' b = none) : FpOk X pins H' b := by
  refine ⟨hn, Nat.ne_of_gt (Nat.lt_of_lt_of_le I.lt hb), I.nofs hb, .inr (Nat.le_trans I.sz hb), fun x c e z => ?_, fun p hp z => ?_⟩
  · obtain ⟨v, q⟩ := I.cell x c e
    exact absurd (Nat.lt_of_lt_of_le q.lt (by rw [z]; exact hb)) (Nat.lt_irrefl _)
  · exact absurd (Nat.lt_of_lt_of_le (Heap.lt_size (I.pin p hp).1) (by rw [z]; exact hb)) (Nat.lt_irrefl _)
structure Turn (P : Program) (w : World) (K : PySem.W.Frag) (tg : Expr) (J : It) (fp : List Addr) (it : Addr) (tn : Nat → Heap → Prop) : Prop where
  mem : it ∈ fp
  obj : ∀ i h, tn i h → ∀ b ∈ fp, ∃ o, h.get? b = some o ∧ ∀ v, o.data ≠ .cell v
  keep : ∀ i h h', tn i h → (∀ b ∈ fp, ∀ o, h.get? b = some o → h'.get? b = some o) → tn i h'
  item : ∀ (X : Cx), X.prog = P → X.w = w → X.K = K → X.calm = true → ∀ (i : Nat) (pins : List (Addr × Obj)) (s : Shared) (σ : St) (H : Hp) (E : Value → Shared → Prop), Inv X pins σ H s → (∀ b ∈ fp, FpOk X pins H b) → tn i s.heap → J.go i H →
    wpAny (model P w) X.A (pyNext (.ref it)) (fun r s1 => ∃ u, r = some u ∧
      wpAny (model P w) X.A (letOwnedTupleGo tg (.ref it) u) (fun _ s2 => ∃ x H', Inv X pins σ H' s2 ∧ RelV x u ∧ J.yld i H x H' ∧ tn (i + 1) s2.heap ∧ ∀ b ∈ fp, H' b = none) E s1) E s
  done : ∀ (X : Cx), X.prog = P → X.w = w → X.K = K → X.calm = true → ∀ (i : Nat) (pins : List (Addr × Obj)) (s : Shared) (σ : St) (H : Hp) (E : Value → Shared → Prop), Inv X pins σ H s → (∀ b ∈ fp, FpOk X pins H b) → tn i s.heap → J.stop i H →
    wpAny (model P w) X.A (pyNext (.ref it)) (fun r s1 => r = none ∧ Inv X pins σ H s1) E s
  self : ∀ (A : Around) (i : Nat) (s : Shared) (Q : Value → Shared → Prop) (E : Value → Shared → Prop), tn i s.heap → Q (.ref it) s → wpAny (model P w) A (pyIter (.ref it)) Q E s
abbrev TI := St → Hp → (It → Hp → Prop) → Prop
/-- an iterator has come -/
def PIE (X : Cx) (pins : List (Addr × Obj)) (σ : St) (tg : Expr) (R : It → Hp → Prop) (itv : Value) (s2 : Shared) : Prop :=
  ∃ (it : Addr) (fp : List Addr) (tn : Nat → Heap → Prop) (J : It) (H' : Hp), itv = .ref it ∧ Inv X pins σ H' s2 ∧ Turn X.prog X.w X.K tg J fp it tn ∧ tn 0 s2.heap ∧ (∀ b ∈ fp, FpOk X pins H' b) ∧ R J H'
def PI (X : Cx) (tg iter : Expr) (wi : TI) : Prop :=
  ∀ (pins : List (Addr × Obj)) (s : Shared) (σ : St) (H : Hp) (R : It → Hp → Prop), Inv X pins σ H s → wi σ H R →
    wpAny (model X.prog X.w) X.A (eval iter X.env) (fun v s1 => wpAny (model X.prog X.w) X.A (pyIter v) (PIE X pins σ tg R) X.xe s1) X.xe s

/-- the step ahead of the store is nothing for an iterator that keeps no tuple -/
theorem go_of {M : Model} {A : Around} {E : Value → Shared → Prop} {s : Shared} {tg : Expr} {it : Addr} {u : Value} {o : Obj} {n : String} {vs : Array Value} {Q : Unit → Shared → Prop} (ho : s.heap.get? it = some o) (hc : o.cls = .type n) (hd : o.data = .fields vs)
    (hn : ["enumerate", "zip", "dict_itemiterator", "dict_reverseitemiterator", "odict_iterator", "itertools.zip_longest", "itertools.pairwise"].contains n = false) (hQ : Q () s) : wpAny M A (letOwnedTupleGo tg (.ref it) u) Q E s := by
  unfold letOwnedTupleGo
  cases tg <;> first
    | exact wpAny_pure hQ
    | (cases u <;> first
        | exact wpAny_pure hQ
        | (refine wpAny_bind (wpAny_load ho ?_)
           rw [hc, hd]
           show wpAny M A (if (["enumerate", "zip", "dict_itemiterator", "dict_reverseitemiterator", "odict_iterator", "itertools.zip_longest", "itertools.pairwise"].contains n && vs[0]? == some (rawInt _)) = true then _ else _) Q E s
           rw [if_neg (by intro h; rw [hn, Bool.false_and] at h; cases h)]
           exact wpAny_pure hQ))

/-- the list at a, as it stands at each turn (a loop may append to it) -/
def Itl (K : PySem.W.Frag) (a : Addr) : It :=
  ⟨fun i H => ∃ xs x, SqL K H a xs ∧ xs[i]? = some x, fun i H x H' => H' = H ∧ ∀ xs, SqL K H a xs → xs[i]? = some x, fun i H => ∃ xs, SqL K H a xs ∧ xs.length ≤ i⟩
/-- lo, lo + 1, .. (n of them) -/
def Itr (lo : Int) (n : Nat) : It := ⟨fun i _ => i < n, fun i H x H' => H' = H ∧ x = .int (lo + i), fun i _ => n ≤ i⟩
theorem turn_list {P : Program} {w : World} {K : PySem.W.Frag} {tg : Expr} (a it : Addr) : Turn P w K tg (Itl K a) [it] it (fun i h => h.IsListIter it a i) where
  mem := by simp
  obj := fun i h st b hb => by
    have e : b = it := by simpa using hb
    subst e
    obtain ⟨o, e, c, d⟩ := st
    exact ⟨o, e, fun v z => by rw [d] at z; cases z⟩
  keep := fun i h h' st k => st.at fun o e => k it (by simp) o e
  item := by
    intro X hP hw hK hc i pins s σ H E I hf st hg
    subst hP hw hK
    obtain ⟨xs, x, hq, hx⟩ := hg
    obtain ⟨its, rv, p, hz⟩ := I.list hq
    obtain ⟨u, hu, ru⟩ := rv.get hx
    obtain ⟨f0, f1, f2, f3, f4, f5⟩ := hf it (by simp)
    refine wpAny_pyNext_list_item st p.isList (x := u) (by simpa using hu) fun h' st' sb => ?_
    have I1 : Inv X pins σ H { s with heap := h' } := I.turned (t' := s.toks) (fun b o hb e => (sb.2 b hb).trans e) f0 f1 f3 f4 f5
    obtain ⟨o, e, c, d⟩ := id st'
    exact ⟨u, rfl, go_of (s := { s with heap := h' }) e c d (by decide) ⟨x, H, I1, ru, ⟨rfl, fun ys hy => by rw [I.list_inj hy hq]; exact hx⟩, st', fun b hb => (hf b hb).1⟩⟩
  done := by
    intro X hP hw hK hc i pins s σ H E I hf st hg
    subst hP hw hK
    obtain ⟨xs, hq, hx⟩ := hg
    obtain ⟨its, rv, p, hz⟩ := I.list hq
    obtain ⟨f0, f1, f2, f3, f4, f5⟩ := hf it (by simp)
    have hl := rv.length
    exact wpAny_pyNext_list_end (I.ok.hd hc) st p.isList (by simp; omega) fun h' eb => ⟨rfl, I.turned (t' := s.toks) (fun b o hb e => eb b o hb e) f0 f1 f3 f4 f5⟩
  self := fun _ _ _ _ _ st h => wpAny_pyIter_listiter st h
theorem turn_range {P : Program} {w : World} {K : PySem.W.Frag} {tg : Expr} (it : Addr) (lo : Int) (n : Nat) : Turn P w K tg (Itr lo n) [it] it (fun i h => IsRangeIter h it (lo + (i : Nat) * 1) ((n : Int) - (i : Nat)) 1) where
  mem := by simp
  obj := fun i h st b hb => by
    have e : b = it := by simpa using hb
    subst e
    exact ⟨_, st, fun v z => by
      have z' : Data.fields _ = Data.cell v := z
      cases z'⟩
  keep := fun i h h' st k => k it (by simp) _ st
  item := by
    intro X hP hw hK hc i pins s σ H E I hf st hg
    subst hP hw hK
    obtain ⟨f0, f1, f2, f3, f4, f5⟩ := hf it (by simp)
    have W := Walks.range (prog := X.prog) (w := X.w) (I.ok.hd hc) it lo 1 n
    refine W.item i s _ _ hg st fun v h' tk hv st' kk => ?_
    obtain ⟨t, rfl⟩ := hv
    have I1 : Inv X pins σ H { s with heap := h', toks := tk } := I.turned (fun b o hb e => kk b o (by simpa using hb) e) f0 f1 f3 f4 f5
    refine ⟨_, rfl, go_of (s := { s with heap := h', toks := tk }) (n := "range_iterator") st' rfl rfl (by decide) ⟨.int (lo + i), H, I1, ⟨t, ?_⟩, ⟨rfl, rfl⟩, st', fun b hb => (hf b hb).1⟩⟩
    rw [Int.mul_one]
  done := by
    intro X hP hw hK hc i pins s σ H E I hf st hg
    subst hP hw hK
    obtain ⟨f0, f1, f2, f3, f4, f5⟩ := hf it (by simp)
    exact wpAny_pyNext_range_end (I.ok.hd hc) st (by have : n ≤ i := hg; omega) fun h' eb => ⟨rfl, I.turned (t' := s.toks) (fun b o hb e => eb b o hb e) f0 f1 f3 f4 f5⟩
  self := fun _ _ _ _ _ st h => wpAny_pyIter_rangeiter st h
end L2

namespace L2
open PySem PySem.Spec PyProof.Rows
section
variable {X : Cx} {tg : Expr}
def iList (K : PySem.W.Frag) (tl : TE) : TI := fun σ H R => tl σ H fun x H1 => ∃ a, x = .ref a ∧ (∃ xs, SqL K H1 a xs) ∧ R (Itl K a) H1
theorem pi_list {l : Expr} {tl : TE} (hl : PE X l tl) : PI X tg l (iList X.K tl) := by
  intro pins s σ H R I h
  refine thn (hl pins s σ H _ I h) fun v s1 ⟨x, H1, I1, r1, q1⟩ => ?_
  obtain ⟨a, e, ⟨xs, hq⟩, q⟩ := q1
  subst e
  cases r1
  obtain ⟨its, rv, p, hz⟩ := I1.list hq
  refine wpAny_pyIter_list p.isList ?_
  refine ⟨s1.heap.objs.size, [s1.heap.objs.size], _, _, H1, rfl, I1.kept (t' := s1.toks) fun b o e => Heap.get?_push_of_some _ e, turn_list a _, ⟨_, Heap.get?_push_size _ rfl, rfl, rfl⟩, fun b hb => ?_, q⟩
  have e : b = s1.heap.objs.size := by simpa using hb
  subst e
  exact I1.fpOk (Nat.le_refl _) (I1.hok.fresh (Nat.le_refl _))
/-- a range object just made, walked -/
theorem range_it {pins : List (Addr × Obj)} {σ : St} {H : Hp} {s : Shared} {R : It → Hp → Prop} {E : Value → Shared → Prop} {lo hi : Int} {t u v : Tok} {tk : Nat} (I : Inv X pins σ H s) (h1 : -(2 ^ 62) ≤ lo) (h2 : lo < 2 ^ 62) (h3 : -(2 ^ 62) ≤ hi) (h4 : hi < 2 ^ 62)
    (q : R (Itr lo (hi - lo).toNat) H) : wpAny (model X.prog X.w) X.A (pyIter (.ref s.heap.objs.size)) (PIE X pins σ tg R) E { s with heap := s.heap.push { cls := .type "range", data := .fields #[.int lo t, .int hi u, .int 1 v] }, toks := tk } := by
  refine wpAny_pyIter_range (IsRange.new ..) (small_one h1 h2 h3 h4) ?_
  have I1 : Inv X pins σ H { s with heap := s.heap.push { cls := .type "range", data := .fields #[.int lo t, .int hi u, .int 1 v] }, toks := tk } := I.kept fun b o e => Heap.get?_push_of_some _ e
  refine ⟨(s.heap.push { cls := .type "range", data := .fields #[.int lo t, .int hi u, .int 1 v] }).objs.size, [(s.heap.push { cls := .type "range", data := .fields #[.int lo t, .int hi u, .int 1 v] }).objs.size], _, _, H, rfl,
    I1.kept (t' := tk) fun b o e => Heap.get?_push_of_some _ e, turn_range _ lo (hi - lo).toNat, ?_, fun b hb => ?_, q⟩
  · have e1 : lo + ((0 : Nat) : Int) * 1 = lo := by simp
    have e2 : (((hi - lo).toNat : Nat) : Int) - ((0 : Nat) : Int) = Builtin.Range.rangeSize lo hi 1 := by rw [rangeSize_one]; split <;> omega
    show IsRangeIter _ _ (lo + ((0 : Nat) : Int) * 1) ((((hi - lo).toNat : Nat) : Int) - ((0 : Nat) : Int)) 1
    rw [e1, e2]
    exact Heap.get?_push_size _ rfl
  · have e : b = (s.heap.push { cls := .type "range", data := .fields #[.int lo t, .int hi u, .int 1 v] }).objs.size := by simpa using hb
    subst e
    exact I1.fpOk (Nat.le_refl _) (I1.hok.fresh (Nat.le_refl _))
def iRng1 (ta : TA) : TI := fun σ H R => ta σ H fun vs H1 => ∃ j : Int, vs = [.int j] ∧ -(2 ^ 62) ≤ j ∧ j < 2 ^ 62 ∧ R (Itr 0 j.toNat) H1
theorem pi_range1 {a : Expr} {ta : TA} {p pos : Pos} (hg : Gl X "range") (hm : X.mg "range" = none) (ha : PA X [a] ta) (hs : starEach [a] X.env = [(false, eval a X.env)] := by rfl) : PI X tg (.Call (.Name "range" p) [a] [] pos) (iRng1 ta) := by
  intro pins s σ H R I h
  refine Call_ (ld_blt I hg hm boot_range (PyProof.Rows.callWith_type1 (thn (ha pos pins s σ H _ I h) fun us s1 ⟨vs, H1, I1, r1, q1⟩ => ?_) hs rfl))
  obtain ⟨j, e, q1, q2, q⟩ := q1
  subst e
  cases r1 with
  | cons r rr =>
    cases rr
    obtain ⟨t, rfl⟩ := r
    exact call_range_1 (range_it I1 (by omega) (by omega) q1 q2 (by simpa using q))
/-! ### for -/
/-- W: the invariant by the turn and a measure; N: what the body is to reach -/
def tFor (wi : TI) (g : TG) (tb : TS) : TS := fun D σ H => wi σ H fun J H1 => ∃ W : Nat → Nat → St → Hp → Prop, (∃ m, W 0 m σ H1) ∧ ∀ i m σ H, W i m σ H →
  (J.stop i H ∧ D.nx σ H) ∨ (J.go i H ∧ ∃ N : St → Hp → Prop, (∀ σ' H', N σ' H' → ∃ m', m' < m ∧ W (i + 1) m' σ' H') ∧ ∀ x H', J.yld i H x H' → g x σ H' fun σ2 H2 => tb { D with nx := N, ct := N, bk := D.nx } σ2 H2)
/-- the records at fp as they stand -/
def pinsAt (fp : List Addr) (h : Heap) : List (Addr × Obj) := fp.filterMap fun b => (h.get? b).map fun o => (b, o)
theorem mem_pinsAt {fp : List Addr} {h : Heap} {b : Addr} {o : Obj} (hb : b ∈ fp) (e : h.get? b = some o) : (b, o) ∈ pinsAt fp h := List.mem_filterMap.mpr ⟨b, hb, by rw [e]; rfl⟩
theorem of_pinsAt {fp : List Addr} {h : Heap} {p : Addr × Obj} (hp : p ∈ pinsAt fp h) : p.1 ∈ fp ∧ h.get? p.1 = some p.2 := by
  obtain ⟨b, hb, e⟩ := List.mem_filterMap.mp hp
  cases q : h.get? b with
  | none => rw [q] at e; cases e
  | some o =>
    rw [q] at e
    have e' : (b, o) = p := Option.some.inj e
    subst e'
    exact ⟨hb, q⟩
theorem Inv.pinned {pins : List (Addr × Obj)} {σ : St} {H : Hp} {s : Shared} {fp : List Addr} (I : Inv X pins σ H s) (hf : ∀ b ∈ fp, FpOk X pins H b) (ho : ∀ b ∈ fp, ∃ o, s.heap.get? b = some o ∧ ∀ v, o.data ≠ .cell v) : Inv X (pins ++ pinsAt fp s.heap) σ H s :=
  I.pins_of fun p hp => (List.mem_append.mp hp).elim (fun z => I.pin p (List.mem_append_right _ z)) fun z => by
    obtain ⟨hb, e⟩ := of_pinsAt z
    obtain ⟨f0, f1, f2, _⟩ := hf p.1 hb
    obtain ⟨o, e', d⟩ := ho p.1 hb
    rw [e] at e'; cases e'
    exact ⟨e, f0, f1, f2, d⟩
theorem Inv.unpinned {pins pl : List (Addr × Obj)} {σ : St} {H : Hp} {s : Shared} (I : Inv X (pins ++ pl) σ H s) : Inv X pins σ H s := I.pins_of fun p hp => I.pin p (List.mem_append_right _ (List.mem_append_left _ hp))
theorem ps_for {iter : Expr} {body : List Stmt} {wi : TI} {g : TG} {tb : TS} {pos : Pos} (hp : PassesOwn (model X.prog X.w) X.A X.env X.xe) (hc : X.calm = true) (hi : PI X tg iter wi) (hg : PG X tg g) (hb : PSs X body tb)
    (hs : ∀ x, foldedSetIterable iter X.env x = pure x := by intro _; rfl) : PS X (.For tg iter body [] pos) (tFor wi g tb) := by
  intro pins s σ H D I h
  refine wpAny_For (thn (hi pins s σ H _ I h) fun v s1 h1 => thn h1 fun itv s2 h2 => ?_) hs
  obtain ⟨it, fp, tn, J, H2, e, I2, T, st2, f2, W, ⟨m0, w0⟩, turn⟩ := h2
  subst e
  -- what stays true of the iterator's objects through the loop
  have stat : ∀ {H' : Hp}, (∀ b ∈ fp, H' b = none) → ∀ b ∈ fp, FpOk X pins H' b := fun hn b hb => ⟨hn b hb, (f2 b hb).2⟩
  refine codeAny_forLoop_any (fun n s' => ∃ i σ' H', Inv X pins σ' H' s' ∧ tn i s'.heap ∧ (∀ b ∈ fp, H' b = none) ∧ W i n σ' H') ?_ m0 ⟨0, σ, H2, I2, st2, fun b hb => (f2 b hb).1, w0⟩
  rintro n s3 ⟨i, σ3, H3, I3, st3, fr3, w3⟩
  rcases turn i n σ3 H3 w3 with ⟨stop, qn⟩ | ⟨go, N, hN, step⟩
  · refine wpAny_passesOwn hp (thn (T.done X rfl rfl rfl hc i pins s3 σ3 H3 X.xe I3 (stat fr3) st3 stop) fun r s4 ⟨hr, I4⟩ => ?_)
    subst hr
    exact wpAny_execs_nil ⟨σ3, H3, I4, qn⟩
  · refine wpAny_passesOwn hp (thn (T.item X rfl rfl rfl hc i pins s3 σ3 H3 X.xe I3 (stat fr3) st3 go) fun r s4 ⟨u, hr, h4⟩ => ?_)
    subst hr
    refine wpAny_passesOwn hp (thn h4 fun _ s5 ⟨x, H5, I5, r5, y5, st5, fr5⟩ => ?_)
    have I5' := I5.pinned (stat fr5) (T.obj _ _ st5)
    refine wpAny_passesOwn hp (thn (hg _ s5 σ3 H5 x u _ I5' r5 (step x H5 y5)) fun _ s6 ⟨σ6, H6, I6, q6⟩ => ?_)
    refine wpAny_passesOwn hp (thn (hb _ s6 σ6 H6 _ I6 q6) fun f s7 q7 => ?_)
    have again : ∀ {σ7 : St} {H7 : Hp}, Inv X (pins ++ pinsAt fp s5.heap) σ7 H7 s7 → N σ7 H7 → ∃ m, m < n ∧ ∃ i σ' H', Inv X pins σ' H' s7 ∧ tn i s7.heap ∧ (∀ b ∈ fp, H' b = none) ∧ W i m σ' H' := fun {σ7 H7} I7 n7 => by
      obtain ⟨m', hm, w7⟩ := hN σ7 H7 n7
      refine ⟨m', hm, i + 1, σ7, H7, I7.unpinned, T.keep _ _ _ st5 fun b hb o e => (I7.pin (b, o) (List.mem_append_right _ (List.mem_append_right _ (mem_pinsAt hb e)))).1, fun b hb => ?_, w7⟩
      obtain ⟨o, e, d⟩ := T.obj _ _ st5 b hb
      exact (I7.pin (b, o) (List.mem_append_right _ (List.mem_append_right _ (mem_pinsAt hb e)))).2.1
    cases f with
    | next => obtain ⟨σ7, H7, I7, n7⟩ := q7; exact again I7 n7
    | cont => obtain ⟨σ7, H7, I7, n7⟩ := q7; exact again I7 n7
    | brk => obtain ⟨σ7, H7, I7, q7⟩ := q7; exact ⟨σ7, H7, I7.unpinned, q7⟩
    | ret v => obtain ⟨x7, σ7, H7, I7, r7, q7⟩ := q7; exact ⟨x7, σ7, H7, I7.unpinned, r7, q7⟩
end

/-! ### the forms one uses -/
/-- over a list that the body leaves as it is -/
theorem for_list {K : PySem.W.Frag} {a : Addr} {xs : List V} {g : TG} {tb : TS} {D : Ends} {σ : St} {H : Hp} (Pv : Nat → St → Hp → Prop) (h0 : Pv 0 σ H) (hl : ∀ i σ H, i ≤ xs.length → Pv i σ H → SqL K H a xs)
    (hs : ∀ i x σ H, xs[i]? = some x → Pv i σ H → g x σ H fun σ2 H2 => tb { D with nx := Pv (i + 1), ct := Pv (i + 1), bk := D.nx } σ2 H2) (hd : ∀ σ H, Pv xs.length σ H → D.nx σ H) :
    ∃ W : Nat → Nat → St → Hp → Prop, (∃ m, W 0 m σ H) ∧ ∀ i m σ H, W i m σ H →
      ((Itl K a).stop i H ∧ D.nx σ H) ∨ ((Itl K a).go i H ∧ ∃ N : St → Hp → Prop, (∀ σ' H', N σ' H' → ∃ m', m' < m ∧ W (i + 1) m' σ' H') ∧ ∀ x H', (Itl K a).yld i H x H' → g x σ H' fun σ2 H2 => tb { D with nx := N, ct := N, bk := D.nx } σ2 H2) := by
  refine ⟨fun i m σ H => m = xs.length - i ∧ i ≤ xs.length ∧ Pv i σ H, ⟨xs.length, by simp, Nat.zero_le _, h0⟩, ?_⟩
  rintro i m σ H ⟨rfl, hi, p⟩
  have q := hl i σ H hi p
  by_cases hlt : i < xs.length
  · refine .inr ⟨⟨xs, xs[i], q, by simp [hlt]⟩, Pv (i + 1), fun σ' H' p' => ⟨xs.length - (i + 1), by omega, rfl, hlt, p'⟩, fun x H' y => ?_⟩
    obtain ⟨e, y⟩ := y
    subst e
    exact hs i x σ _ (y xs q) p
  · have e : i = xs.length := by omega
    subst e
    exact .inl ⟨⟨xs, q, Nat.le_refl _⟩, hd σ H p⟩
theorem for_range {lo : Int} {n : Nat} {g : TG} {tb : TS} {D : Ends} {σ : St} {H : Hp} (Pv : Nat → St → Hp → Prop) (h0 : Pv 0 σ H)
    (hs : ∀ i σ H, i < n → Pv i σ H → g (.int (lo + i)) σ H fun σ2 H2 => tb { D with nx := Pv (i + 1), ct := Pv (i + 1), bk := D.nx } σ2 H2) (hd : ∀ σ H, Pv n σ H → D.nx σ H) :
    ∃ W : Nat → Nat → St → Hp → Prop, (∃ m, W 0 m σ H) ∧ ∀ i m σ H, W i m σ H →
      ((Itr lo n).stop i H ∧ D.nx σ H) ∨ ((Itr lo n).go i H ∧ ∃ N : St → Hp → Prop, (∀ σ' H', N σ' H' → ∃ m', m' < m ∧ W (i + 1) m' σ' H') ∧ ∀ x H', (Itr lo n).yld i H x H' → g x σ H' fun σ2 H2 => tb { D with nx := N, ct := N, bk := D.nx } σ2 H2) := by
  refine ⟨fun i m σ H => m = n - i ∧ i ≤ n ∧ Pv i σ H, ⟨n, by simp, Nat.zero_le _, h0⟩, ?_⟩
  rintro i m σ H ⟨rfl, hi, p⟩
  by_cases hlt : i < n
  · refine .inr ⟨hlt, Pv (i + 1), fun σ' H' p' => ⟨n - (i + 1), by omega, rfl, hlt, p'⟩, fun x H' y => ?_⟩
    obtain ⟨e, y⟩ := y
    subst e y
    exact hs i σ _ hlt p
  · have e : i = n := by omega
    subst e
    exact .inl ⟨Nat.le_refl _, hd σ H p⟩
end L2

namespace L2
open PySem PySem.Spec PyProof.Rows

abbrev R2 := V → V → Hp → VK → Prop
/-- a two-place operation on values: f is binaryOp op, inplaceOp op or compareOp op -/
def OpR (X : Cx) (f : Value → Value → Sem Value) (r : R2) : Prop :=
  ∀ (pins : List (Addr × Obj)) (s : Shared) (σ : St) (H : Hp) (x y : V) (v u : Value) (Q : VK), Inv X pins σ H s → RelV x v → RelV y u → r x y H Q →
    wpAny (model X.prog X.w) X.A (f v u) (EP X pins σ Q) X.xe s
/-- a one-place operation -/
def UnR (X : Cx) (f : Value → Sem Value) (r : V → Hp → VK → Prop) : Prop :=
  ∀ (pins : List (Addr × Obj)) (s : Shared) (σ : St) (H : Hp) (x : V) (v : Value) (Q : VK), Inv X pins σ H s → RelV x v → r x H Q →
    wpAny (model X.prog X.w) X.A (f v) (EP X pins σ Q) X.xe s
/-- a call of a value that is known (a builtin, a type) with values -/
def CallR (X : Cx) (f : Value) (r : List V → Hp → VK → Prop) : Prop :=
  ∀ (pins : List (Addr × Obj)) (s : Shared) (σ : St) (H : Hp) (xs : List V) (us : List Value) (Q : VK), Inv X pins σ H s → Vals xs us → r xs H Q →
    wpAny (model X.prog X.w) X.A (call f us) (EP X pins σ Q) X.xe s
def tOp (r : R2) (ta tb : TE) : TE := fun σ H Q => ta σ H fun x H1 => tb σ H1 fun y H2 => r x y H2 Q
def tUn (r : V → Hp → VK → Prop) (ta : TE) : TE := fun σ H Q => ta σ H fun x H1 => r x H1 Q
/-- ints in, under C, and a value out -/
def rI (C : Int → Int → Prop) (g : Int → Int → V) : R2 := fun x y H Q => ∃ i j, x = .int i ∧ y = .int j ∧ C i j ∧ Q (g i j) H
def rI0 (g : Int → Int → V) : R2 := fun x y H Q => ∃ i j, x = .int i ∧ y = .int j ∧ Q (g i j) H
def rU (g : Int → V) : V → Hp → VK → Prop := fun x H Q => ∃ i, x = .int i ∧ Q (g i) H

section
variable {X : Cx} {a b c : Expr} {ta tb tc : TE} {pos : Pos}

theorem binT (ha : PE X a ta) (hb : PE X b tb) {pins : List (Addr × Obj)} {s : Shared} {σ : St} {H : Hp} {R : V → V → Hp → Prop} (I : Inv X pins σ H s)
    (h : ta σ H fun x H1 => tb σ H1 fun y H2 => R x y H2) {Q : Value → Shared → Prop} {f : Value → Value → Sem Value}
    (hf : ∀ v u s2 x y H2, Inv X pins σ H2 s2 → RelV x v → RelV y u → R x y H2 → wpAny (model X.prog X.w) X.A (f v u) Q X.xe s2) :
    wpAny (model X.prog X.w) X.A (eval a X.env) (fun v s₁ => wpAny (model X.prog X.w) X.A (eval b X.env) (fun u s₂ => wpAny (model X.prog X.w) X.A (f v u) Q X.xe s₂) X.xe s₁) X.xe s := by
  refine thn (ha pins s σ H _ I h) fun v s1 ⟨x, H1, I1, r1, q1⟩ => ?_
  refine thn (hb pins s1 σ H1 _ I1 q1) fun u s2 ⟨y, H2, I2, r2, q2⟩ => ?_
  exact hf v u s2 x y H2 I2 r1 r2 q2

theorem pe_op {op : Operator} {r : R2} (ho : OpR X (binaryOp op) r) (ha : PE X a ta) (hb : PE X b tb) : PE X (.BinOp a op b pos) (tOp r ta tb) := by
  intro pins s σ H Q I h
  exact wpAny_BinOp (binT ha hb I h fun v u s2 x y H2 I2 rx ry q => ho pins s2 σ H2 x y v u Q I2 rx ry q)
theorem pe_un {op : UnaryOp} {r : V → Hp → VK → Prop} (ho : UnR X (unaryOp op) r) (ha : PE X a ta) : PE X (.UnaryOp op a pos) (tUn r ta) := by
  intro pins s σ H Q I h
  exact UnaryOp_ (thn (ha pins s σ H _ I h) fun v s1 ⟨x, H1, I1, r1, q1⟩ => ho pins s1 σ H1 x v Q I1 r1 q1)
/-! ### ints -/
theorem opI {f : Value → Value → Sem Value} {C : Int → Int → Prop} {g : Int → Int → Int}
    (rule : ∀ (i j : Int) (t u : Tok) (s : Shared) (Q : Value → Shared → Prop) (E : Value → Shared → Prop), C i j → Q (.int (g i j) s.toks) { s with toks := s.toks + 1 } → wpAny (model X.prog X.w) X.A (f (.int i t) (.int j u)) Q E s) :
    OpR X f (rI C fun i j => .int (g i j)) := by
  intro pins s σ H x y v u Q I rx ry h
  obtain ⟨i, j, rfl, rfl, hc, q⟩ := h
  obtain ⟨t, rfl⟩ := rx
  obtain ⟨t', rfl⟩ := ry
  exact rule i j t t' s _ _ hc ⟨.int (g i j), H, I.tok _, ⟨_, rfl⟩, q⟩
theorem opI0 {f : Value → Value → Sem Value} {g : Int → Int → Int}
    (rule : ∀ (i j : Int) (t u : Tok) (s : Shared) (Q : Value → Shared → Prop) (E : Value → Shared → Prop), Q (.int (g i j) s.toks) { s with toks := s.toks + 1 } → wpAny (model X.prog X.w) X.A (f (.int i t) (.int j u)) Q E s) :
    OpR X f (rI0 fun i j => .int (g i j)) := by
  intro pins s σ H x y v u Q I rx ry h
  obtain ⟨i, j, rfl, rfl, q⟩ := h
  obtain ⟨t, rfl⟩ := rx
  obtain ⟨t', rfl⟩ := ry
  exact rule i j t t' s _ _ ⟨.int (g i j), H, I.tok _, ⟨_, rfl⟩, q⟩
theorem opB0 {f : Value → Value → Sem Value} {g : Int → Int → Bool}
    (rule : ∀ (i j : Int) (t u : Tok) (s : Shared) (Q : Value → Shared → Prop) (E : Value → Shared → Prop), Q (.bool (g i j)) s → wpAny (model X.prog X.w) X.A (f (.int i t) (.int j u)) Q E s) :
    OpR X f (rI0 fun i j => .bl (g i j)) := by
  intro pins s σ H x y v u Q I rx ry h
  obtain ⟨i, j, rfl, rfl, q⟩ := h
  obtain ⟨t, rfl⟩ := rx
  obtain ⟨t', rfl⟩ := ry
  exact rule i j t t' s _ _ ⟨.bl (g i j), H, I, rfl, q⟩

def CDiv (i j : Int) : Prop := 0 < j ∧ j < 1073741824
def CPow (i j : Int) : Prop := 0 ≤ j ∧ j ≤ 1000000 ∧ i.natAbs < 2 ^ 64
def CMul (i j : Int) : Prop := (-(2 ^ 64) < i ∧ i < 2 ^ 64) ∨ (-(2 ^ 64) < j ∧ j < 2 ^ 64)
theorem CMul.ok {i j : Int} (h : CMul i j) : IntMulOk i j := by
  rcases h with ⟨h1, h2⟩ | ⟨h1, h2⟩
  · exact .of_left (intBits_le_64 h1 h2)
  · exact .of_right (intBits_le_64 h1 h2)
theorem op_add : OpR X (binaryOp .Add) (rI0 fun i j => .int (i + j)) := opI0 fun _ _ _ _ _ _ _ q => add_int q
theorem op_sub : OpR X (binaryOp .Sub) (rI0 fun i j => .int (i - j)) := opI0 fun _ _ _ _ _ _ _ q => sub_int q
theorem op_mul : OpR X (binaryOp .Mult) (rI CMul fun i j => .int (i * j)) := opI fun _ _ _ _ _ _ _ hc q => mul_int q hc.ok
/-- // by a positive divisor -/
theorem op_fdiv : OpR X (binaryOp .FloorDiv) (rI CDiv fun i j => .int (i / j)) := opI fun i j _ _ _ _ _ hc q => by
  have h1 : (0 : Int) < j := hc.1
  have h2 : j < 1073741824 := hc.2
  exact floordiv_int (by omega) (by rw [Int.fdiv_eq_ediv_of_nonneg i (by omega)]; exact q) (.inl (PyProof.noPylong_small (by omega)))
/-- % by a positive divisor of any size -/
theorem op_mod : OpR X (binaryOp .Mod) (rI (fun _ j => 0 < j) fun i j => .int (i % j)) := opI fun i j _ _ _ _ _ hc q => by
  have h1 : (0 : Int) < j := hc
  exact mod_int' (by omega) (by rw [Int.fmod_eq_emod_of_nonneg i (by omega)]; exact q)
theorem op_pow : OpR X (binaryOp .Pow) (rI CPow fun i j => .int (i ^ j.toNat)) := opI fun _ _ _ _ _ _ _ hc q => pow_int_small hc.1 hc.2.1 hc.2.2 q
theorem unI {f : Value → Sem Value} {g : Int → Int}
    (rule : ∀ (i : Int) (t : Tok) (s : Shared) (Q : Value → Shared → Prop) (E : Value → Shared → Prop), Q (.int (g i) s.toks) { s with toks := s.toks + 1 } → wpAny (model X.prog X.w) X.A (f (.int i t)) Q E s) :
    UnR X f (rU fun i => .int (g i)) := by
  intro pins s σ H x v Q I rx h
  obtain ⟨i, rfl, q⟩ := h
  obtain ⟨t, rfl⟩ := rx
  exact rule i t s _ _ ⟨.int (g i), H, I.tok _, ⟨_, rfl⟩, q⟩
theorem un_neg : UnR X (unaryOp .USub) (rU fun i => .int (-i)) := unI fun _ _ _ _ _ q => neg_int q
/-! ### bools among ints: n += (a < b) -/
end

/-! ### comparisons -/
/-- the scalars that == tells apart as data does -/
def scal : V → V → Bool
  | .non, .non => true | .non, .int _ => true | .int _, .non => true | .non, .bl _ => true | .bl _, .non => true | .non, .str _ => true | .str _, .non => true
  | .int _, .int _ => true | .bl _, .bl _ => true | .str _, .str _ => true | .byt _, .byt _ => true
  | .int _, .str _ => true | .str _, .int _ => true | .bl _, .str _ => true | .str _, .bl _ => true
  | _, _ => false
def rEq : R2 := fun x y H Q => scal x y = true ∧ Q (.bl (decide (x = y))) H
def rNe : R2 := fun x y H Q => scal x y = true ∧ Q (.bl (!decide (x = y))) H

theorem dec_int {i j : Int} : decide (V.int i = V.int j) = (i == j) := by
  rw [Bool.eq_iff_iff]
  simp
theorem dec_bl {i j : Bool} : decide (V.bl i = V.bl j) = (i == j) := by
  rw [Bool.eq_iff_iff]
  simp
theorem dec_str {i j : Str} : decide (V.str i = V.str j) = (i == j) := by
  rw [Bool.eq_iff_iff]
  simp
theorem dec_byt {i j : Array UInt8} : decide (V.byt i = V.byt j) = (i.toList == j.toList) := by
  rw [Bool.eq_iff_iff]
  cases i
  cases j
  simp

section
variable {X : Cx} {a b c : Expr} {ta tb tc : TE} {pos : Pos}
theorem fin_bl {pins : List (Addr × Obj)} {σ : St} {H : Hp} {s : Shared} {Q : VK} {k k' : Bool} (I : Inv X pins σ H s) (q : Q (.bl k) H) (e : k = k') : EP X pins σ Q (.bool k') s := by
  subst e
  exact ⟨.bl k, H, I, rfl, q⟩
theorem op_eq : OpR X (compareOp .Eq) rEq := by
  intro pins s σ H x y v u Q I rx ry h
  obtain ⟨hs, q⟩ := h
  cases x with
  | non =>
    cases rx
    cases y with
    | non => cases ry; exact PySem.EqNone.eq_none_none (fin_bl I q (by simp))
    | bl j => cases ry; exact PySem.EqNone.eq_none_bool (fin_bl I q (by simp))
    | int j => obtain ⟨t', rfl⟩ := ry; exact PySem.EqNone.eq_none_int (fin_bl I q (by simp))
    | str j => obtain ⟨t', rfl⟩ := ry; exact PySem.EqNone.eq_none_str (fin_bl I q (by simp))
    | _ => exact absurd (show false = true from hs) Bool.false_ne_true
  | bl i =>
    cases rx
    cases y with
    | non => cases ry; exact PySem.EqNone.eq_bool_none (fin_bl I q (by simp))
    | bl j => cases ry; exact eq_bool (fin_bl I q dec_bl)
    | str j => obtain ⟨t', rfl⟩ := ry; exact PySem.EqMixed.eq_bool_str (fin_bl I q (by simp))
    | _ => exact absurd (show false = true from hs) Bool.false_ne_true
  | int i =>
    obtain ⟨t, rfl⟩ := rx
    cases y with
    | non => cases ry; exact PySem.EqNone.eq_int_none (fin_bl I q (by simp))
    | int j => obtain ⟨t', rfl⟩ := ry; exact eq_int (fin_bl I q dec_int)
    | str j => obtain ⟨t', rfl⟩ := ry; exact PySem.EqMixed.eq_int_str (fin_bl I q (by simp))
    | _ => exact absurd (show false = true from hs) Bool.false_ne_true
  | str i =>
    obtain ⟨t, rfl⟩ := rx
    cases y with
    | non => cases ry; exact PySem.EqNone.eq_str_none (fin_bl I q (by simp))
    | bl j => cases ry; exact PySem.EqMixed.eq_str_bool (fin_bl I q (by simp))
    | int j => obtain ⟨t', rfl⟩ := ry; exact PySem.EqMixed.eq_str_int (fin_bl I q (by simp))
    | str j => obtain ⟨t', rfl⟩ := ry; exact eq_str (fin_bl I q dec_str)
    | _ => exact absurd (show false = true from hs) Bool.false_ne_true
  | byt i =>
    obtain ⟨t, rfl⟩ := rx
    cases y with
    | byt j => obtain ⟨t', rfl⟩ := ry; exact PySem.W.eq_bytes (fin_bl I q dec_byt)
    | _ => exact absurd (show false = true from hs) Bool.false_ne_true
  | _ => cases y <;> exact absurd (show false = true from hs) Bool.false_ne_true
theorem op_ne : OpR X (compareOp .NotEq) rNe := by
  intro pins s σ H x y v u Q I rx ry h
  obtain ⟨hs, q⟩ := h
  cases x with
  | non =>
    cases rx
    cases y with
    | non => cases ry; exact PySem.EqNone.ne_none_none (fin_bl I q (by simp))
    | bl j => cases ry; exact PySem.EqNone.ne_none_bool (fin_bl I q (by simp))
    | int j => obtain ⟨t', rfl⟩ := ry; exact PySem.EqNone.ne_none_int (fin_bl I q (by simp))
    | str j => obtain ⟨t', rfl⟩ := ry; exact PySem.EqNone.ne_none_str (fin_bl I q (by simp))
    | _ => exact absurd (show false = true from hs) Bool.false_ne_true
  | bl i =>
    cases rx
    cases y with
    | non => cases ry; exact PySem.EqNone.ne_bool_none (fin_bl I q (by simp))
    | bl j => cases ry; exact ne_bool (fin_bl I q (congrArg not dec_bl))
    | str j => obtain ⟨t', rfl⟩ := ry; exact PySem.EqMixed.ne_bool_str (fin_bl I q (by simp))
    | _ => exact absurd (show false = true from hs) Bool.false_ne_true
  | int i =>
    obtain ⟨t, rfl⟩ := rx
    cases y with
    | non => cases ry; exact PySem.EqNone.ne_int_none (fin_bl I q (by simp))
    | int j => obtain ⟨t', rfl⟩ := ry; exact ne_int (fin_bl I q (congrArg not dec_int))
    | str j => obtain ⟨t', rfl⟩ := ry; exact PySem.EqMixed.ne_int_str (fin_bl I q (by simp))
    | _ => exact absurd (show false = true from hs) Bool.false_ne_true
  | str i =>
    obtain ⟨t, rfl⟩ := rx
    cases y with
    | non => cases ry; exact PySem.EqNone.ne_str_none (fin_bl I q (by simp))
    | bl j => cases ry; exact PySem.EqMixed.ne_str_bool (fin_bl I q (by simp))
    | int j => obtain ⟨t', rfl⟩ := ry; exact PySem.EqMixed.ne_str_int (fin_bl I q (by simp))
    | str j => obtain ⟨t', rfl⟩ := ry; exact ne_str (fin_bl I q (congrArg not dec_str))
    | _ => exact absurd (show false = true from hs) Bool.false_ne_true
  | byt i =>
    obtain ⟨t, rfl⟩ := rx
    cases y with
    | byt j => obtain ⟨t', rfl⟩ := ry; exact PySem.W.ne_bytes (fin_bl I q (congrArg not dec_byt))
    | _ => exact absurd (show false = true from hs) Bool.false_ne_true
  | _ => cases y <;> exact absurd (show false = true from hs) Bool.false_ne_true

theorem op_lt : OpR X (compareOp .Lt) (rI0 fun i j => .bl (decide (i < j))) := opB0 fun _ _ _ _ _ _ _ q => lt_int q
theorem op_le : OpR X (compareOp .LtE) (rI0 fun i j => .bl (decide (i ≤ j))) := opB0 fun _ _ _ _ _ _ _ q => le_int q
theorem op_gt : OpR X (compareOp .Gt) (rI0 fun i j => .bl (decide (j < i))) := opB0 fun _ _ _ _ _ _ _ q => gt_int q
theorem op_ge : OpR X (compareOp .GtE) (rI0 fun i j => .bl (decide (j ≤ i))) := opB0 fun _ _ _ _ _ _ _ q => ge_int q
/-- is None, is not None: the right side a value none -/
theorem op_isN : OpR X (compareOp .Is) (fun x y H Q => y = .non ∧ Q (.bl (decide (x = .non))) H) := by
  intro pins s σ H x y v u Q I rx ry h
  obtain ⟨rfl, q⟩ := h
  cases ry
  refine is_none_gen (fin_bl I q ?_)
  cases x <;> first
    | (cases rx; rfl)
    | (obtain ⟨t, rfl⟩ := rx; rfl)
theorem nomark (b : Expr) {op : CmpOp} (h : op ≠ .In := by decide) (h2 : op ≠ .NotIn := by decide) : behindInMarks op b = false := by
  have e1 : (op == CmpOp.In) = false := by cases op <;> first | rfl | exact absurd rfl h
  have e2 : (op == CmpOp.NotIn) = false := by cases op <;> first | rfl | exact absurd rfl h2
  cases b <;> simp [behindInMarks, e1, e2]
/-- a comparison as a value; hm: nomark b, or (for in, not in) by with_unfolding_all rfl -/
theorem pe_cmpR {op : CmpOp} {r : R2} (ho : OpR X (compareOp op) r) (ha : PE X a ta) (hb : PE X b tb) (hm : behindInMarks op b = false) : PE X (.Compare a [op] [b] pos) (tOp r ta tb) := by
  intro pins s σ H Q I h
  exact wpAny_Compare1 (binT ha hb I h fun v u s2 x y H2 I2 rx ry q => ho pins s2 σ H2 x y v u Q I2 rx ry q) hm
/-- a reading of a value as a test -/
def tTest (t : TE) : TT := fun σ H Q => t σ H fun x H' => ∃ k, x = .bl k ∧ Q k H'
theorem pt_cmpR {op : CmpOp} {r : R2} (ho : OpR X (compareOp op) r) (ha : PE X a ta) (hb : PE X b tb) (hm : behindInMarks op b = false) : PT X (.Compare a [op] [b] pos) (tTest (tOp r ta tb)) := by
  intro pins s σ H Q I h
  refine wpAny_isTrue_Compare1 (thn (ha pins s σ H _ I h) fun v s1 ⟨x, H1, I1, r1, q1⟩ => thn (hb pins s1 σ H1 _ I1 q1) fun u s2 ⟨y, H2, I2, r2, q2⟩ =>
    thn (ho pins s2 σ H2 x y v u _ I2 r1 r2 q2) fun c s3 ⟨z, H3, I3, r3, k, e, q3⟩ => ?_) hm
  subst e
  cases r3
  exact wpAny_truthy_bool ⟨H3, I3, q3⟩
/-- a op1 b op2 c -/
def tChain (r r' : R2) (ta tb tc : TE) : TE := fun σ H Q => ta σ H fun x H1 => tb σ H1 fun y H2 => r x y H2 fun z H3 => ∃ k, z = .bl k ∧
  (if k = true then tc σ H3 fun w' H4 => r' y w' H4 Q else Q (.bl false) H3)
theorem pt_chain {op op' : CmpOp} {r r' : R2} (ho : OpR X (compareOp op) r) (ho' : OpR X (compareOp op') r') (ha : PE X a ta) (hb : PE X b tb) (hc : PE X c tc)
    (hm : lastMarks [op, op'] [b, c] = false := by with_unfolding_all rfl) : PT X (.Compare a [op, op'] [b, c] pos) (tTest (tChain r r' ta tb tc)) := by
  intro pins s σ H Q I h
  refine isTrue_chain (thn (ha pins s σ H _ I h) fun v s1 ⟨x, H1, I1, r1, q1⟩ => test_link (thn (hb pins s1 σ H1 _ I1 q1) fun u s2 ⟨y, H2, I2, r2, q2⟩ =>
    thn (ho pins s2 σ H2 x y v u _ I2 r1 r2 q2) fun d s3 ⟨z, H3, I3, r3, k, e, q3⟩ => ?_)) hm
  subst e
  cases r3
  refine wpAny_truthy_bool ?_
  cases k with
  | false =>
    obtain ⟨k', e', q'⟩ := q3
    cases e'
    exact ite_ff ⟨H3, I3, q'⟩
  | true =>
    refine ite_tt (test_last (thn (hc pins s3 σ H3 _ I3 q3) fun w' s4 ⟨z', H4, I4, r4, q4⟩ => thn (ho' pins s4 σ H4 y z' u w' _ I4 r2 r4 q4) fun d' s5 ⟨z2, H5, I5, r5, k2, e2, q5⟩ => ?_))
    subst e2
    cases r5
    exact wpAny_truthy_bool ⟨H5, I5, q5⟩

/-! ### truth -/
theorem line63 : (sizeLine : Nat) < 2 ^ 63 := by rw [sizeLine_eq]; decide
/-! ### strs and bytes -/
/-! ### scalar builtins, by CallR -/
theorem vals1 {x : V} {us : List Value} (r : Vals [x] us) : ∃ u, us = [u] ∧ RelV x u := by
  cases r with
  | cons r1 r2 => cases r2; exact ⟨_, rfl, r1⟩
theorem vals2 {x y : V} {us : List Value} (r : Vals [x, y] us) : ∃ u w', us = [u, w'] ∧ RelV x u ∧ RelV y w' := by
  cases r with
  | cons r1 r2 =>
    cases r2 with
    | cons r3 r4 => cases r4; exact ⟨_, _, rfl, r1, r3⟩
theorem call_abs : CallR X (.builtin "abs") (fun xs H Q => ∃ i, xs = [.int i] ∧ Q (.int (if i < 0 then -i else i)) H) := by
  intro pins s σ H xs us Q I r h
  obtain ⟨i, rfl, q⟩ := h
  obtain ⟨u, rfl, t, rfl⟩ := vals1 r
  exact call_abs_int fun u tk => ⟨.int (if i < 0 then -i else i), H, I.tok _, ⟨_, rfl⟩, q⟩
theorem call_int1 : CallR X (.type "int") (fun xs H Q => (∃ i, xs = [.int i] ∧ Q (.int i) H) ∨ ∃ k, xs = [.bl k] ∧ Q (.int (if k then 1 else 0)) H) := by
  intro pins s σ H xs us Q I r h
  rcases h with ⟨i, rfl, q⟩ | ⟨k, rfl, q⟩
  · obtain ⟨u, rfl, t, rfl⟩ := vals1 r
    exact call_int_int ⟨.int i, H, I, ⟨_, rfl⟩, q⟩
  · obtain ⟨u, rfl, r1⟩ := vals1 r
    cases r1
    exact call_int_bool ⟨.int (if k then 1 else 0), H, I.tok _, ⟨_, rfl⟩, q⟩
end
end L2

namespace L2
open PySem PySem.Spec PyProof.Rows

/-! ### an instance, its attributes a map -/
structure ObjM (h : Heap) (x dx C : Addr) (mA : Str → Option Value) : Prop where
  obj : h.get? x = some (PySem.W.instObj C dx)
  ns : h.Ns1 dx mA
  ne : dx ≠ x

theorem lookIn_ns {h : Heap} {dx : Addr} {mA : Str → Option Value} (n : h.Ns1 dx mA) : ∃ od, h.get? dx = some od ∧ ∀ name, PySem.W.lookIn name od = some (mA name) := by
  obtain ⟨o, es, ep, ho, hd, hk, _, hm⟩ := n
  refine ⟨o, ho, fun name => ?_⟩
  have e := hm name
  unfold nsFind findBy at e
  rw [← Array.find?_toList] at e
  unfold PySem.W.lookIn
  rw [hd]
  dsimp only
  split
  · rename_i y q
    rw [q] at e
    exact congrArg some e
  · rename_i q
    rw [q] at e
    have a : es.toList.any (·.refKey) = false := by
      rw [List.any_eq_false]
      intro y hy
      obtain ⟨z, t, hkey⟩ := hk y (Array.mem_toList_iff.mp hy)
      simp [DictEntry.refKey, hkey]
    have a' : ¬ es.toList.any (·.refKey) = true := by rw [a]; exact Bool.false_ne_true
    rw [if_neg a']
    exact congrArg some e

theorem ObjM.look {h : Heap} {x dx C : Addr} {mA : Str → Option Value} (I : ObjM h x dx C mA) : ∃ od, PySem.W.InstAt h x (PySem.W.instObj C dx) C (some od) ∧ ∀ name, PySem.W.lookIn name od = some (mA name) :=
  let ⟨od, ho, hl⟩ := lookIn_ns I.ns
  ⟨od, ⟨I.obj, rfl, rfl, ho⟩, hl⟩

section
variable {prog : Program} {w : World} {A : Around} {E : Value → Shared → Prop} {s : Shared} {K : PySem.W.Frag} {x dx C f : Addr} {mA : Str → Option Value} {name : Str} {v : Value}

end

/-! ### the attributes as a list of pairs -/
theorem RelO.some_of {v : V} {o : Option Value} (r : RelO (some v) o) : ∃ u, o = some u ∧ RelV v u := by
  cases o with
  | none => exact (show False from r).elim
  | some u => exact ⟨u, rfl, r⟩
section
variable {P : Program} {w : World} {H H' : Hp} {h h' : Heap} {a C dx : Addr} {fs fs' : List (Str × V)}
theorem ins_get (hok : HOk P w H h) (e : H a = some (.ins C dx fs)) : ∃ mA, ObjM h a dx C mA ∧ (∀ f, RelO (fs.lookup f) (mA f)) ∧ PySem.Within mA (fs.map (·.1)) ∧ fs.length ≤ 1000 ∧ H dx = some (.own a) := by
  obtain ⟨d, z, ne, ob, mA, n, r, q⟩ := (show ObjOk P w H h a (.ins C dx fs) from hok a _ e)
  exact ⟨mA, ⟨ob, n, ne⟩, r, q, z, d⟩
end

/-! ### what of the text a class must have -/
structure Cls (K : PySem.W.Frag) (C : Addr) : Prop where
  pg : PySem.W.plainGet K C Str.empty = true
  hd : PySem.W.hasDictIn K C = true
  po : PySem.W.plainOver K C = true
  sa : PySem.W.findIn K (.ref C) "__setattr__" = some (some (.builtin "object.__setattr__"))
theorem Cls.get {K : PySem.W.Frag} {C : Addr} (c : Cls K C) (f : Str) : PySem.W.plainGet K C f = true := c.pg
section
variable {X : Cx} {pins : List (Addr × Obj)} {σ : St} {H : Hp} {s : Shared} {a C dx : Addr} {fs : List (Str × V)} {f : Str} {v : V} {A : Around} {E : Value → Shared → Prop}

end

/-! ### readings and rules -/
section
variable {X : Cx} {o e value : Expr} {f : Str} {pos pos' tpos : Pos} {ta tv : TE}
end

/-! ### isinstance -/
section
variable {X : Cx} {pins : List (Addr × Obj)} {σ : St} {H : Hp} {s : Shared} {A : Around} {E : Value → Shared → Prop} {Q : Value → Shared → Prop} {c : Value} {b : Bool}
/-- the type of a value, as the fragment's deciders take it; for an instance its class -/
inductive TyOf (K : PySem.W.Frag) (H : Hp) : V → Value → Prop where
  | non : TyOf K H .non (.type "NoneType")
  | bl (x : Bool) : TyOf K H (.bl x) (.type "bool")
  | int (i : Int) : TyOf K H (.int i) (.type "int")
  | str (x : Str) : TyOf K H (.str x) (.type "str")
  | flt (x : UInt64) : TyOf K H (.flt x) (.type "float")
  | lst {a : Addr} {xs : List V} (e : H a = some (.lst xs)) : TyOf K H (.ref a) (.type "list")
  | frz {a : Addr} {o : Obj} {xs : List V} (e : H a = some (.frz o (.lst xs))) : TyOf K H (.ref a) (.type "list")
  | tup {a : Addr} {xs : List V} (e : H a = some (.tup xs)) : TyOf K H (.ref a) (.type "tuple")
  | dK {a : Addr} {kvs : List (Key × V)} (e : H a = some (.dK kvs)) : TyOf K H (.ref a) (.type "dict")
  | dT {a : Addr} {kvs : List (List Key × V)} (e : H a = some (.dT kvs)) : TyOf K H (.ref a) (.type "dict")
  | ins {a C dx : Addr} {fs : List (Str × V)} (e : H a = some (.ins C dx fs)) (cl : Cls K C) (ha : PySem.W.findIn K (.ref C) "__class__" = some (some (.builtin "object.__class__")))
      (hn : PySem.W.specialIn K (.builtin "object.__class__") "__get__" = some (some (.builtin "getset_descriptor.__get__"))) (htk : PySem.W.takesIn K (.builtin "object.__class__") = some true)
      (hm : PySem.W.mroIn K C (.type "object") = some true) : TyOf K H (.ref a) (.ref C)
/-- isinstance(x, c) for one class c, a built-in or an own one: kitOne's answer -/
theorem isinst_ok {x : V} {u t : Value} (I : Inv X pins σ H s) (rx : RelV x u) (ty : TyOf X.K H x t) (e : PySem.W.kitOne X.K t c = some b) (h : ∀ tk, Q (.bool b) { s with toks := tk }) :
    wpAny (model X.prog X.w) A (call (.builtin "isinstance") [u, c]) Q E s := by
  cases ty with
  | non => cases (show u = Value.none from rx); exact PySem.W.kia_one PySem.W.kitx_none I.kIn True.intro e (fun z => nomatch z) h
  | bl y => cases (show u = Value.bool y from rx); exact PySem.W.kia_one PySem.W.kitx_bool I.kIn True.intro e (fun z => nomatch z) h
  | int i => obtain ⟨t, q⟩ := (show ∃ t, u = Value.int i t from rx); cases q; exact PySem.W.kia_one PySem.W.kitx_int I.kIn True.intro e (fun z => nomatch z) h
  | str y => obtain ⟨t, q⟩ := (show ∃ t, u = Value.str y t from rx); cases q; exact PySem.W.kia_one PySem.W.kitx_str I.kIn True.intro e (fun z => nomatch z) h
  | flt y => obtain ⟨t, q⟩ := (show ∃ t, u = Value.float y t from rx); cases q; exact PySem.W.kia_one PySem.W.kitx_float I.kIn True.intro e (fun z => nomatch z) h
  | @lst a xs ea =>
    cases (show u = Value.ref a from rx)
    obtain ⟨_, _, n, _, h1⟩ := (show ObjOk X.prog X.w H s.heap a (.lst xs) from I.hok a _ ea)
    exact PySem.W.kia_one PySem.W.kitx_list I.kIn ⟨_, h1, rfl⟩ e (fun z => nomatch z) h
  | @frz a ob xs ea =>
    cases (show u = Value.ref a from rx)
    obtain ⟨_, _, _, n, _, h1⟩ := (show ObjOk X.prog X.w H s.heap a (.frz ob (.lst xs)) from I.hok a _ ea)
    exact PySem.W.kia_one PySem.W.kitx_list I.kIn ⟨_, h1, rfl⟩ e (fun z => nomatch z) h
  | @tup a xs ea =>
    cases (show u = Value.ref a from rx)
    obtain ⟨_, _, _, p⟩ := (show ObjOk X.prog X.w H s.heap a (.tup xs) from I.hok a _ ea)
    obtain ⟨o, h1, h2, _⟩ := p
    exact PySem.W.kia_one PySem.W.kitx_tuple I.kIn ⟨o, h1, h2⟩ e (fun z => nomatch z) h
  | @dK a kvs ea =>
    cases (show u = Value.ref a from rx)
    obtain ⟨_, _, vs, _, p⟩ := (show ObjOk X.prog X.w H s.heap a (.dK kvs) from I.hok a _ ea)
    obtain ⟨o, es, ep, h1, h2, _⟩ := p
    exact PySem.W.kia_one PySem.W.kitx_dict I.kIn ⟨o, h1, h2.1⟩ e (fun z => nomatch z) h
  | @dT a kvs ea =>
    cases (show u = Value.ref a from rx)
    obtain ⟨_, _, xs, _, o, es, ep, h1, h2, _⟩ := (show ObjOk X.prog X.w H s.heap a (.dT kvs) from I.hok a _ ea)
    exact PySem.W.kia_one PySem.W.kitx_dict I.kIn ⟨o, h1, h2.1⟩ e (fun z => nomatch z) h
  | @ins a C dx fs ea cl ha hn htk hm =>
    cases (show u = Value.ref a from rx)
    obtain ⟨mA, O, _⟩ := ins_get I.hok ea
    obtain ⟨od, J, _⟩ := O.look
    exact PySem.W.kia_one (PySem.W.kitx_own (cl.get _) cl.hd ha hn htk hm) I.kIn J e (fun z => nomatch z) h
end
end L2

namespace L2
open PySem PySem.Spec PyProof.Rows

/-! ### room -/
structure Room (k : Nat) (A : Around) : Prop where
  hd : A.handled = none
  dp : A.depth + 3 * k + 5 < recursionLimit
  un : A.units + 16 * k + 200 < cLine
  gd : A.guards = some []
theorem Room.mono {j k : Nat} {A : Around} (r : Room k A) (h : j ≤ k) : Room j A := ⟨r.hd, by have := r.dp; omega, by have := r.un; omega, r.gd⟩
theorem Room.deeper {k : Nat} {A : Around} (r : Room (k + 1) A) (env : Env) : Room k (A.deeper env) :=
  ⟨r.hd, by have := r.dp; show A.depth + 1 + 3 * k + 5 < _; omega, by have := r.un; show A.units + 3 + 16 * k + 200 < _; omega, r.gd⟩
theorem Room.depth {k : Nat} {A : Around} (r : Room k A) : A.depth < recursionLimit := by have := r.dp; omega
theorem Room.units {k : Nat} {A : Around} (r : Room k A) : A.units + 64 < cLine := by have := r.un; omega
theorem Room.units0 {k : Nat} {A : Around} (r : Room k A) : A.units < cLine := by have := r.un; omega

/-! ### argument lists and displays -/
def tNil : TA := fun _ H Q => Q [] H
def tCons (ta : TE) (tr : TA) : TA := fun σ H Q => ta σ H fun x H1 => tr σ H1 fun xs H2 => Q (x :: xs) H2
section
variable {X : Cx} {e : Expr} {es : List Expr} {te : TE} {t : TA} {pos : Pos}
theorem pa_nil : PA X [] tNil := fun _ _ _ _ H Q I h => Calls.spliced_nil ⟨[], H, I, .nil, h⟩
theorem pa_cons (ha : PE X e te) (hr : PA X es t) (hs : starEach (e :: es) X.env = (false, eval e X.env) :: starEach es X.env := by rfl) : PA X (e :: es) (tCons te t) := by
  intro pos pins s σ H Q I h
  rw [hs]
  show wpAny _ _ (spliced ((false, eval e X.env) :: backTo pos (starEach es X.env))) _ _ s
  refine Calls.spliced_cons (thn (ha pins s σ H _ I h) fun u s1 ⟨x, H1, I1, r1, q1⟩ => ?_)
  exact thn (hr pos pins s1 σ H1 _ I1 q1) fun us s2 ⟨xs, H2, I2, r2, q2⟩ => ⟨x :: xs, H2, I2, .cons r1 r2, q2⟩

/-- a tuple, a list of written items -/
def tTup (t : TA) : TE := fun σ H Q => t σ H fun xs H1 => xs.length ≤ sizeLine ∧ ∀ p, H1 p = none → Q (.ref p) (upd H1 p (.tup xs))
def tLst (t : TA) : TE := fun σ H Q => t σ H fun xs H1 => xs.length ≤ sizeLine ∧ ∀ p, H1 p = none → Q (.ref p) (upd H1 p (.lst xs))
theorem pe_tup {x1} (h : PA X es t) : PE X (.Tuple es x1 pos) (tTup t) := by
  intro pins s σ H Q I hq
  refine wpAny_Tuple_spliced (thn (h pos pins s σ H _ I hq) fun us s1 ⟨xs, H1, I1, r, z, q⟩ => ⟨by rw [← r.length]; exact z, ?_⟩)
  have hf : H1 s1.heap.objs.size = none := I1.hok.fresh (Nat.le_refl _)
  refine ⟨.ref s1.heap.objs.size, upd H1 s1.heap.objs.size (.tup xs), I1.laid (t' := s1.toks) (fun b u e => Heap.get?_push_of_some _ e) (Nat.le_refl _) ?_, rfl, q _ hf⟩
  exact ⟨z, us, r, ⟨_, Heap.get?_push_size _ rfl, rfl, _, rfl⟩⟩
theorem pe_lst (h : PA X es t) : PE X (.List es pos) (tLst t) := by
  intro pins s σ H Q I hq
  refine wpAny_List_spliced (thn (h pos pins s σ H _ I hq) fun us s1 ⟨xs, H1, I1, r, z, q⟩ => ⟨by rw [← r.length]; exact z, ?_⟩)
  have hf : H1 s1.heap.objs.size = none := I1.hok.fresh (Nat.le_refl _)
  refine ⟨.ref s1.heap.objs.size, upd H1 s1.heap.objs.size (.lst xs), I1.laid (t' := s1.toks) (fun b u e => Heap.get?_push_of_some _ e) (Nat.le_refl _) ?_, rfl, q _ hf⟩
  exact ⟨z, us, 0, r, Heap.get?_push_size _ rfl⟩
end

/-! ### what a def promises -/
/-- a def's promise: the bound arguments in the parameters' order, the heap, the wanted end, the wanted exception -/
abbrev Sp := List V → Hp → VK → XK → Prop
/-- how an exception lies behind a call (file 08 gives it): the callers' frames, abstract heap and state ahead of the call, the wish, the exception, the state -/
abbrev CXT := List Env → Hp → Shared → XK → Value → Shared → Prop

/-- the state at a call -/
structure Env0 (P : Program) (w : World) (K : PySem.W.Frag) (mg : Str → Option Value) (base : Heap) (A : Around) (outer : List Env) (s : Shared) (H : Hp) : Prop where
  frames : A.frames = some outer
  mod : Mod K mg base
  bs : ∀ b o, base.get? b = some o → s.heap.get? b = some o ∧ H b = none
  bsz : base.objs.size ≤ s.heap.objs.size
  funs : s.heap.FunFrames base outer
  frf : ∀ b ∈ frs outer, H b = none
  hok : HOk P w H s.heap
  bare : AllBare s.gens
/-- a call's end -/
def CE (outer : List Env) (P : Program) (w : World) (H : Hp) (s : Shared) (Q : VK) (u : Value) (s' : Shared) : Prop :=
  ∃ v H', s'.os = s.os ∧ AllBare s'.gens ∧ Un (frs outer) [] H H' s.heap s'.heap ∧ HOk P w H' s'.heap ∧ RelV v u ∧ Q v H'
def CR (CX : CXT) (outer : List Env) (P : Program) (w : World) (H : Hp) (s : Shared) (Q : VK) (E : XK) (r : Result) (s' : Shared) : Prop :=
  match r with
  | .ok (.ret u) => CE outer P w H s Q u s'
  | .ok _ => False
  | .error e => CX outer H s E e s'
structure FnOk (P : Program) (w : World) (K : PySem.W.Frag) (mg : Str → Option Value) (base : Heap) (CX : CXT) (k : Nat) (f : Addr) (fd : FuncData) (ps : List Str) (sp : Sp) : Prop where
  len : ∀ vs H Q E, sp vs H Q E → vs.length = ps.length
  run : ∀ (A : Around) (outer : List Env) (s : Shared) (H : Hp) (args : Args) (us : List Value) (vs : List V) (Q : VK) (E : XK), Room k A → Env0 P w K mg base A outer s H → BindsTo s fd args (ps.zip us) → Vals vs us → sp vs H Q E →
    codeAny (model P w) A (.call (.ref f) args) (CR CX outer P w H s Q E) s
/-- a weaker promise -/
theorem FnOk.imp {P : Program} {w : World} {K : PySem.W.Frag} {mg : Str → Option Value} {base : Heap} {CX : CXT} {k : Nat} {f : Addr} {fd : FuncData} {ps : List Str} {sp sp' : Sp} (F : FnOk P w K mg base CX k f fd ps sp)
    (h : ∀ vs H Q E, sp' vs H Q E → sp vs H Q E) : FnOk P w K mg base CX k f fd ps sp' :=
  ⟨fun vs H Q E q => F.len vs H Q E (h _ _ _ _ q), fun A outer s H args us vs Q E hr he hb hv hs => F.run A outer s H args us vs Q E hr he hb hv (h _ _ _ _ hs)⟩

section
variable {X : Cx} {pins : List (Addr × Obj)} {σ : St} {H : Hp} {s s' : Shared}
/-- from a body: what a callee wants -/
theorem Inv.env0 (I : Inv X pins σ H s) : Env0 X.prog X.w X.K X.mg X.base X.A X.stack s H :=
  ⟨I.ok.frames, I.ok.mod, I.bs, Nat.le_trans I.ok.bsz I.sz, I.stack, I.stkFree, I.hok, I.bare⟩
/-- behind a call -/
theorem Inv.after {Q : VK} {u : Value} (I : Inv X pins σ H s) (h : CE X.stack X.prog X.w H s Q u s') : EP X pins σ Q u s' := by
  obtain ⟨v, H', os, bare, un, hok, r, q⟩ := h
  obtain ⟨hh, g, d, t, os'⟩ := s'
  obtain rfl : os' = s.os := os
  exact ⟨v, H', I.call (h' := hh) (g' := g) (d' := d) (t' := t) (ch := []) un hok bare (fun b z => absurd z (by simp)), r, q⟩
end

/-! ### calls -/
/-- f(..): the written arguments, then the defaults dvs; E: what is wanted of an exception -/
def tCall (sp : Sp) (dvs : List V) (E : XK) (t : TA) : TE := fun σ H Q => t σ H fun vs H1 => sp (vs ++ dvs) H1 Q E
/-- how the parameters are bound: us the positional arguments, kw the keywords' values by name, ds the defaults that fill up -/
def Binds (K : PySem.W.Frag) (fd : FuncData) (ps : List Str) (ds : List Value) : Prop :=
  ∀ (s : Shared) (us : List Value), K.In s.heap → (us ++ ds).length = ps.length → BindsTo s fd ⟨us, []⟩ (ps.zip (us ++ ds))
/-- every parameter is given -/
theorem Binds.all {K : PySem.W.Frag} {fd : FuncData} {ps : List Str} (h : ∀ us : List Value, us.length = ps.length → bindArgs fd ⟨us, []⟩ = pure (ps.zip us)) : Binds K fd ps [] := fun s us _ hl => by
  rw [List.append_nil] at hl ⊢
  exact .of_eq (h us hl)

/-- an exception of a callee reaches what this body wants of exceptions -/
def Passes (CX : CXT) (X : Cx) (E : XK) : Prop := ∀ (pins : List (Addr × Obj)) (σ : St) (H : Hp) (s : Shared) (e : Value) (s' : Shared), Inv X pins σ H s → CX X.stack H s E e s' → X.xe e s'

section
variable {X : Cx} {CX : CXT} {k : Nat} {f C : Addr} {fd : FuncData} {ps : List Str} {sp : Sp} {dvs : List V} {ds : List Value} {E : XK} {x m : Str} {p pos apos : Pos} {e o : Expr} {es : List Expr} {ta : TE} {t : TA}

/-- the callee runs -/
theorem run_fn {pins : List (Addr × Obj)} {σ : St} {H : Hp} {s : Shared} {Q : VK} {us : List Value} {vs : List V} (F : FnOk X.prog X.w X.K X.mg X.base CX k f fd ps sp) (hr : Room k X.A) (hb : Binds X.K fd ps ds) (hd : Vals dvs ds) (hx : Passes CX X E)
    (I : Inv X pins σ H s) (r : Vals vs us) (h : sp (vs ++ dvs) H Q E) : wpAny (model X.prog X.w) X.A (call (.ref f) us) (EP X pins σ Q) X.xe s := by
  have r2 : Vals (vs ++ dvs) (us ++ ds) := r.append hd
  have hl : (us ++ ds).length = ps.length := by rw [← r2.length]; exact F.len _ _ _ _ h
  refine wpAny_call (codeAny_mono (F.run X.A X.stack s H ⟨us, []⟩ (us ++ ds) (vs ++ dvs) Q E hr I.env0 (hb s us I.kIn hl) r2 h) fun r s' hq => ?_)
  cases r with
  | error e => exact hx pins σ H s e s' I hq
  | ok fl =>
    cases fl with
    | ret u => exact I.after hq
    | next => exact False.elim hq
    | brk => exact False.elim hq
    | cont => exact False.elim hq

theorem pe_call (F : FnOk X.prog X.w X.K X.mg X.base CX k f fd ps sp) (hr : Room k X.A) (hg : Gl X x) (hm : X.mg x = some (.ref f)) (hk : PySem.W.keepIn X.K (.ref f) = true) (hb : Binds X.K fd ps ds) (hd : Vals dvs ds) (hx : Passes CX X E)
    (ha : PA X (e :: es) t) (hdb : (x == ("__debug__" : Str)) = false := by decide) (he : starEach (e :: es) X.env = (false, eval e X.env) :: starEach es X.env := by rfl) (hpl : (backTo pos (starEach es X.env)).any (·.1) = false := by rfl) :
    PE X (.Call (.Name x p) (e :: es) [] pos) (tCall sp dvs E t) := by
  intro pins s σ H Q I h
  refine wpAny_Call_Name_kw (ld_glob I hg hm ?_ hdb)
  refine PySem.W.callWith_K (h₀ := X.base) I.ok.mod.kin hk (thn (ha pos pins s σ H _ I h) fun us s1 ⟨vs, H1, I1, r, q⟩ => ⟨I1.kIn, ?_⟩) he hpl
  exact run_fn F hr hb hd hx I1 r q
end

/-! ### keywords -/
section
variable {X : Cx} {CX : CXT} {k : Nat} {f C : Addr} {fd : FuncData} {ps ks : List Str} {sp : Sp} {E : XK} {x m : Str} {p pos apos kpos : Pos} {e o : Expr} {es : List Expr} {kws : List Keyword} {te ta : TE} {t tk : TA} {nm : Option Str}
variable {g : List Value → List Value → List Value} {gV : List V → List V → List V}
end

/-! ### a def's body keeps its promise -/
/-- names: the parameters first -/
structure FnScope (N P : List Str) (sc : Scope) : Prop where
  kind : sc.kind = .function
  co : sc.isCoroutine = false
  gen : sc.isGenerator = false
  nd : N.Nodup
  pre : N.take P.length = P
  par : ∀ x ∈ P, sc.names.lookup x = some .local ∨ sc.names.lookup x = some .cell
  nofree : ∀ y ∈ sc.names, y.2 ≠ .free

theorem bindL_out {kindOf : Str → Option NameKind} {x : Str} : ∀ {binds : List (Str × Value)} {m : Str → Option Value}, (∀ v, (x, v) ∉ binds) → bindL kindOf binds m x = m x
  | [], _, _ => rfl
  | (n, v) :: r, m, h => by
    unfold bindL
    rw [bindL_out fun w hw => h w (List.mem_cons_of_mem _ hw)]
    split
    · have : x ≠ n := by rintro rfl; exact h v List.mem_cons_self
      simp [this]
    · rfl
theorem bindC_out {kindOf : Str → Option NameKind} {x : Str} : ∀ {binds : List (Str × Value)} {m : Str → Option Value}, (∀ v, (x, v) ∉ binds) → bindC kindOf binds m x = m x
  | [], _, _ => rfl
  | (n, v) :: r, m, h => by
    unfold bindC
    rw [bindC_out fun w hw => h w (List.mem_cons_of_mem _ hw)]
    split
    · rfl
    · have : x ≠ n := by rintro rfl; exact h v List.mem_cons_self
      simp [this]
theorem bindL_get {kindOf : Str → Option NameKind} {x : Str} {v : Value} : ∀ {P : List Str} {vs : List Value} {i : Nat} {m : Str → Option Value}, P.Nodup → P[i]? = some x → vs[i]? = some v → kindOf x = some .local →
    bindL kindOf (P.zip vs) m x = some v
  | [], _, _, _, _, h, _, _ => by simp at h
  | _ :: _, [], _, _, _, _, h, _ => by simp at h
  | p :: P, w :: vs, 0, m, nd, h1, h2, hk => by
    simp at h1 h2; subst h1; subst h2
    show bindL kindOf ((p, w) :: P.zip vs) m p = _
    unfold bindL
    rw [bindL_out fun v hv => (List.nodup_cons.mp nd).1 (List.of_mem_zip hv).1, if_pos hk]
    simp
  | p :: P, w :: vs, i + 1, m, nd, h1, h2, hk => by
    show bindL kindOf ((p, w) :: P.zip vs) m x = _
    unfold bindL
    exact bindL_get (i := i) (List.nodup_cons.mp nd).2 (by simpa using h1) (by simpa using h2) hk
theorem bindC_get {kindOf : Str → Option NameKind} {x : Str} {v : Value} : ∀ {P : List Str} {vs : List Value} {i : Nat} {m : Str → Option Value}, P.Nodup → P[i]? = some x → vs[i]? = some v → kindOf x ≠ some .local →
    bindC kindOf (P.zip vs) m x = some v
  | [], _, _, _, _, h, _, _ => by simp at h
  | _ :: _, [], _, _, _, _, h, _ => by simp at h
  | p :: P, w :: vs, 0, m, nd, h1, h2, hk => by
    simp at h1 h2; subst h1; subst h2
    show bindC kindOf ((p, w) :: P.zip vs) m p = _
    unfold bindC
    rw [bindC_out fun v hv => (List.nodup_cons.mp nd).1 (List.of_mem_zip hv).1, if_neg hk]
    simp
  | p :: P, w :: vs, i + 1, m, nd, h1, h2, hk => by
    show bindC kindOf ((p, w) :: P.zip vs) m x = _
    unfold bindC
    exact bindC_get (i := i) (List.nodup_cons.mp nd).2 (by simpa using h1) (by simpa using h2) hk

/-- the names' values at the entry -/
def start (N : List Str) (vs : List V) : St := vs.map some ++ List.replicate (N.length - vs.length) none

/-- the context of a def's body, at its entry; an exception leaves the frame, then lies as CX says -/
def cxOf (CX : CXT) (P : Program) (w : World) (K : PySem.W.Frag) (mg : Str → Option Value) (base : Heap) (N : List Str) (qual : Str) (scope : Scope) (f : Addr) (cd : Value) (A : Around) (outer : List Env) (s : Shared) (H : Hp) (E : XK) : Cx where
  prog := P
  w := w
  K := K
  mg := mg
  base := base
  A := A.deeper (envOfC qual scope s.heap.objs.size f cd)
  N := N
  s₀ := s
  H₀ := H
  env := envOfC qual scope s.heap.objs.size f cd
  outer := outer
  stack := envOfC qual scope s.heap.objs.size f cd :: outer
  ex := []
  calm := true
  fn := fun _ => true
  pn := []
  xe := fun e s' => wpAny (model P w) (A.deeper (envOfC qual scope s.heap.objs.size f cd)) (leaving (envOfC qual scope s.heap.objs.size f cd) e) (fun _ s'' => CX outer H s E e s'') (fun e' s'' => CX outer H s E e' s'') s'

theorem cell_has {sc : Scope} {n : Nat} {x : Str} (h : sc.names.lookup x = some .cell) : ∃ c, (cellsFrom n sc.names []).lookup x = some c := by
  have q := PySem.W.cellsFrom_some sc.names n [] (.inl h)
  exact Option.isSome_iff_exists.mp q

theorem inv_start {CX : CXT} {P : Program} {w : World} {K : PySem.W.Frag} {mg : Str → Option Value} {base : Heap} {N ps : List Str} {qual : Str} {scope : Scope} {f : Addr} {cd : Value} {A : Around} {outer : List Env} {s s1 : Shared} {H : Hp} {E : XK} {us : List Value} {vs : List V}
    (S : FnScope N ps scope) (hd : A.handled = none) (e0 : Env0 P w K mg base A outer s H) (hl : vs.length = ps.length) (r : Vals vs us)
    (x : InCallC s s.heap.objs.size (bindL (envOfC qual scope s.heap.objs.size f cd).kindOf (ps.zip us) fun _ => none) (cellsFrom (s.heap.objs.size + 1) scope.names []) (bindC (envOfC qual scope s.heap.objs.size f cd).kindOf (ps.zip us) fun _ => none) s1) :
    Inv (cxOf CX P w K mg base N qual scope f cd A outer s H E) [] (start N vs) H s1 := by
  have hpl : ps.length ≤ N.length := by have := congrArg List.length S.pre; rw [List.length_take] at this; omega
  obtain ⟨h1, tk, rfl, hk⟩ := x.done
  have noA : ∀ b : Addr, b ∉ (cxOf CX P w K mg base N qual scope f cd A outer s H E).ex := fun b z => absurd (show b ∈ ([] : List Addr) from z) (by simp)
  refine ⟨⟨e0.mod, S.kind, rfl, rfl, Nat.le_refl _, fun y z c h1 h2 => ?_, fun y hy => ?_, fun y c _ h => ?_, fun _ => hd, Around.frames_deeper e0.frames, .inr ⟨rfl, rfl⟩, fun b z => absurd z (noA b), e0.bs, e0.bsz, fun b _ _ => noA b, fun b z => absurd z (noA b), e0.funs, e0.frf⟩,
    rfl, e0.bare, Un.kept hk, ⟨_, x.toInCall.ns, fun i y v h1 h2 h3 => ?_⟩, fun y c h => ⟨_, x.cell y c h⟩, e0.hok.fresh (Nat.le_refl _), fun y c h => ?_, fun p hp => absurd (show p ∈ ([] : List (Addr × Obj)) from hp) (by simp), e0.hok.kept hk, ?_⟩
  · exact name_of_addr x.apart (PySem.mem_of_lookup h1) (PySem.mem_of_lookup h2)
  · have hy : scope.names.lookup y = some .cell ∨ scope.names.lookup y = some .free := hy
    rcases hy with hy | hy
    · exact cell_has hy
    · exact absurd rfl (S.nofree _ (PySem.mem_of_lookup hy))
  · exact Nat.le_of_lt (x.above y c (PySem.mem_of_lookup h))
  · have hi : i < vs.length := by
      unfold start at h2
      by_cases hi : i < vs.length
      · exact hi
      · rw [List.getElem?_append_right (by simpa using hi)] at h2
        rw [List.getElem?_replicate] at h2
        split at h2 <;> cases h2
    have ha : vs[i]? = some v := by
      unfold start at h2
      rw [List.getElem?_append_left (by simpa using hi), List.getElem?_map] at h2
      cases e : vs[i]? with
      | none => rw [e] at h2; cases h2
      | some a => rw [e] at h2; cases h2; rfl
    obtain ⟨u, hu, rv⟩ := r.get ha
    have hp : ps[i]? = some y := by
      rw [← S.pre, List.getElem?_take_of_lt (by omega)]; exact h1
    have ndP : ps.Nodup := by rw [← S.pre]; exact S.nd.sublist (List.take_sublist _ _)
    refine ⟨u, rv, ?_⟩
    rcases S.par y (List.mem_of_getElem? hp) with k | k
    · exact .inl ⟨k, bindL_get ndP hp hu k⟩
    · obtain ⟨c, e⟩ := cell_has (n := s.heap.objs.size + 1) k
      refine .inr ⟨.inl k, c, e, ?_⟩
      have q := x.cell y c e
      rw [bindC_get ndP hp hu (by show scope.names.lookup y ≠ _; rw [k]; decide)] at q
      exact q
  · exact e0.hok.fresh (Nat.le_of_lt (x.above y c (PySem.mem_of_lookup h)))
  · unfold start
    show _ = N.length
    rw [List.length_append, List.length_map, List.length_replicate]
    omega

/-- THE RULE: a def (or a method) of the text, by its body. The body's reading t is chosen for each entry; it is run at the parameters' values -/
theorem fn_of {CX : CXT} {P : Program} {w : World} {K : PySem.W.Frag} {mg : Str → Option Value} {base : Heap} {k : Nat} {f : Addr} {name qual : Str} {params : Arguments} {body : List Stmt} {scope : Scope} {dV kV doc pm cdv ct oc : Value} {an od : Option Addr}
    {osl : Array (Option Value)} {N ps : List Str} {sp : Sp} (lk : K.lookup f = some ⟨oc, od, .func (PySem.W.fnOf name qual params body scope dV kV doc pm an cdv ct), osl⟩) (hcd : PySem.W.codeIn K cdv qual = true) (S : FnScope N ps scope)
    (len : ∀ vs H Q E, sp vs H Q E → vs.length = ps.length)
    (hbody : ∀ (A : Around) (outer : List Env) (s : Shared) (H : Hp) (vs : List V) (Q : VK) (E : XK), Room k (A.deeper (envOfC qual scope s.heap.objs.size f cdv)) → sp vs H Q E →
      ∃ t, PSs (cxOf CX P w K mg base N qual scope f cdv A outer s H E) body t ∧ t { nx := fun _ H' => Q .non H', rt := Q } (start N vs) H) :
    FnOk P w K mg base CX (k + 1) f (PySem.W.fnOf name qual params body scope dV kV doc pm an cdv ct) ps sp := by
  refine ⟨len, fun A outer s H args us vs Q E hr e0 hb r hsp => ?_⟩
  have hl := len _ _ _ _ hsp
  have KX : K.In s.heap := e0.mod.kin.keeps fun b o e => (e0.bs b o e).1
  have lim : s.heap.NoLimit := e0.mod.nolimit.keeps fun b o e => (e0.bs b o e).1
  have hkind : ∀ y ∈ ps.zip us, scope.names.lookup y.1 = some .local ∨ (scope.names.lookup y.1 = some .cell ∧ ((cellsFrom (s.heap.objs.size + 1) scope.names []).lookup y.1).isSome = true) := fun ⟨n, v⟩ hy => by
    rcases S.par n (List.of_mem_zip hy).1 with q | q
    · exact .inl q
    · exact .inr ⟨q, PySem.W.cellsFrom_some _ _ _ (.inl q)⟩
  refine codeAny_call_function hr.depth (KX _ _ lk) rfl S.co S.gen rfl (PySem.W.codeRec_of KX hcd) (hb _ _ _ _ ?_)
  refine wpAny_newFunctionEnv_cells S.kind hkind fun env he s1 x => ?_
  subst he
  refine ⟨lim.keeps x.toInCall.keep, codeAny_func ?_⟩
  obtain ⟨t, ht, hq⟩ := hbody A outer s H vs Q E (hr.deeper _) hsp
  have I : Inv (cxOf CX P w K mg base N qual scope f cdv A outer s H E) [] (start N vs) H s1 := inv_start S hr.hd e0 hl r x
  refine wpAny_mono (ht [] s1 (start N vs) H _ I hq) (fun fl s' hs => ?_) fun e s' hs => hs
  have fin : ∀ {σ' : St} {H' : Hp} {v : V} {u : Value}, Inv (cxOf CX P w K mg base N qual scope f cdv A outer s H E) [] σ' H' s' → RelV v u → Q v H' → CE outer P w H s Q u s' :=
    fun {σ' H' v u} J rv q => ⟨v, H', J.os, J.bare, J.base, J.hok, rv, q⟩
  cases fl with
  | ret u =>
    obtain ⟨v, σ', H', J, rv, q⟩ := hs
    exact fin J rv q
  | next =>
    obtain ⟨σ', H', J, q⟩ := hs
    exact fin (v := V.non) (u := Value.none) J rfl q
  | brk =>
    obtain ⟨_, _, _, q⟩ := hs
    exact False.elim q
  | cont =>
    obtain ⟨_, _, _, q⟩ := hs
    exact False.elim q
end L2

namespace L2
open PySem PySem.Spec PyProof.Rows
section
variable {X : Cx} {x : Str} {p pos : Pos} {e : Expr} {es : List Expr} {t : TA} {id T : String} {r : List V → Hp → VK → Prop}

def tCB (r : List V → Hp → VK → Prop) (t : TA) : TE := fun σ H Q => t σ H fun vs H1 => r vs H1 Q
/-- f(e, ..), f a built-in function -/
theorem pe_callB (hc : CallR X (.builtin id) r) (hg : Gl X x) (hm : X.mg x = none) (hv : bootBuiltins x = some (.builtin id)) (ha : PA X (e :: es) t) (hn : x ≠ "__name__" := by decide) (hdb : (x == ("__debug__" : Str)) = false := by decide)
    (he : starEach (e :: es) X.env = (false, eval e X.env) :: starEach es X.env := by rfl) (hpl : (backTo pos (starEach es X.env)).any (·.1) = false := by rfl) : PE X (.Call (.Name x p) (e :: es) [] pos) (tCB r t) := by
  intro pins s σ H Q I h
  refine wpAny_Call_Name_kw (ld_blt I hg hm hv ?_ hn hdb)
  exact PyProof.Rows.callWith_builtin1 (thn (ha pos pins s σ H _ I h) fun us s1 ⟨vs, H1, I1, r1, q1⟩ => hc pins s1 σ H1 vs us Q I1 r1 q1) he hpl
/-- T(e, ..), T a built-in type -/
theorem pe_callTy (hc : CallR X (.type T) r) (hg : Gl X x) (hm : X.mg x = none) (hv : bootBuiltins x = some (.type T)) (ha : PA X (e :: es) t) (hn : x ≠ "__name__" := by decide) (hdb : (x == ("__debug__" : Str)) = false := by decide)
    (he : starEach (e :: es) X.env = (false, eval e X.env) :: starEach es X.env := by rfl) (hpl : (backTo pos (starEach es X.env)).any (·.1) = false := by rfl) : PE X (.Call (.Name x p) (e :: es) [] pos) (tCB r t) := by
  intro pins s σ H Q I h
  refine wpAny_Call_Name_kw (ld_blt I hg hm hv ?_ hn hdb)
  exact PyProof.Rows.callWith_type1 (thn (ha pos pins s σ H _ I h) fun us s1 ⟨vs, H1, I1, r1, q1⟩ => hc pins s1 σ H1 vs us Q I1 r1 q1) he hpl
end
end L2

namespace HT
open PySem PyProof.Rows

section
open PySem.SeqAt
open PySem.AutoSeq1 (wpAny_loadPart')
open PySem.MeetsSeq PySem.MeetsSeq2 PySem.MeetsSeq3

end

section
variable {prog : Program} {w : World} {A : Around} {E : Value → Shared → Prop} {s : Shared}

/-! ### t[a:b], not the whole -/
/-- a slice's bound as a place among n (d where it is left out) -/
def sIx (n d : Nat) : Option Int → Nat
  | none => d
  | some v => if v < 0 then (v + (n : Int)).toNat else min v.toNat n
theorem sIx_none (n d : Nat) : sIx n d none = d := rfl
theorem sIx_nat (n d k : Nat) : sIx n d (some (k : Int)) = min k n := by
  show (if (k : Int) < 0 then ((k : Int) + (n : Int)).toNat else min (k : Int).toNat n) = min k n
  rw [if_neg (by omega), Int.toNat_natCast]
end
end HT

namespace L2
open PySem PySem.Spec PyProof.Rows

/-! ### the parts of a slice -/
abbrev TO := St → Hp → (Option Int → Hp → Prop) → Prop
/-- a slice's part (left out, or an int) -/
def PO (X : Cx) (e : Option Expr) (t : TO) : Prop :=
  ∀ (pins : List (Addr × Obj)) (s : Shared) (σ : St) (H : Hp) (Q : Option Int → Hp → Prop), Inv X pins σ H s → t σ H Q →
    wpAny (model X.prog X.w) X.A (evalPart e X.env) (fun u s' => ∃ o H', Inv X pins σ H' s' ∧ IsPart u o ∧ Q o H') X.xe s
def tNoPart : TO := fun _ H Q => Q none H
def tPart (t : TE) : TO := fun σ H Q => t σ H fun x H1 => ∃ i, x = .int i ∧ Q (some i) H1

theorem intsAre_of {ns : List Int} : ∀ {us : List Value}, Vals (ns.map V.int) us → IntsAre us ns := by
  induction ns with
  | nil => intro us r; rw [List.map_nil] at r; cases r; exact .nil
  | cons n ns ih =>
    intro us r
    rw [List.map_cons] at r
    cases r with
    | cons r1 r2 =>
      obtain ⟨t, e⟩ := r1
      subst e
      exact .cons n t (ih r2)

section
variable {X : Cx} {e : Expr} {te : TE} {lo hi : Option Expr} {tl th : TO} {pos p2 : Pos}

theorem po_none : PO X none tNoPart := by
  intro pins s σ H Q I h
  rw [evalPart_none]
  exact wpAny_pure ⟨none, H, I, .none, h⟩
theorem po_some (h : PE X e te) : PO X (some e) (tPart te) := by
  intro pins s σ H Q I hw
  rw [evalPart_some]
  refine thn (h pins s σ H _ I hw) fun u s1 ⟨x, H1, I1, r1, q1⟩ => ?_
  obtain ⟨i, rfl, q⟩ := q1
  obtain ⟨t, rfl⟩ := r1
  exact ⟨some i, H1, I1, .int i t, q⟩

/-- what a slice of a value is, by values: the slice object stands at sl -/
def SlR (X : Cx) (r : V → Option Int → Option Int → Hp → VK → Prop) : Prop :=
  ∀ (pins : List (Addr × Obj)) (s : Shared) (σ : St) (H : Hp) (x : V) (v vl vu : Value) (lo hi : Option Int) (sl : Addr) (Q : VK), Inv X pins σ H s → RelV x v → s.heap.IsSliceOf sl vl vu .none → IsPart vl lo → IsPart vu hi → r x lo hi H Q →
    ∃ T id, typeLookup (.type T) "__getitem__" = pure (some (.builtin id)) ∧ s.TypeIs v T ∧ wpAny (model X.prog X.w) X.A (getItem v (.ref sl)) (EP X pins σ Q) X.xe s
def tSl (r : V → Option Int → Option Int → Hp → VK → Prop) (te : TE) (tl th : TO) : TE := fun σ H Q => te σ H fun x H1 => tl σ H1 fun l H2 => th σ H2 fun u H3 => r x l u H3 Q
/-- a[lo:hi], any a -/
theorem pe_slice {r : V → Option Int → Option Int → Hp → VK → Prop} (hr : SlR X r) (he : PE X e te) (hl : PO X lo tl) (hu : PO X hi th) : PE X (.Subscript e (.Slice lo hi none p2) pos) (tSl r te tl th) := by
  intro pins s σ H Q I h
  refine Subscript_ (thn (he pins s σ H _ I h) fun v s1 ⟨x, H1, I1, r1, q1⟩ => ?_)
  refine wpAny_Slice (thn (hl pins s1 σ H1 _ I1 q1) fun vl s2 ⟨l, H2, I2, pl, q2⟩ => thn (hu pins s2 σ H2 _ I2 q2) fun vu s3 ⟨u, H3, I3, pu, q3⟩ => ?_)
  rw [evalPart_none]
  refine wpAny_pure ?_
  have I4 : Inv X pins σ H3 { s3 with heap := s3.heap.push { cls := .type "slice", data := .fields #[vl, vu, .none] } } := I3.kept (t' := s3.toks) fun b ob q => Heap.get?_push_of_some _ q
  obtain ⟨T, id, hT, ht, hg⟩ := hr pins { s3 with heap := s3.heap.push { cls := .type "slice", data := .fields #[vl, vu, .none] } } σ H3 x v vl vu l u s3.heap.objs.size Q I4 r1 (Heap.IsSliceOf.new ..) pl pu q3
  show wpAny (model X.prog X.w) X.A (subscriptTail e (.Slice lo hi none p2) v (.ref s3.heap.objs.size)) (EP X pins σ Q) X.xe { s3 with heap := s3.heap.push { cls := .type "slice", data := .fields #[vl, vu, .none] } }
  exact tail_any (ops := [.ref s3.heap.objs.size, v]) ht hT hg (by with_unfolding_all rfl)

/-- the items of xs[lo:hi] -/
def cutV (xs : List V) (lo hi : Option Int) : List V := (xs.drop (HT.sIx xs.length 0 lo)).take (HT.sIx xs.length xs.length hi - HT.sIx xs.length 0 lo)
theorem cutV_length (xs : List V) (lo hi : Option Int) : (cutV xs lo hi).length ≤ xs.length := by
  unfold cutV
  rw [List.length_take, List.length_drop]
  omega
/-! ### t < u, t + u -/
end
end L2

namespace L2
open PySem PySem.Spec PyProof.Rows

/-! ### places -/
/-- the place that an index of any sign means -/
def ixN (n : Nat) (i : Int) : Option Nat := if 0 ≤ i then (if i < n then some i.toNat else none) else if -(n : Int) ≤ i then some (i + n).toNat else none
def atI {α : Type} (xs : List α) (i : Int) : Option α := (ixN xs.length i).bind fun j => xs[j]?
theorem ixN_seq {n : Nat} {i : Int} {j : Nat} (h : ixN n i = some j) : seqIndex? i n = some j ∧ j < n ∧ -(n : Int) ≤ i ∧ i < n := by
  unfold ixN at h
  by_cases h0 : 0 ≤ i
  · rw [if_pos h0] at h
    by_cases h1 : i < n
    · rw [if_pos h1] at h
      have e : i.toNat = j := Option.some.inj h
      exact ⟨by rw [seqIndex_of h0 h1, e], by omega, by omega, h1⟩
    · rw [if_neg h1] at h; cases h
  · rw [if_neg h0] at h
    by_cases h1 : -(n : Int) ≤ i
    · rw [if_pos h1] at h
      have e : (i + n).toNat = j := Option.some.inj h
      exact ⟨by rw [seqIndex_neg (by omega) h1, e], by omega, h1, by omega⟩
    · rw [if_neg h1] at h; cases h
theorem atI_get {α : Type} {xs : List α} {i : Int} {v : α} (h : atI xs i = some v) : ∃ j, seqIndex? i xs.length = some j ∧ xs[j]? = some v ∧ j < xs.length ∧ -(xs.length : Int) ≤ i ∧ i < xs.length := by
  unfold atI at h
  cases e : ixN xs.length i with
  | none => rw [e] at h; cases h
  | some j =>
    rw [e] at h
    obtain ⟨h1, h2, h3, h4⟩ := ixN_seq e
    exact ⟨j, h1, h, h2, h3, h4⟩
theorem atI_nat {α : Type} {xs : List α} {j : Nat} {v : α} (h : xs[j]? = some v) : atI xs (j : Int) = some v := by
  have hj : j < xs.length := (List.getElem?_eq_some_iff.mp h).1
  have e : ixN xs.length (j : Int) = some j := by
    unfold ixN
    rw [if_pos (by omega), if_pos (by omega)]; simp
  unfold atI; rw [e]; exact h
/-! ### what may be subscripted -/
/-- what stands as an index of a plain subscript -/
def PlainIx (b : Expr) : Prop := ∀ o i, subscripted b false o i = operate [o, i] (getItem o i)
/-- a subscript by values -/
def IxR (X : Cx) (r : R2) : Prop :=
  ∀ (value slice : Expr) (pins : List (Addr × Obj)) (s : Shared) (σ : St) (H : Hp) (x y : V) (v u : Value) (Q : VK), Inv X pins σ H s → RelV x v → RelV y u → r x y H Q →
    subscripted slice false v u = operate [v, u] (getItem v u) → wpAny (model X.prog X.w) X.A (subscriptTail value slice v u) (EP X pins σ Q) X.xe s
/-- a call of a builtin's method by values: the receiver, the arguments -/
def MtR (X : Cx) (id : String) (r : V → List V → Hp → VK → Prop) : Prop :=
  ∀ (pins : List (Addr × Obj)) (s : Shared) (σ : St) (H : Hp) (x : V) (xs : List V) (v : Value) (us : List Value) (Q : VK), Inv X pins σ H s → RelV x v → Vals xs us → r x xs H Q →
    wpAny (model X.prog X.w) X.A (call (.builtin id) (v :: us)) (EP X pins σ Q) X.xe s
section
variable {X : Cx} {a b : Expr} {ta tb : TE} {pos : Pos}
/-- a[b] -/
theorem pe_ix {r : R2} (hr : IxR X r) (ha : PE X a ta) (hb : PE X b tb) (hs : PlainIx b) : PE X (.Subscript a b pos) (tOp r ta tb) := by
  intro pins s σ H Q I h
  exact Subscript_ (binT ha hb I h fun v u s2 x y H2 I2 rx ry q => hr a b pins s2 σ H2 x y v u Q I2 rx ry q (hs _ _))

def rIxL (K : PySem.W.Frag) : R2 := fun x y H Q => ∃ p xs i v, x = .ref p ∧ y = .int i ∧ SqL K H p xs ∧ atI xs i = some v ∧ Q v H
theorem ix_list : IxR X (rIxL X.K) := by
  intro value slice pins s σ H x y v u Q I rx ry h hs
  obtain ⟨p, xs, i, z, rfl, rfl, hq, he, q⟩ := h
  cases rx
  obtain ⟨t, rfl⟩ := ry
  obtain ⟨its, r, pl, hz⟩ := I.list hq
  obtain ⟨j, h1, h2, h3, h4, h5⟩ := atI_get he
  obtain ⟨w, ew, rw'⟩ := r.get h2
  have hl := r.length
  have hn := line63
  have fin : EP X pins σ Q w s := ⟨z, H, I, rw', q⟩
  by_cases h0 : 0 ≤ i
  · have hj : i.toNat = j := by
      rw [seqIndex_of h0 h5] at h1
      exact Option.some.inj h1
    exact item_listR pl.isList h0 (by omega) (by rw [hj]; simpa using ew) fin hs
  · have hj : (i + (its.toArray.size : Int)).toNat = j := by
      rw [seqIndex_neg (by omega) h4] at h1
      rw [List.size_toArray, ← hl]
      exact Option.some.inj h1
    exact subscriptTail_builtinR (x := w) pl.isList.typeIs slot_list_getitem.lookup
      (wpAny_getItem_list_neg (Q := fun r s' => r = w ∧ EP X pins σ Q r s') pl.isList (by omega) (by rw [List.size_toArray] <;> omega) (by omega) (by rw [hj]; simpa using ew) ⟨rfl, fin⟩) hs
/-! ### xs[i] = v, any sign -/
/-- the list's object behind a store -/
theorem mapSeq_set (its : List Value) (n j : Nat) (u : Value) : Obj.mapSeq (·.setIfInBounds j u) { cls := .type "list", data := .seq its.toArray n } = { cls := .type "list", data := .seq (its.set j u).toArray n } := by
  simp [Obj.mapSeq]
theorem Inv.lst {pins : List (Addr × Obj)} {σ : St} {H : Hp} {s : Shared} {p : Addr} {xs : List V} (I : Inv X pins σ H s) (h : H p = some (.lst xs)) :
    ∃ (its : List Value) (n : Nat), Vals xs its ∧ s.heap.get? p = some { cls := .type "list", data := .seq its.toArray n } ∧ xs.length ≤ sizeLine := by
  obtain ⟨z, its, n, r, e⟩ := I.hok p _ h
  exact ⟨its, n, r, e, z⟩
/-- the list at p is written by an update of its object -/
theorem Inv.lstUpd {pins : List (Addr × Obj)} {σ : St} {H : Hp} {s : Shared} {p : Addr} {xs ys : List V} {its its' : List Value} {n n' : Nat} {f : Obj → Obj} (I : Inv X pins σ H s) (h : H p = some (.lst xs))
    (ho : s.heap.get? p = some { cls := .type "list", data := .seq its.toArray n }) (hf : f { cls := .type "list", data := .seq its.toArray n } = { cls := .type "list", data := .seq its'.toArray n' }) (r : Vals ys its') (hz : ys.length ≤ sizeLine) (t : Nat) :
    Inv X pins σ (upd H p (.lst ys)) { s with heap := s.heap.update p f, toks := t } := by
  have e : (s.heap.update p f).get? p = some { cls := .type "list", data := .seq its'.toArray n' } := by
    rw [Heap.get?_update_self f ho (by rw [hf] <;> rfl), hf]
  refine I.write (x := p) (e := p) (by rw [h]; trivial) (.inl rfl) (fun b u hb q => (Heap.get?_update_other _ _ (Ne.symm hb)).trans q) ⟨_, e⟩ ?_
  exact ⟨hz, its', n', r, e⟩
def rSetL : V → V → V → Hp → (Hp → Prop) → Prop := fun o i v H Q => ∃ p xs k j, o = .ref p ∧ i = .int k ∧ H p = some (.lst xs) ∧ ixN xs.length k = some j ∧ Q (upd H p (.lst (xs.set j v)))
theorem set_list : PSet X rSetL := by
  intro pins s σ H o i v ov iv u Q I ro ri rv h
  obtain ⟨p, xs, k, j, rfl, rfl, hp, hj, q⟩ := h
  cases ro
  obtain ⟨t, rfl⟩ := ri
  obtain ⟨its, n, r, ho, hz⟩ := I.lst hp
  obtain ⟨h1, h2, h3, h4⟩ := ixN_seq hj
  have hl := r.length
  have hn := line63
  have I' : Inv X pins σ (upd H p (.lst (xs.set j v))) { s with heap := s.heap.update p (Obj.mapSeq (·.setIfInBounds j u)) } :=
    I.lstUpd hp ho (mapSeq_set its n j u) (r.set rv j) (by rw [List.length_set]; exact hz) s.toks
  by_cases h0 : 0 ≤ k
  · have hk : k.toNat = j := by
      rw [seqIndex_of h0 h4] at h1
      exact Option.some.inj h1
    exact PySem.W.ki_setAt ho h0 (by omega) (by rw [List.size_toArray, ← hl]; exact h4) (by rw [hk]; exact ⟨_, I', q⟩)
  · have hk : (k + (its.toArray.size : Int)).toNat = j := by
      rw [seqIndex_neg (by omega) h3] at h1
      rw [List.size_toArray, ← hl]
      exact Option.some.inj h1
    exact PySem.W.ki_setBack ho (by omega) (by rw [List.size_toArray, ← hl]; exact h3) (by omega) (by rw [hk]; exact ⟨_, I', q⟩)

/-! ### slices -/
theorem slice_bounds (lo hi : Option Int) (n : Nat) : (sliceBounds lo hi none n).1 = ((HT.sIx n 0 lo : Nat) : Int) ∧ (sliceBounds lo hi none n).2.1 = ((HT.sIx n n hi : Nat) : Int) ∧ (sliceBounds lo hi none n).2.2 = 1 := by
  refine ⟨?_, ?_, rfl⟩
  · cases lo with
    | none => simp [sliceBounds, HT.sIx]
    | some i =>
      simp only [sliceBounds, HT.sIx, Option.getD_none, show (1 : Int) > 0 by decide, if_true]
      by_cases h : i < 0
      · simp only [h, if_true] <;> omega
      · simp only [h, if_false] <;> omega
  · cases hi with
    | none => simp [sliceBounds, HT.sIx]
    | some i =>
      simp only [sliceBounds, HT.sIx, Option.getD_none, show (1 : Int) > 0 by decide, if_true]
      by_cases h : i < 0
      · simp only [h, if_true] <;> omega
      · simp only [h, if_false] <;> omega
theorem slicePick_cut (its : List Value) (lo hi : Option Int) : slicePick its.toArray lo hi none = ((its.drop (HT.sIx its.length 0 lo)).take (HT.sIx its.length its.length hi - HT.sIx its.length 0 lo)).toArray := by
  obtain ⟨h1, h2, h3⟩ := slice_bounds lo hi its.toArray.size
  unfold slicePick
  rw [h1, h2, h3]
  simp only [sliceRange_one, pick_run, List.size_toArray] <;> rfl
/-- xs[lo:hi] of a list: a new list -/
def rSlL (K : PySem.W.Frag) : V → Option Int → Option Int → Hp → VK → Prop := fun x lo hi H Q => ∃ a xs, x = .ref a ∧ SqL K H a xs ∧ ∀ p, H p = none → Q (.ref p) (upd H p (.lst (cutV xs lo hi)))
theorem sl_list : SlR X (rSlL X.K) := by
  intro pins s σ H x v vl vu lo hi sl Q I rx hs pl pu h
  obtain ⟨a, xs, rfl, hx, q⟩ := h
  cases rx
  obtain ⟨its, r, ht, hz⟩ := I.list hx
  have hlen := r.length
  refine ⟨"list", _, slot_list_getitem.lookup, ht.isList.typeIs, ?_⟩
  refine wpAny_getItem_list_slice ht.isList hs pl pu .none (by simp) ?_ (by rw [List.size_toArray] <;> omega)
  rw [slicePick_cut, ← hlen]
  refine ⟨.ref s.heap.objs.size, _, I.laid (t' := s.toks) (o := .lst (cutV xs lo hi)) (fun b ob q => Heap.get?_push_of_some _ q) (Nat.le_refl _) ?_, rfl, q _ (I.hok.fresh (Nat.le_refl _))⟩
  exact ⟨Nat.le_trans (cutV_length xs lo hi) hz, _, 0, (r.drop (HT.sIx xs.length 0 lo)).take (HT.sIx xs.length xs.length hi - HT.sIx xs.length 0 lo), Heap.get?_push_size _ rfl⟩

/-! ### in, not in: flat items -/
def flatV : V → Bool
  | .non => true
  | .bl _ => true
  | .int _ => true
  | .str _ => true
  | _ => false
/-- == of flat values -/
def eqV : V → V → Bool
  | .non, .non => true
  | .bl a, .bl b => a == b
  | .bl a, .int b => (if a then 1 else 0) == b
  | .int a, .bl b => a == (if b then 1 else 0)
  | .int a, .int b => a == b
  | .str a, .str b => a == b
  | _, _ => false
theorem eqAt_V {A : Around} {s : Shared} {y x : V} {u v : Value} (ry : RelV y u) (rx : RelV x v) (fy : flatV y = true) (fx : flatV x = true) : SeqAt.EqAt A s u v (eqV y x) := by
  cases y with
  | non =>
    cases ry
    cases x with
    | non => cases rx; exact SeqAt.EqAt.same _
    | bl b => cases rx; exact SeqAt.EqAt.none_bool b
    | int b => obtain ⟨t, rfl⟩ := rx; exact SeqAt.EqAt.none_int b t
    | str b => obtain ⟨t, rfl⟩ := rx; exact SeqAt.EqAt.none_str b t
    | _ => exact absurd (show false = true from fx) Bool.false_ne_true
  | bl a =>
    cases ry
    cases x with
    | non => cases rx; exact SeqAt.EqAt.bool_none a
    | bl b => cases rx; exact SeqAt.EqAt.bool_bool a b
    | int b => obtain ⟨t, rfl⟩ := rx; exact SeqAt.EqAt.bool_int a b t
    | str b => obtain ⟨t, rfl⟩ := rx; exact SeqAt.EqAt.bool_str a b t
    | _ => exact absurd (show false = true from fx) Bool.false_ne_true
  | int a =>
    obtain ⟨t', rfl⟩ := ry
    cases x with
    | non => cases rx; exact SeqAt.EqAt.int_none a t'
    | bl b => cases rx; exact SeqAt.EqAt.int_bool a t' b
    | int b => obtain ⟨t, rfl⟩ := rx; exact SeqAt.EqAt.int_int a t' b t
    | str b => obtain ⟨t, rfl⟩ := rx; exact SeqAt.EqAt.int_str a t' b t
    | _ => exact absurd (show false = true from fx) Bool.false_ne_true
  | str a =>
    obtain ⟨t', rfl⟩ := ry
    cases x with
    | non => cases rx; exact SeqAt.EqAt.str_none a t'
    | bl b => cases rx; exact SeqAt.EqAt.str_bool a t' b
    | int b => obtain ⟨t, rfl⟩ := rx; exact SeqAt.EqAt.str_int a t' b t
    | str b => obtain ⟨t, rfl⟩ := rx; exact SeqAt.EqAt.str_str a t' b t
    | _ => exact absurd (show false = true from fx) Bool.false_ne_true
  | _ => exact absurd (show false = true from fy) Bool.false_ne_true
/-! ### len, list(x), tuple(x) of any list or tuple that is read -/
theorem call_len_seq : CallR X (.builtin "len") (fun xs H Q => ∃ p ys, xs = [.ref p] ∧ (SqL X.K H p ys ∨ SqT X.K H p ys) ∧ Q (.int ys.length) H) := by
  intro pins s σ H xs us Q I r h
  obtain ⟨p, ys, rfl, hq, q⟩ := h
  obtain ⟨u, rfl, rx⟩ := vals1 r
  cases rx
  have hn := line63
  rcases hq with hq | hq
  · obtain ⟨its, r', pl, hz⟩ := I.list hq
    have hlen := r'.length
    exact Calls.call_len_list pl.isList (by simp only [List.size_toArray] <;> omega) ⟨.int ys.length, H, I.tok _, ⟨s.toks + 1, by rw [List.size_toArray, hlen]⟩, q⟩
  · obtain ⟨its, r', pl, hz⟩ := I.tuple hq
    have hlen := r'.length
    exact len_tuple pl (by simp only [List.size_toArray] <;> omega) ⟨.int ys.length, H, I.tok _, ⟨s.toks + 1, by rw [List.size_toArray, hlen]⟩, q⟩
theorem call_list_of : CallR X (.type "list") (fun xs H Q => ∃ p ys, xs = [.ref p] ∧ (SqL X.K H p ys ∨ SqT X.K H p ys) ∧ ∀ l, H l = none → Q (.ref l) (upd H l (.lst ys))) := by
  intro pins s σ H xs us Q I r h
  obtain ⟨p, ys, rfl, hq, q⟩ := h
  obtain ⟨u, rfl, rx⟩ := vals1 r
  cases rx
  have fin : ∀ (its : List Value), Vals ys its → ys.length ≤ sizeLine → ∀ (h' : Heap) (c' : Nat), (∀ b o', s.heap.get? b = some o' → h'.get? b = some o') →
      h'.get? s.heap.objs.size = some { cls := .type "list", dict := none, data := .seq its.toArray c', slots := #[] } → EP X pins σ Q (.ref s.heap.objs.size) { s with heap := h' } := fun its r' hz h' c' kp e =>
    ⟨.ref s.heap.objs.size, _, I.laid (t' := s.toks) kp (Nat.le_refl _) (show ObjOk X.prog X.w _ h' _ (.lst ys) from ⟨hz, its, c', r', e⟩), rfl, q _ (I.hok.fresh (Nat.le_refl _))⟩
  rcases hq with hq | hq
  · obtain ⟨its, r', pl, hz⟩ := I.list hq
    have hlen := r'.length
    obtain ⟨o, ho, hc, n, hd⟩ := pl.isList
    exact call_list_seq p (.inl rfl) ho hc hd (fun h' c' kp e => fin its r' hz h' c' kp e) (by simp only [List.size_toArray] <;> omega)
  · obtain ⟨its, r', pl, hz⟩ := I.tuple hq
    have hlen := r'.length
    obtain ⟨o, ho, hc, n, hd⟩ := pl
    exact call_list_seq p (.inr rfl) ho hc hd (fun h' c' kp e => fin its r' hz h' c' kp e) (by simp only [List.size_toArray] <;> omega)
theorem call_tuple_of : CallR X (.type "tuple") (fun xs H Q => ∃ p ys, xs = [.ref p] ∧ ((SqL X.K H p ys ∧ ∀ l, H l = none → Q (.ref l) (upd H l (.tup ys))) ∨ (SqT X.K H p ys ∧ Q (.ref p) H))) := by
  intro pins s σ H xs us Q I r h
  obtain ⟨p, ys, rfl, h⟩ := h
  obtain ⟨u, rfl, rx⟩ := vals1 r
  cases rx
  rcases h with ⟨hq, q⟩ | ⟨hq, q⟩
  · obtain ⟨its, r', pl, hz⟩ := I.list hq
    have hlen := r'.length
    refine call_tuple_list pl.isList (fun h' kp => ?_) (by simp only [List.size_toArray] <;> omega)
    have I1 : Inv X pins σ H { s with heap := h' } := I.kept (t' := s.toks) kp
    have I2 : Inv X pins σ (upd H h'.objs.size (.tup ys)) { s with heap := h'.push { cls := .type "tuple", data := .seq its.toArray } } :=
      I1.laid (t' := s.toks) (fun b o e => Heap.get?_push_of_some _ e) (Nat.le_refl _) (show ObjOk X.prog X.w _ _ _ (.tup ys) from ⟨hz, its, r', IsTup.new _ _⟩)
    exact ⟨.ref h'.objs.size, _, I2, rfl, q _ (I1.hok.fresh (Nat.le_refl _))⟩
  · obtain ⟨its, r', pl, hz⟩ := I.tuple hq
    exact call_tuple_same pl ⟨.ref p, H, I, rfl, q⟩

/-! ### the call of a builtin's method: o.m(..) -/
/-- the value is of that builtin type -/
def tyV (K : PySem.W.Frag) (T : String) (x : V) (H : Hp) : Prop := match x with
  | .str _ => T = "str"
  | .int _ => T = "int"
  | .ref p => (T = "list" ∧ ∃ xs, SqL K H p xs) ∨ (T = "tuple" ∧ ∃ o, K.lookup p = some o ∧ o.cls = .type "tuple" ∧ o.dict = none) ∨
      (T = "dict" ∧ ((∃ kvs, H p = some (.dK kvs)) ∨ ∃ kvs, H p = some (.dT kvs))) ∨ (T = "set" ∧ ∃ S n, H p = some (.set S n))
  | _ => False
theorem tyV_is {pins : List (Addr × Obj)} {σ : St} {H : Hp} {s : Shared} {T : String} {x : V} {v : Value} (I : Inv X pins σ H s) (r : RelV x v) (ty : tyV X.K T x H) :
    s.TypeIs v T ∧ ∀ a, v = .ref a → ∃ ob, s.heap.get? a = some ob ∧ ob.dict = none := by
  cases x with
  | str z =>
    obtain ⟨t, rfl⟩ := r
    cases (show T = "str" from ty)
    exact ⟨typeIs_str s z t, fun _ e => nomatch e⟩
  | int i =>
    obtain ⟨t, rfl⟩ := r
    cases (show T = "int" from ty)
    exact ⟨typeIs_int s i t, fun _ e => nomatch e⟩
  | ref p =>
    cases r
    rcases ty with ⟨rfl, xs, hq⟩ | ⟨rfl, o, hk, hc, hd⟩ | ⟨rfl, hk⟩ | ⟨rfl, S, n, hk⟩
    · obtain ⟨its, _, pl, _⟩ := I.list hq
      refine ⟨pl.isList.typeIs, fun a e => ?_⟩
      cases e
      obtain ⟨o, n, e, c, hd, _⟩ := pl
      exact ⟨o, e, hd⟩
    · refine ⟨⟨o, I.kIn p o hk, hc⟩, fun a e => ?_⟩
      cases e
      exact ⟨o, I.kIn _ o hk, hd⟩
    · have z : ∃ o, s.heap.get? p = some o ∧ o.ExactDict := by
        rcases hk with ⟨kvs, hk⟩ | ⟨kvs, hk⟩
        · obtain ⟨_, _, _, _, o, _, _, e, ex, _⟩ := I.hok p _ hk
          exact ⟨o, e, ex⟩
        · obtain ⟨_, _, _, _, o, _, _, e, ex, _⟩ := I.hok p _ hk
          exact ⟨o, e, ex⟩
      obtain ⟨o, e, ex⟩ := z
      refine ⟨⟨o, e, ex.1⟩, fun a e2 => ?_⟩
      cases e2
      exact ⟨o, e, ex.2.1⟩
    · obtain ⟨o, _, _, _, e, ex, _⟩ := I.hok p _ hk
      refine ⟨⟨o, e, ex.1⟩, fun a e2 => ?_⟩
      cases e2
      exact ⟨o, e, ex.2.1⟩
  | _ => exact False.elim ty
def tBM0 (K : PySem.W.Frag) (T : String) (r : V → List V → Hp → VK → Prop) (to : TE) : TE := fun σ H Q => to σ H fun x H1 => tyV K T x H1 ∧ r x [] H1 Q
def tBM (K : PySem.W.Frag) (T : String) (r : V → List V → Hp → VK → Prop) (to : TE) (t : TA) : TE := fun σ H Q => to σ H fun x H1 => tyV K T x H1 ∧ t σ H1 fun xs H2 => r x xs H2 Q
variable {o e : Expr} {es : List Expr} {to : TE} {t : TA} {name : Str} {apos cpos : Pos} {T id : String} {r : V → List V → Hp → VK → Prop}
theorem pe_bm0 (pa : PlainAttrs T) (slot : Slot T name id) (hty : typeOf (.builtin id) = pure (.type "method_descriptor")) (hm : MtR X id r) (ho : PE X o to)
    (hbase : attributeBase o name X.env (eval o X.env) = eval o X.env := by rfl) (hline : (apos.endLine == cpos.line) = true := by rfl) : PE X (.Call (.Attribute o name apos) [] [] cpos) (tBM0 X.K T r to) := by
  intro pins s σ H Q I h
  refine wpAny_Call_method0_late hbase hline (thn (ho pins s σ H _ I h) fun v s1 ⟨x, H1, I1, r1, ty, q1⟩ => ?_)
  obtain ⟨h1, h2⟩ := tyV_is I1 r1 ty
  exact ⟨T, id, pa, slot, hty, h1, h2, Calls.callWith_builtin rfl (PySem.evalArgs_none (hm pins s1 σ H1 x [] v [] Q I1 r1 .nil q1))⟩
theorem pe_bm (pa : PlainAttrs T) (slot : Slot T name id) (hty : typeOf (.builtin id) = pure (.type "method_descriptor")) (hm : MtR X id r) (ho : PE X o to) (ha : PA X (e :: es) t)
    (hbase : attributeBase o name X.env (eval o X.env) = eval o X.env := by rfl)
    (hfew : ((backTo cpos (starEach (e :: es) X.env)).all (fun x => !x.1) && (backToKw cpos (keywordEach [] X.env)).all (fun x => x.1.isSome)
      && decide ((e :: es).length + ([] : List Keyword).length + (if ([] : List Keyword).isEmpty then 0 else 1) < 30)) = true := by rfl)
    (hline : (apos.endLine == cpos.line) = true := by rfl) (hs : starEach (e :: es) X.env = (false, eval e X.env) :: starEach es X.env := by rfl) (hplain : (backTo cpos (starEach es X.env)).any (·.1) = false := by rfl) :
    PE X (.Call (.Attribute o name apos) (e :: es) [] cpos) (tBM X.K T r to t) := by
  intro pins s σ H Q I h
  refine wpAny_Call_method_late hbase hfew hline rfl (thn (ho pins s σ H _ I h) fun v s1 ⟨x, H1, I1, r1, ty, q1⟩ => ?_)
  obtain ⟨h1, h2⟩ := tyV_is I1 r1 ty
  refine ⟨T, id, pa, slot, hty, h1, h2, ?_⟩
  have hA := ha cpos pins s1 σ H1 _ I1 q1
  rw [hs] at hA ⊢
  refine Calls.callWith_builtin (by show (false || (backTo cpos (starEach es X.env)).any (·.1)) = false; rw [hplain] <;> rfl) (Calls.evalArgs_plain ?_)
  exact thn hA fun us s2 ⟨vs, H2, I2, r2, q2⟩ => hm pins s2 σ H2 x vs v us Q I2 r1 r2 q2
/- xs.append(e), list.index on a module's tuple .. are MtR facts of 06m -/
end
end L2

namespace L2
open PySem PySem.Spec PyProof.Rows

def MtM (X : Cx) (id : String) (r : V → List V → Hp → VK → Prop) : Prop :=
  ∀ (pins : List (Addr × Obj)) (s : Shared) (σ : St) (H : Hp) (x : V) (xs : List V) (v : Value) (us : List Value) (Q : VK), Inv X pins σ H s → RelV x v → Vals xs us → r x xs H Q →
    wpAny (model X.prog X.w) X.A (call (.builtin id) (v :: us)) (EP X pins σ Q) X.xe s

/-! ### lists of values -/
theorem Vals.one : ∀ {x : V} {us : List Value}, Vals [x] us → ∃ u, us = [u] ∧ RelV x u
  | _, _, .cons r .nil => ⟨_, rfl, r⟩
theorem Vals.zero : ∀ {us : List Value}, Vals [] us → us = []
  | _, .nil => rfl
theorem Vals.dropLast {xs : List V} {us : List Value} (h : Vals xs us) : Vals xs.dropLast us.dropLast := by
  induction h with
  | nil => exact .nil
  | cons r t ih =>
    cases t with
    | nil => exact .nil
    | cons q t' => exact .cons r ih
theorem erase_last {α : Type} (l : List α) : l.eraseIdx (l.length - 1) = l.dropLast := by
  induction l with
  | nil => rfl
  | cons a r ih =>
    cases r with
    | nil => rfl
    | cons b r =>
      have e : (a :: b :: r).length - 1 = ((b :: r).length - 1) + 1 := by
        have h1 : (a :: b :: r).length = r.length + 2 := rfl
        have h2 : (b :: r).length = r.length + 1 := rfl
        omega
      rw [e, List.eraseIdx_cons_succ, ih]
      all_goals rfl
section
variable {X : Cx} {pins : List (Addr × Obj)} {σ : St} {H : Hp} {s : Shared} {l b : Addr} {xs ys zs : List V}

/-! ### the two steps: a tracked list is rewritten, a new list is laid -/
theorem Inv.lset {its its' : List Value} {n : Nat} {f : Array Value → Array Value} {t' : Nat} (I : Inv X pins σ H s) (hH : H l = some (.lst xs))
    (e : s.heap.get? l = some { cls := .type "list", data := .seq its.toArray n }) (hf : f its.toArray = its'.toArray) (hv : Vals ys its') (hz : ys.length ≤ sizeLine) :
    Inv X pins σ (upd H l (.lst ys)) { s with heap := s.heap.update l (Obj.mapSeq f), toks := t' } := by
  have q := PySem.IsL.update e f
  rw [hf] at q
  refine I.write (x := l) (e := l) (by rw [hH]; exact trivial) (.inl rfl) (fun b' u hb hu => (Heap.get?_update_other s.heap (Obj.mapSeq f) (Ne.symm hb)).trans hu) ⟨_, q⟩ ?_
  exact ⟨hz, its', _, hv, q⟩
theorem Inv.lnew {its : List Value} {t' : Nat} (I : Inv X pins σ H s) (hv : Vals ys its) (hz : ys.length ≤ sizeLine) :
    Inv X pins σ (upd H s.heap.objs.size (.lst ys)) { s with heap := s.heap.push { cls := .type "list", data := .seq its.toArray }, toks := t' } :=
  I.laid (fun _ _ q => Heap.get?_push_of_some _ q) (Nat.le_refl _) ⟨hz, its, 0, hv, Heap.get?_push_size _ rfl⟩
theorem Inv.fresh (I : Inv X pins σ H s) : H s.heap.objs.size = none := I.hok.fresh (Nat.le_refl _)
theorem Inv.lstM (I : Inv X pins σ H s) (hH : H l = some (.lst xs)) : xs.length ≤ sizeLine ∧ ∃ (its : List Value) (n : Nat), Vals xs its ∧ xs.length = its.length ∧ s.heap.get? l = some { cls := .type "list", data := .seq its.toArray n } := by
  obtain ⟨z, its, n, r, e⟩ := I.hok l _ hH
  exact ⟨z, its, n, r, r.length, e⟩

end

section
variable {X : Cx}

/-! ### methods -/
def rAppend : V → List V → Hp → VK → Prop := fun x vs H Q => ∃ l xs y, x = .ref l ∧ vs = [y] ∧ H l = some (.lst xs) ∧ xs.length < sizeLine ∧ Q .non (upd H l (.lst (xs ++ [y])))
theorem mt_append : MtM X "list.append" rAppend := by
  intro pins s σ H x vs v us Q I rx rv h
  obtain ⟨l, xs, y, rfl, rfl, hH, hz, q⟩ := h
  cases rx
  obtain ⟨u, rfl, ru⟩ := rv.one
  obtain ⟨z, its, n, r, hl, e⟩ := I.lstM hH
  refine call_meets F.slot_list_append ⟨_, e, rfl⟩ F.entry_list_append (F.args_list_append_2 _ _) (PySem.list_append l its.toArray n u (by rw [List.size_toArray]; omega)) ⟨e, ?_⟩
  refine ⟨.non, _, I.lset (its' := its ++ [u]) hH e (by simp) (r.append (.cons ru .nil)) ?_, rfl, q⟩
  rw [List.length_append, List.length_singleton]
  omega

def rPop : V → List V → Hp → VK → Prop := fun x vs H Q => ∃ l xs y, x = .ref l ∧ vs = [] ∧ H l = some (.lst xs) ∧ xs[xs.length - 1]? = some y ∧ Q y (upd H l (.lst xs.dropLast))
theorem mt_pop : MtM X "list.pop" rPop := by
  intro pins s σ H x vs v us Q I rx rv h
  obtain ⟨l, xs, y, rfl, rfl, hH, hy, q⟩ := h
  cases rx
  have hus := rv.zero
  subst hus
  obtain ⟨z, its, n, r, hl, e⟩ := I.lstM hH
  obtain ⟨u, hu, ru⟩ := r.get hy
  have hy' : its.toArray[its.toArray.size - 1]? = some u := by
    show its.toArray[its.length - 1]? = some u
    rw [← Array.getElem?_toList, ← hl]
    exact hu
  refine call_meets F.slot_list_pop ⟨_, e, rfl⟩ F.entry_list_pop (F.args_list_pop_1 _) (MeetsSeq.list_pop_last l its.toArray n u hy' (by rw [List.size_toArray]; omega)) ⟨e, ?_⟩
  refine ⟨y, _, I.lset (its' := its.dropLast) hH e ?_ r.dropLast ?_, ru, q⟩
  · show its.toArray.eraseIdxIfInBounds (its.toArray.size - 1) = its.dropLast.toArray
    rw [List.size_toArray, List.eraseIdxIfInBounds_toArray, erase_last]
  · rw [List.length_dropLast]
    omega

/-! ### list + list, list += list, list * int -/
def rCat : R2 := fun x y H Q => ∃ l b xs zs, x = .ref l ∧ y = .ref b ∧ H l = some (.lst xs) ∧ H b = some (.lst zs) ∧ xs.length + zs.length ≤ sizeLine ∧ ∀ p, H p = none → Q (.ref p) (upd H p (.lst (xs ++ zs)))
theorem op_cat : OpR X (binaryOp .Add) rCat := by
  intro pins s σ H x y v u Q I rx ry h
  obtain ⟨l, b, xs, zs, rfl, rfl, hH, hB, hz, q⟩ := h
  cases rx
  cases ry
  obtain ⟨z, its, n, r, hl, e⟩ := I.lstM hH
  obtain ⟨z2, its2, n2, r2, hl2, e2⟩ := I.lstM hB
  refine PySem.P.add_list e e2 ?_ (by rw [List.size_toArray, List.size_toArray]; omega)
  have ea : its.toArray ++ its2.toArray = (its ++ its2).toArray := by simp
  rw [ea]
  exact ⟨.ref _, _, I.lnew (t' := s.toks) (r.append r2) (by rw [List.length_append]; omega), rfl, q _ I.fresh⟩
/-! ### del xs[i] -/
end

/-! ### xs[a:b] = ys -/
section
variable {prog : Program} {w : World} {A : Around} {E : Value → Shared → Prop} {s : Shared}
end

section
variable {X : Cx}
end
end L2

namespace L2
open PySem PySem.Spec PyProof.Rows

/-! ### lists of pairs as tables -/
section
variable {κ : Type} [DecidableEq κ]
def valV (kvs : List (κ × V)) (k : κ) : Option V := (kvs.find? fun kv => decide (kv.1 = k)).map (·.2)
/-- in its place, or at the end -/
def putK (kvs : List (κ × V)) (k : κ) (v : V) : List (κ × V) :=
  if (kvs.any fun kv => decide (kv.1 = k)) = true then kvs.map (fun kv => if kv.1 = k then (kv.1, v) else kv) else kvs ++ [(k, v)]
theorem valV_pos {p : κ × V} {r : List (κ × V)} {k : κ} (e : p.1 = k) : valV (p :: r) k = some p.2 := by simp [valV, List.find?_cons, e]
theorem valV_neg {p : κ × V} {r : List (κ × V)} {k : κ} (e : ¬ p.1 = k) : valV (p :: r) k = valV r k := by simp [valV, List.find?_cons, e]
theorem valV_any (k : κ) : ∀ kvs : List (κ × V), (kvs.any fun kv => decide (kv.1 = k)) = (valV kvs k).isSome
  | [] => rfl
  | p :: r => by
    rw [List.any_cons]
    by_cases e : p.1 = k
    · simp only [valV_pos e, decide_eq_true e, Bool.true_or, Option.isSome_some]
    · rw [valV_neg e, decide_eq_false e, Bool.false_or]; exact valV_any k r
theorem valV_map (k j : κ) (y : V) : ∀ kvs : List (κ × V), valV (kvs.map fun kv => if kv.1 = k then (kv.1, y) else kv) j = (valV kvs j).map fun x => if j = k then y else x
  | [] => rfl
  | p :: r => by
    have ih := valV_map k j y r
    rw [List.map_cons]
    by_cases h : p.1 = k
    · rw [if_pos h]
      by_cases e : p.1 = j
      · rw [valV_pos (p := (p.1, y)) e, valV_pos e, Option.map_some, if_pos (e.symm.trans h)]
      · rw [valV_neg (p := (p.1, y)) e, valV_neg e, ih]
    · rw [if_neg h]
      by_cases e : p.1 = j
      · rw [valV_pos (p := p) e, valV_pos e, Option.map_some, if_neg (fun z => h (e.trans z))]
      · rw [valV_neg (p := p) e, valV_neg e, ih]
theorem valV_snoc (k j : κ) (y : V) : ∀ kvs : List (κ × V), valV kvs k = none → valV (kvs ++ [(k, y)]) j = if j = k then some y else valV kvs j
  | [], _ => by
    by_cases e : k = j
    · rw [if_pos e.symm]; exact valV_pos (p := (k, y)) e
    · rw [if_neg (fun z => e z.symm)]; exact valV_neg (p := (k, y)) e
  | p :: r, hn => by
    rw [List.cons_append]
    have hk : ¬ p.1 = k := fun z => by rw [valV_pos z] at hn; cases hn
    rw [valV_neg hk] at hn
    have ih := valV_snoc k j y r hn
    by_cases e : p.1 = j
    · rw [valV_pos e, valV_pos e, if_neg (fun z => hk (e.trans z))]
    · rw [valV_neg e, valV_neg e, ih]
theorem valV_put (kvs : List (κ × V)) (k j : κ) (y : V) : valV (putK kvs k y) j = if j = k then some y else valV kvs j := by
  unfold putK
  by_cases a : (kvs.any fun kv => decide (kv.1 = k)) = true
  · rw [if_pos a, valV_map]
    rw [valV_any] at a
    by_cases e : j = k
    · obtain ⟨x, hx⟩ := Option.isSome_iff_exists.mp a
      rw [if_pos e, e, hx, Option.map_some, if_pos rfl]
    · rw [if_neg e]
      cases valV kvs j with
      | none => rfl
      | some x => rw [Option.map_some, if_neg e]
  · rw [if_neg a]
    refine valV_snoc k j y kvs ?_
    rw [valV_any] at a
    cases q : valV kvs k with
    | none => rfl
    | some x => rw [q] at a; exact (a rfl).elim
theorem length_putK (kvs : List (κ × V)) (k : κ) (v : V) : (putK kvs k v).length ≤ kvs.length + 1 := by
  unfold putK
  split
  · rw [List.length_map]; omega
  · rw [List.length_append, List.length_cons, List.length_nil]; omega
theorem putK_new {kvs : List (κ × V)} {k : κ} (v : V) (h : valV kvs k = none) : putK kvs k v = kvs ++ [(k, v)] := by
  unfold putK
  rw [valV_any, h]
  exact if_neg (by decide)

theorem RelO.isSome_eq {o : Option V} {u : Option Value} (r : RelO o u) : o.isSome = u.isSome := by
  cases o with
  | none => cases u with
    | none => rfl
    | some _ => exact (show False from r).elim
  | some _ => cases u with
    | none => exact (show False from r).elim
    | some _ => rfl
theorem RelO.getD {o : Option V} {u : Option Value} {d : V} {d' : Value} (r : RelO o u) (rd : RelV d d') : RelV (o.getD d) (u.getD d') := by
  cases o with
  | none => cases u with
    | none => exact rd
    | some _ => exact (show False from r).elim
  | some _ => cases u with
    | none => exact (show False from r).elim
    | some _ => exact r

/-- raw tables of the same keys -/
theorem KV.val {kvs : List (κ × V)} {vs : List (κ × Value)} (r : KV kvs vs) (k : κ) : RelO (valV kvs k) (valueAt vs k) := by
  unfold KV at r
  induction r with
  | nil => exact True.intro
  | @cons p q ps qs h t ih =>
    obtain ⟨h1, h2⟩ := h
    by_cases e : p.1 = k
    · have e' : q.1 = k := h1.symm.trans e
      have b : valueAt (q :: qs) k = some q.2 := by simp [valueAt, List.find?_cons, e']
      rw [valV_pos e, b]; exact h2
    · have e' : ¬ q.1 = k := fun z => e (h1.trans z)
      have b : valueAt (q :: qs) k = valueAt qs k := by simp [valueAt, List.find?_cons, e']
      rw [valV_neg e, b]; exact ih
theorem KV.any {kvs : List (κ × V)} {vs : List (κ × Value)} (r : KV kvs vs) (k : κ) : (kvs.any fun kv => decide (kv.1 = k)) = vs.any fun kv => decide (kv.1 = k) := by
  unfold KV at r
  induction r with
  | nil => rfl
  | cons h t ih => rw [List.any_cons, List.any_cons, ih, h.1]
theorem KV.repl {kvs : List (κ × V)} {vs : List (κ × Value)} (r : KV kvs vs) (k : κ) {y : V} {u : Value} (ry : RelV y u) :
    KV (kvs.map fun kv => if kv.1 = k then (kv.1, y) else kv) (vs.map fun kv => if kv.1 = k then (kv.1, u) else kv) := by
  unfold KV at r ⊢
  induction r with
  | nil => exact .nil
  | @cons p q ps qs h t ih =>
    rw [List.map_cons, List.map_cons]
    refine .cons ?_ ih
    obtain ⟨h1, h2⟩ := h
    by_cases e : p.1 = k
    · rw [if_pos e, if_pos (h1.symm.trans e)]; exact ⟨h1, ry⟩
    · rw [if_neg e, if_neg (fun z => e (h1.trans z))]; exact ⟨h1, h2⟩
theorem KV.put {kvs : List (κ × V)} {vs : List (κ × Value)} (r : KV kvs vs) (k : κ) {y : V} {u : Value} (ry : RelV y u) : KV (putK kvs k y) (stored vs k u) := by
  unfold putK stored
  rw [r.any k]
  by_cases e : (vs.any fun kv => decide (kv.1 = k)) = true
  · rw [if_pos e, if_pos e]; exact r.repl k ry
  · rw [if_neg e, if_neg e]; exact Paired.snoc r ⟨rfl, ry⟩
theorem KV.length {kvs : List (κ × V)} {vs : List (κ × Value)} (r : KV kvs vs) : kvs.length = vs.length := Paired.length r
end


/-! ### a tracked dict, its keys ints and texts or tuples of these -/
theorem kV_is {P : Program} {w : World} {k : Key} {u : Value} (r : RelV (kV k) u) : (mixKind P w).is k u = true := by
  cases k with
  | inl i => obtain ⟨t, e⟩ := (show ∃ t, u = Value.int i t from r); subst e; exact mixKind_int P w i t
  | inr x => obtain ⟨t, e⟩ := (show ∃ t, u = Value.str x t from r); subst e; exact mixKind_str P w x t
theorem items_are {P : Program} {w : World} : ∀ {ks : List Key} {us : List Value}, Vals (ks.map kV) us → ItemsAre (mixKind P w) ks us
  | [], _, r => by rw [List.map_nil] at r; cases r; exact .nil
  | k :: ks, _, r => by
    rw [List.map_cons] at r
    cases r with
    | cons h t => exact .cons (kV_is h) (items_are t)

/-- raw entries of a dict with tuple keys -/
abbrev KT (H : Hp) : List (List Key × V) → List (List Key × Addr × Value) → Prop := Paired fun p q => p.1 = q.1 ∧ H q.2.1 = some (.tup (p.1.map kV)) ∧ RelV p.2 q.2.2
theorem KT.val {H : Hp} {kvs : List (List Key × V)} {xs : List (List Key × Addr × Value)} (r : KT H kvs xs) (k : List Key) : RelO (valV kvs k) ((atKey xs k).map (·.2)) := by
  induction r with
  | nil => exact True.intro
  | @cons p q ps qs h t ih =>
    obtain ⟨h1, _, h2⟩ := h
    by_cases e : p.1 = k
    · have e' : q.1 = k := h1.symm.trans e
      have b : atKey (q :: qs) k = some q.2 := by simp [atKey, List.find?_cons, e']
      rw [valV_pos e, b]; exact h2
    · have e' : ¬ q.1 = k := fun z => e (h1.trans z)
      have b : atKey (q :: qs) k = atKey qs k := by simp [atKey, List.find?_cons, e']
      rw [valV_neg e, b]; exact ih
theorem KT.repl {H : Hp} {kvs : List (List Key × V)} {xs : List (List Key × Addr × Value)} (r : KT H kvs xs) (k : List Key) {y : V} {u : Value} (ry : RelV y u) :
    KT H (kvs.map fun kv => if kv.1 = k then (kv.1, y) else kv) (xs.map (putAt k u)) := by
  induction r with
  | nil => exact .nil
  | @cons p q ps qs h t ih =>
    rw [List.map_cons, List.map_cons]
    refine .cons ?_ ih
    obtain ⟨h1, h2, h3⟩ := h
    unfold putAt
    by_cases e : p.1 = k
    · rw [if_pos e, if_pos (h1.symm.trans e)]; exact ⟨h1, h2, ry⟩
    · rw [if_neg e, if_neg (fun z => e (h1.trans z))]; exact ⟨h1, h2, h3⟩
theorem KT.put {H : Hp} {kvs : List (List Key × V)} {xs : List (List Key × Addr × Value)} (r : KT H kvs xs) (k : List Key) {b : Addr} {y : V} {u : Value} (hb : H b = some (.tup (k.map kV))) (ry : RelV y u) :
    KT H (putK kvs k y) (storedH xs k b u) := by
  have e : (kvs.any fun kv => decide (kv.1 = k)) = (atKey xs k).isSome := by
    rw [valV_any, (r.val k).isSome_eq, Option.isSome_map]
  unfold putK storedH
  rw [e]
  by_cases q : (atKey xs k).isSome = true
  · rw [if_pos q, if_pos q]; exact r.repl k ry
  · rw [if_neg q, if_neg q]; exact Paired.snoc r ⟨rfl, hb, ry⟩
theorem KT.keeps {H H' : Hp} {kvs : List (List Key × V)} {xs : List (List Key × Addr × Value)} (r : KT H kvs xs) (ht : ∀ b ys, H b = some (.tup ys) → H' b = some (.tup ys)) : KT H' kvs xs :=
  Paired.mapP r fun _ _ z => ⟨z.1, ht _ _ z.2.1, z.2.2⟩

section
variable {P : Program} {w : World} {H : Hp} {h : Heap} {a : Addr}
theorem rd_of {u : HO} (ok : HOk P w H h) (e : Rd H a u) : ObjOk P w H h a u := e.ok ok
theorem dk_rd {kvs : List (Key × V)} (ok : HOk P w H h) (e : Rd H a (.dK kvs)) : kvs.length ≤ sizeLine ∧ (a == sysModules) = false ∧ ∃ vs, KV kvs vs ∧ h.DictOf (mixKind P w) a vs :=
  show ObjOk P w H h a (.dK kvs) from rd_of ok e
theorem dk_of {kvs : List (Key × V)} (ok : HOk P w H h) (e : H a = some (.dK kvs)) : kvs.length ≤ sizeLine ∧ (a == sysModules) = false ∧ ∃ vs, KV kvs vs ∧ h.DictOf (mixKind P w) a vs := dk_rd ok (.inl e)
/-- a tracked tuple of ints and texts is a key -/
theorem key_of {ks : List Key} (ok : HOk P w H h) (e : H a = some (.tup (ks.map kV))) : (tupleKind (mixKind P w)).is h ks a := by
  obtain ⟨_, its, r, o, h1, h2, n, h3⟩ := (show ObjOk P w H h a (.tup (ks.map kV)) from ok a _ e)
  exact ⟨o, its.toArray, n, h1, h2, h3, by simpa using items_are r⟩
theorem dt_rd {kvs : List (List Key × V)} (ok : HOk P w H h) (e : Rd H a (.dT kvs)) : kvs.length ≤ sizeLine ∧ (a == sysModules) = false ∧
    ∃ xs, KT H kvs xs ∧ h.DictOfH (tupleKind (mixKind P w)) a xs := by
  obtain ⟨z, y, xs, r, o, es, ep, h1, h2, h3, h4, h5⟩ := (show ObjOk P w H h a (.dT kvs) from rd_of ok e)
  refine ⟨z, y, xs, r, o, es, ep, h1, h2, h3, h4, fun x hx => ?_, h5⟩
  have all : ∀ {l : List (List Key × V)} {m : List (List Key × Addr × Value)}, KT H l m → ∀ x ∈ m, (tupleKind (mixKind P w)).is h x.1 x.2.1 := by
    intro l m q
    induction q with
    | nil => intro x hx; exact nomatch hx
    | @cons p q ps qs hq t ih =>
      intro x hx
      rcases List.mem_cons.mp hx with e | hx
      · subst e
        exact key_of ok (by rw [← hq.1]; exact hq.2.1)
      · exact ih x hx
  exact all r x hx
theorem dt_of {kvs : List (List Key × V)} (ok : HOk P w H h) (e : H a = some (.dT kvs)) : kvs.length ≤ sizeLine ∧ (a == sysModules) = false ∧
    ∃ xs, KT H kvs xs ∧ h.DictOfH (tupleKind (mixKind P w)) a xs := dt_rd ok (.inl e)
end

/-- what the dict at a holds at the key y -/
def DGet (H : Hp) (a : Addr) (y : V) (r : Option V) : Prop :=
  (∃ kvs k, Rd H a (.dK kvs) ∧ y = kV k ∧ r = valV kvs k) ∨ ∃ kvs k b, Rd H a (.dT kvs) ∧ y = .ref b ∧ H b = some (.tup (k.map kV)) ∧ r = valV kvs k
/-- the heap behind a[y] = v -/
def DPut (H : Hp) (a : Addr) (y v : V) (H' : Hp) : Prop :=
  (∃ kvs k, H a = some (.dK kvs) ∧ y = kV k ∧ kvs.length < sizeLine ∧ H' = upd H a (.dK (putK kvs k v))) ∨
  ∃ kvs k b, H a = some (.dT kvs) ∧ y = .ref b ∧ H b = some (.tup (k.map kV)) ∧ kvs.length < sizeLine ∧ H' = upd H a (.dT (putK kvs k v))
theorem DGet.k {H : Hp} {a : Addr} {kvs : List (Key × V)} {k : Key} (e : H a = some (.dK kvs)) : DGet H a (kV k) (valV kvs k) := .inl ⟨kvs, k, .inl e, rfl, rfl⟩
theorem DPut.k {H : Hp} {a : Addr} {kvs : List (Key × V)} {k : Key} {v : V} (e : H a = some (.dK kvs)) (hl : kvs.length < sizeLine) : DPut H a (kV k) v (upd H a (.dK (putK kvs k v))) := .inl ⟨kvs, k, e, rfl, hl, rfl⟩
section
variable {X : Cx} {pins : List (Addr × Obj)} {σ : St} {H : Hp} {s : Shared} {a : Addr} {y v : V} {u r : Value} {o : Option V} {A : Around} {E : Value → Shared → Prop}

theorem Inv.big (I : Inv X pins σ H s) : sysModules < s.heap.objs.size := by
  have h : mainGlobals < s.heap.objs.size := (I.mod.glob.keeps I.bk).lt
  exact Nat.lt_trans (by decide) h

/-- d[y], there -/
theorem d_getItem {Q : Value → Shared → Prop} (hu : A.units + 1 < cLine) (I : Inv X pins σ H s) (g : DGet H a y (some v)) (ry : RelV y u) (h : ∀ w' s', Inv X pins σ H s' → RelV v w' → Q w' s') :
    wpAny (model X.prog X.w) A (getItem (.ref a) u) Q E s := by
  rcases g with ⟨kvs, k, e, ey, l⟩ | ⟨kvs, k, b, e, ey, eb, l⟩
  · subst ey
    obtain ⟨z, hd, vs, rel, dd⟩ := dk_rd I.hok e
    obtain ⟨w', hw, rw'⟩ := RelO.some_of (v := v) (o := valueAt vs k) (by rw [l]; exact rel.val k)
    exact wpAny_getItem_of (kV_is ry) dd.mapOf hw (h w' _ (I.tok _) rw')
  · subst ey
    cases (show u = Value.ref b from ry)
    obtain ⟨z, hd, xs, rel, dd⟩ := dt_rd I.hok e
    obtain ⟨w', hw, rw'⟩ := RelO.some_of (v := v) (o := (atKey xs k).map (·.2)) (by rw [l]; exact rel.val k)
    obtain ⟨p, hp, hp2⟩ := Option.map_eq_some_iff.mp hw
    refine wpAny_getItem_heap (tupleKind_room_in1 hu) (key_of I.hok eb) dd hp ?_
    rw [hp2]
    exact h w' _ (I.tok _) rw'
/-- y in d -/
theorem d_in {Q : Value → Shared → Prop} (hu : A.units + 1 < cLine) (I : Inv X pins σ H s) (g : DGet H a y o) (ry : RelV y u) (h : ∀ s', Inv X pins σ H s' → Q (.bool o.isSome) s') :
    wpAny (model X.prog X.w) A (compareOp .In u (.ref a)) Q E s := by
  rcases g with ⟨kvs, k, e, ey, l⟩ | ⟨kvs, k, b, e, ey, eb, l⟩
  · subst ey
    obtain ⟨z, hd, vs, rel, dd⟩ := dk_rd I.hok e
    refine wpAny_in_of (kV_is ry) hd dd.mapOf ?_
    rw [← (rel.val k).isSome_eq, ← l]
    exact h _ (I.tok _)
  · subst ey
    cases (show u = Value.ref b from ry)
    obtain ⟨z, hd, xs, rel, dd⟩ := dt_rd I.hok e
    refine wpAny_in_heap (tupleKind_room_in1 hu) (key_of I.hok eb) hd dd ?_
    have q := (rel.val k).isSome_eq
    rw [Option.isSome_map] at q
    rw [← q, ← l]
    exact h _ (I.tok _)
/-- a dict's object is replaced -/
theorem d_write {h' : Heap} {t' : Nat} {ob : HO} (I : Inv X pins σ H s) (mu : Mut (H a)) (hs : Heap.SameBut a s.heap h') (he : ∃ q, h'.get? a = some q) (new : ObjOk X.prog X.w (upd H a ob) h' a ob) :
    Inv X pins σ (upd H a ob) { s with heap := h', toks := t' } :=
  I.write (x := a) (e := a) mu (.inl rfl) (fun b q hb z => (hs.2 b hb).trans z) he new
theorem dk_new {P : Program} {w : World} {H' : Hp} {h' : Heap} {kvs : List (Key × V)} {vs : List (Key × Value)} (z : kvs.length ≤ sizeLine) (hd : (a == sysModules) = false) (rel : KV kvs vs) (dd : h'.DictOf (mixKind P w) a vs) :
    ObjOk P w H' h' a (.dK kvs) := ⟨z, hd, vs, rel, dd⟩
/-- d[y] = v -/
theorem d_setItem {H' : Hp} {Q : Unit → Shared → Prop} (hu : A.units + 1 < cLine) (I : Inv X pins σ H s) (g : DPut H a y v H') (ry : RelV y u) (rv : RelV v r) (h : ∀ s', Inv X pins σ H' s' → Q () s') :
    wpAny (model X.prog X.w) A (setItem (.ref a) u r) Q E s := by
  rcases g with ⟨kvs, k, e, ey, l, eH⟩ | ⟨kvs, k, b, e, ey, eb, l, eH⟩
  · subst ey eH
    obtain ⟨z, hd, vs, rel, dd⟩ := dk_of I.hok e
    have hz : vs.length ≤ sizeLine := by rw [← rel.length]; exact z
    have hl : (putK kvs k v).length ≤ sizeLine := by have := length_putK kvs k v; omega
    refine wpAny_setItem_pairs (hsz := hz) (kV_is ry) dd fun h' dd' hs => h _ ?_
    have he : ∃ q, h'.get? a = some q := let ⟨q, _, _, hq, _⟩ := dd'; ⟨q, hq⟩
    exact d_write I (by rw [e]; exact True.intro) hs he (dk_new hl hd (rel.put k rv) dd')
  · subst ey eH
    cases (show u = Value.ref b from ry)
    obtain ⟨z, hd, xs, rel, dd⟩ := dt_of I.hok e
    have hz : xs.length ≤ sizeLine := by rw [← Paired.length rel]; exact z
    have hl : (putK kvs k v).length ≤ sizeLine := by have := length_putK kvs k v; omega
    refine wpAny_setItem_heap (hsz := hz) (tupleKind_room_in1 hu) (key_of I.hok eb) dd fun h' dd' hs => h _ ?_
    obtain ⟨q, es, ep, hq, h2, h3, h4, _, h5⟩ := dd'
    refine d_write I (by rw [e]; exact True.intro) hs ⟨q, hq⟩ ⟨hl, hd, _, (rel.put k eb rv).keeps fun c ys ec => ?_, q, es, ep, hq, h2, h3, h4, h5⟩
    rw [upd_ne (ne_of ec e (fun z => nomatch z))]
    exact ec
end

section
variable {X : Cx} {pins : List (Addr × Obj)} {σ : St} {H : Hp} {s : Shared} {a : Addr} {kvs : List (Key × V)} {k : Key} {u : Value} {A : Around} {E : Value → Shared → Prop}
/-- len(d) -/
theorem d_len {Q : Value → Shared → Prop} (I : Inv X pins σ H s) (e : Rd H a (.dK kvs)) (h : ∀ t s', Inv X pins σ H s' → Q (.int kvs.length t) s') : wpAny (model X.prog X.w) A (call (.builtin "len") [.ref a]) Q E s := by
  obtain ⟨z, hd, vs, rel, dd⟩ := dk_rd I.hok e
  refine call_len_dict hd dd (by rw [← rel.length]; rw [sizeLine_eq] at z; omega) ?_
  rw [← rel.length]
  exact h _ _ (I.tok _)
end


/-! ### readings and rules -/
/-- the element of a subscription, not a slice -/
def NoSl (i : Expr) : Prop := ∀ ov iv, subscripted i false ov iv = operate [ov, iv] (getItem ov iv)
theorem subD_of {prog : Program} {w : World} {A : Around} {E : Value → Shared → Prop} {s : Shared} {env : Env} {value slice : Expr} {pos : Pos} {T id : String} {Q : Value → Shared → Prop}
    (hl : typeLookup (.type T) "__getitem__" = pure (some (.builtin id))) (hs : NoSl slice)
    (h : wpAny (model prog w) A (eval value env) (fun o s₁ => wpAny (model prog w) A (eval slice env) (fun i s₂ => s₂.TypeIs o T ∧ wpAny (model prog w) A (getItem o i) Q E s₂) E s₁) E s) :
    wpAny (model prog w) A (eval (.Subscript value slice pos) env) Q E s := by
  refine Subscript_ (wpAny_mono h (fun o s₁ h₁ => wpAny_mono h₁ (fun i s₂ h₂ => ?_) fun _ _ x => x) fun _ _ x => x)
  obtain ⟨hT, h₂⟩ := h₂
  unfold subscriptTail
  refine wpAny_bind ?_
  rw [getitemInPython_of_ne hT.not_modules]
  refine wpAny_bind (wpAny_specialOf hT hl ?_)
  have fin : wpAny (model prog w) A (subscripted slice false o i) (fun r s₃ => wpAny (model prog w) A (letTemporaryGo value o r >>= fun _ => pure r) Q E s₃) E s₂ := by
    rw [hs o i]
    exact wpAny_operating (wpAny_mono h₂ (fun r s₃ h₃ => wpAny_bind (wpAny_letTemporaryGo (wpAny_pure h₃))) fun _ _ x => x)
  first
    | exact wpAny_pure (wpAny_bind fin)
    | exact wpAny_bind (wpAny_pure (wpAny_bind fin))
    | exact wpAny_bind fin

theorem dict_typeIs {X : Cx} {pins : List (Addr × Obj)} {σ : St} {H : Hp} {s : Shared} {a : Addr} {y : V} {o : Option V} (I : Inv X pins σ H s) (g : DGet H a y o) : s.TypeIs (.ref a) "dict" := by
  rcases g with ⟨kvs, k, e, _, _⟩ | ⟨kvs, k, b, e, _, _, _⟩
  · obtain ⟨_, _, vs, _, dd⟩ := dk_rd I.hok e
    exact dd.typeIs
  · obtain ⟨_, _, xs, _, dd⟩ := dt_rd I.hok e
    exact dd.typeIs
/-- d[y] -/
def tDGet (td ty : TE) : TE := fun σ H Q => td σ H fun x H1 => ty σ H1 fun y H2 => ∃ a v, x = .ref a ∧ DGet H2 a y (some v) ∧ Q v H2
/-- y in d, y not in d -/
def tDIn (ty td : TE) : TE := fun σ H Q => ty σ H fun y H1 => td σ H1 fun x H2 => ∃ a o, x = .ref a ∧ DGet H2 a y o ∧ Q (.bl o.isSome) H2
/-- d[y] = v -/
def sDPut (td ty tv : TE) : TS := fun D σ H => tv σ H fun v H1 => td σ H1 fun x H2 => ty σ H2 fun y H3 => ∃ a H4, x = .ref a ∧ DPut H3 a y v H4 ∧ D.nx σ H4
section
variable {X : Cx} {o i e value : Expr} {pos pos' tpos : Pos} {td ty tv : TE}
theorem pe_dget (hu : X.A.units + 1 < cLine) (ho : PE X o td) (hi : PE X i ty) (hs : NoSl i) : PE X (.Subscript o i pos) (tDGet td ty) := by
  intro pins s σ H Q I h
  refine subD_of PySem.F.slot_dict_getitem.lookup hs (thn (ho pins s σ H _ I h) fun u s1 ⟨x, H1, I1, rx, q1⟩ => thn (hi pins s1 σ H1 _ I1 q1) fun iv s2 ⟨y, H2, I2, ry, a, v, ex, g, q2⟩ => ?_)
  subst ex
  obtain rfl : u = Value.ref a := rx
  exact ⟨dict_typeIs I2 g, d_getItem hu I2 g ry fun w' s3 I3 rw' => ⟨v, H2, I3, rw', q2⟩⟩
theorem pc_din (hu : X.A.units + 1 < cLine) (hi : PE X i ty) (ho : PE X o td) : PC X .In i o (tDIn ty td) := by
  intro pins s σ H Q I h
  refine thn (hi pins s σ H _ I h) fun iv s1 ⟨y, H1, I1, ry, q1⟩ => thn (ho pins s1 σ H1 _ I1 q1) fun u s2 ⟨x, H2, I2, rx, a, ov, ex, g, q2⟩ => ?_
  subst ex
  obtain rfl : u = Value.ref a := rx
  exact d_in hu I2 g ry fun s3 I3 => ⟨.bl ov.isSome, H2, I3, rfl, q2⟩
theorem ps_dput (hu : X.A.units + 1 < cLine) (ho : PE X o td) (hi : PE X i ty) (hv : PE X value tv) (hs : swapsWith value (some (.Subscript o i pos')) pos.line X.env = pure false) :
    PS X (.Assign [.Subscript o i pos'] value pos) (sDPut td ty tv) := by
  intro pins s σ H D I h
  refine wpAny_Assign_Subscript (thn (hv pins s σ H _ I h) fun r s1 ⟨v, H1, I1, rv, q1⟩ => thn (ho pins s1 σ H1 _ I1 q1) fun u s2 ⟨x, H2, I2, rx, q2⟩ => thn (hi pins s2 σ H2 _ I2 q2) fun iv s3 ⟨y, H3, I3, ry, a, H4, ex, g, q3⟩ => ?_) hs
  subst ex
  obtain rfl : u = Value.ref a := rx
  exact d_setItem hu I3 g ry rv fun s4 I4 => ⟨σ, H4, I4, q3⟩
end


/-! ### displays -/
theorem dk_empty {P : Program} {w : World} {H : Hp} (h : Heap) (hb : sysModules < h.objs.size) : ObjOk P w H (h.push { cls := .type "dict", data := .dict #[] }) h.objs.size (.dK []) :=
  ⟨Nat.zero_le _, beq_eq_false_iff_ne.mpr (Ne.symm (Nat.ne_of_lt hb)), [], .nil, Heap.DictOf.new h⟩
/-- {}, to be a dict of the kind that is wanted -/
def tDNewK : TE := fun _ H Q => ∀ p, H p = none → Q (.ref p) (upd H p (.dK []))
section
variable {X : Cx} {pos : Pos}
theorem pe_dnewK : PE X (.Dict [] [] pos) tDNewK := fun pins s σ H Q I h =>
  wpAny_Dict_empty ⟨.ref s.heap.objs.size, _, I.laid (a := s.heap.objs.size) (o := .dK []) (t' := s.toks) (fun _ _ q => Heap.get?_push_of_some _ q) (Nat.le_refl _) (dk_empty s.heap I.big), rfl, h _ (I.hok.fresh (Nat.le_refl _))⟩
end

/-! ### methods -/
structure M2 (X : Cx) (o : Expr) (m : Str) (apos : Pos) (e f : Expr) (cpos : Pos) : Prop where
  base : attributeBase o m X.env (eval o X.env) = eval o X.env
  few : ((backTo cpos (starEach [e, f] X.env)).all (fun x => !x.1) && (backToKw cpos (keywordEach [] X.env)).all (fun x => x.1.isSome)
    && decide (([e, f] : List Expr).length + ([] : List Keyword).length + (if ([] : List Keyword).isEmpty then 0 else 1) < 30)) = true
  line : (apos.endLine == cpos.line) = true
  trees : backTo cpos (starEach [e, f] X.env) = [(false, eval e X.env), (false, eval f X.env)]

/-- a is a dict, whatever its keys -/
def IsD (H : Hp) (a : Addr) : Prop := (∃ kvs, Rd H a (.dK kvs)) ∨ ∃ kvs, Rd H a (.dT kvs)
theorem isD_at {X : Cx} {pins : List (Addr × Obj)} {σ : St} {H : Hp} {s : Shared} {a : Addr} (I : Inv X pins σ H s) (d : IsD H a) :
    s.TypeIs (.ref a) "dict" ∧ (∀ b, Value.ref a = .ref b → ∃ ob, s.heap.get? b = some ob ∧ ob.dict = none) ∧ (a == sysModules) = false := by
  rcases d with ⟨kvs, e⟩ | ⟨kvs, e⟩
  · obtain ⟨_, hd, vs, _, dd⟩ := dk_rd I.hok e
    refine ⟨dd.typeIs, fun b q => ?_, hd⟩
    cases q
    obtain ⟨ob, _, _, h1, h2, _⟩ := dd
    exact ⟨ob, h1, h2.2.1⟩
  · obtain ⟨_, hd, xs, _, dd⟩ := dt_rd I.hok e
    refine ⟨dd.typeIs, fun b q => ?_, hd⟩
    cases q
    obtain ⟨ob, _, _, h1, h2, _⟩ := dd
    exact ⟨ob, h1, h2.2.1⟩

section
variable {X : Cx} {pins : List (Addr × Obj)} {σ : St} {H : Hp} {s : Shared} {a : Addr} {y d : V} {u r : Value} {o : Option V} {A : Around} {E : Value → Shared → Prop}
/-- d.get(y, x) -/
theorem d_get2 {Q : Value → Shared → Prop} (hu : A.units + 1 < cLine) (I : Inv X pins σ H s) (g : DGet H a y o) (ry : RelV y u) (rd : RelV d r) (h : ∀ w' s', Inv X pins σ H s' → RelV (o.getD d) w' → Q w' s') :
    wpAny (model X.prog X.w) A (call (.builtin "dict.get") [.ref a, u, r]) Q E s := by
  rcases g with ⟨kvs, k, e, ey, l⟩ | ⟨kvs, k, b, e, ey, eb, l⟩
  · subst ey
    obtain ⟨z, hd, vs, rel, dd⟩ := dk_rd I.hok e
    refine call_meetsIn PySem.F.slot_dict_get dd.typeIs PySem.F.entry_dict_get (PySem.F.args_dict_get_3 _ _ _) (meets_dict_get_default (mixKind X.prog X.w) a (kV_is ry) hd r) ⟨_, dd.mapOf, h _ _ (I.tok _) ?_⟩
    rw [l]
    exact (rel.val k).getD rd
  · subst ey
    cases (show u = Value.ref b from ry)
    obtain ⟨z, hd, xs, rel, dd⟩ := dt_rd I.hok e
    refine call_meetsIn PySem.F.slot_dict_get dd.typeIs PySem.F.entry_dict_get (PySem.F.args_dict_get_3 _ _ _) (meetsH_dict_get_default (tupleKind (mixKind X.prog X.w)) a b hd r) ⟨tupleKind_room_in1 hu, k, xs, key_of I.hok eb, dd, h _ _ (I.tok _) ?_⟩
    rw [l]
    exact (rel.val k).getD rd
end

def tDGet2 (td ty tx : TE) : TE := fun σ H Q => td σ H fun x H1 => ∃ a, x = .ref a ∧ IsD H1 a ∧ ty σ H1 fun y H2 => tx σ H2 fun z H3 => ∃ o, DGet H3 a y o ∧ Q (o.getD z) H3
section
variable {X : Cx} {o e f : Expr} {apos cpos : Pos} {td ty tx : TE}
theorem pe_dget2 (hu : X.A.units + 1 < cLine) (ho : PE X o td) (he : PE X e ty) (hf : PE X f tx) (m : M2 X o "get" apos e f cpos) : PE X (.Call (.Attribute o "get" apos) [e, f] [] cpos) (tDGet2 td ty tx) := by
  intro pins s σ H Q I h
  refine wpAny_Call_method m.base m.few m.line PySem.F.plainAttrs_dict PySem.F.slot_dict_get PySem.F.type_dict_get (thn (ho pins s σ H _ I h) fun u s1 ⟨x, H1, I1, rx, a, ex, d, q1⟩ => ?_)
  subst ex
  obtain rfl : u = Value.ref a := rx
  obtain ⟨t1, t2, _⟩ := isD_at I1 d
  refine ⟨t1, t2, ?_⟩
  rw [m.trees]
  refine Calls.callWith_builtin rfl (Calls.evalArgs_plain (Calls.spliced_cons (thn (he pins s1 σ H1 _ I1 q1) fun iv s2 ⟨y, H2, I2, ry, q2⟩ =>
    Calls.spliced_cons (thn (hf pins s2 σ H2 _ I2 q2) fun fv s3 ⟨z, H3, I3, rz, ov, g, q3⟩ => Calls.spliced_nil ?_))))
  exact d_get2 hu I3 g ry rz fun w' s4 I4 rw' => ⟨_, H3, I4, rw', q3⟩
end

/-! ### dict(d): a copy -/
section
variable {X : Cx} {pins : List (Addr × Obj)} {σ : St} {H : Hp} {s : Shared} {a : Addr} {kvs : List (Key × V)} {A : Around} {E : Value → Shared → Prop}
end


section
variable {X : Cx} {pins : List (Addr × Obj)} {σ : St} {H : Hp} {s : Shared} {a : Addr} {y : V} {u : Value} {A : Around} {E : Value → Shared → Prop}
end
end L2

namespace Att
open PySem PySem.W PySem.Calls PyProof.Rows

/-! ### the script -/
theorem ints_of_wellAll {P : Params} {h : Heap} : ∀ (ns : List Int) (vs : List Value), WellAll P h vs (ns.map WData.int) → IntsAre vs ns := by
  intro ns
  induction ns with
  | nil =>
    intro vs w
    rw [List.map_nil] at w
    cases w
    exact .nil
  | cons n ns ih =>
    intro vs w
    rw [List.map_cons] at w
    cases w with
    | cons a b =>
      cases a
      exact .cons _ _ (ih _ b)

theorem script_of {l : OpenLaw} {n : Nat} (hn : l.most = some n) {P : Params} {h : Heap} {args : List WData} {vals : List Value}
    (hpre : l.row.toRowW.claim.pre args = true) (hwl : WellAll P h vals args) :
    ∃ a vs ns, vals = [Value.ref a] ∧ args = [WData.list (ns.map WData.int)] ∧ h.get? a = some { cls := .type "list", data := .seq vs.toArray } ∧ IntsAre vs ns ∧ ns.length ≤ n := by
  have hsh : WShape.hasAll [] args [.list .int] = true := (pre_splitW hpre).1
  have hc : l.pre.holds [] { args := args } = true := (pre_splitW hpre).2
  obtain ⟨d, r, rfl, h1, h2⟩ := hasAllW_cons hsh
  obtain rfl := hasAllW_nil h2
  obtain ⟨xs, rfl, h3⟩ := hasW_list h1
  obtain ⟨ns, rfl⟩ := items_int h3
  have hlen : ns.length ≤ n := by
    unfold OpenLaw.pre at hc
    have h4 : (WTm.not (.lt (.lit (.int (n : Int))) (.len (.arg 0)))).holds [] { args := [.list (ns.map .int)] } = true := by
      have h4 := (holds_andW hc).1
      rw [hn] at h4
      exact h4
    have h5 := condW_of h4 (w_not (w_lt w_lit (w_len_list (w_arg rfl))))
    rw [List.length_map] at h5
    refine Nat.le_of_not_lt fun q => ?_
    have q' : (n : Int) < ((ns.length : Nat) : Int) := by omega
    first
      | (rw [decide_eq_true q'] at h5; exact absurd h5 (by decide))
      | (simp at h5; omega)
  cases hwl with
  | cons w1 w2 =>
    cases w2
    cases w1 with
    | list ho hall => exact ⟨_, _, ns, rfl, rfl, ho, ints_of_wellAll ns _ hall, hlen⟩

theorem post_true (l : OpenLaw) (args : List WData) : l.row.toRowW.claim.post args (.bool true) args = true :=
  postW_of (r := l.row.toRowW) (X := (true == true))
    (show WShape.has [] (.bool true) .bool = true by first | rfl | decide | simp [WShape.has, WShape.arms, WShape.armsAll])
    (show (WTm.eq .res (.lit (.bool true))).value [] { args := args, res := some (.bool true), after := args } = some (.bool (true == true)) from w_eq_bool (w_res rfl) w_lit) rfl

/-! ### the attachment: holds_open's last premise (the goal 'hc' behind k_head) from a wpAny of the law's body -/
/-- the same from a codeAny of the CALL (for a layer whose function contracts speak of calls) -/
theorem attach_call {l : OpenLaw} {n : Nat} {q : Program} {loose : List Str} {XP : (Str → Option Value) → Heap → Prop} {YP : World → Heap → Prop} {d : DefRec}
    (hn : l.most = some n) (hdf : d.params.defaults = [])
    (call : ∀ (w : World) (s₀ s₁ : Shared) (mg mb : Str → Option Value) (fa : Addr) (o : Obj) (pm cd doc : Value) (a : Addr) (vs : List Value) (ns : List Int),
      Ground q loose [] XP w s₀ mg mb s₁.heap → YP w s₁.heap →
      s₁.heap.get? fa = some o → o.data = .func (docDef d.name d.params d.body d.scope pm cd doc) → s₁.heap.CodeRec cd d.name → mg d.name = some (.ref fa) →
      s₁.heap.get? a = some { cls := .type "list", data := .seq vs.toArray } → IntsAre vs ns → ns.length ≤ n → s₁.gens = #[] →
      codeAny (model l.prog w) callerA (.call (.ref fa) ⟨[.ref a], []⟩) (fun r s' => r = .ok (.ret (.bool true)) ∧ OldK s₁.heap s'.heap ∧ s'.os = s₁.os ∧ AllBare s'.gens) s₁) :
    WalkO q loose XP YP l.row.toRowW d [] (fun f vs => PySem.call f vs) := by
  intro w s₀ s₁ mg mb G Y fa o pm cd doc dV kV ho hd hcd hD hmg hg args vals as hpre hlay hrd hwl hlo
  obtain rfl : dV = .none := Dflts.none hD hdf
  obtain rfl : kV = .none := Dflts.noKw hD
  obtain ⟨a, vs, ns, rfl, rfl, hobj, hints, hlen⟩ := script_of hn hpre hwl
  refine enter_call (codeAny_mono (call w s₀ s₁ mg mb fa o pm cd doc a vs ns G Y ho (fd_plain hd) hcd hmg hobj hints hlen hg) fun r s' hq => ?_)
  obtain ⟨rfl, h2, h3, h4⟩ := hq
  exact ⟨.inl ⟨.bool true, .bool true, [], rfl, fun _ => rfl, .bool true, post_true l _, fun _ => ⟨List.Pairwise.nil, fun _ hm => (nomatch hm)⟩⟩, h2, h3, h4⟩

/-! ### rules over ANY heap (no ledger) from facts about the written part K: the library's own take a ledger (News) for what they write -/
section
variable {prog : Program} {w : World} {A : Around} {E : Value → Shared → Prop} {s : Shared} {K : Frag}

/-! the whole heap as the ledger: makes every rule that writes through a ledger a rule over any heap -/
end
end Att

namespace L2
open PySem PySem.Spec PyProof.Rows

theorem vals_ints : ∀ {vs : List Value} {ns : List Int}, IntsAre vs ns → Vals (ns.map V.int) vs
  | _, _, .nil => .nil
  | _, _, .cons n t h => .cons ⟨t, rfl⟩ (vals_ints h)

/-- nothing is tracked but the script, known to the object (or it is an object of the module) -/
def Only (H : Hp) : Prop := ∀ b, H b = none ∨ ∃ o xs, H b = some (.frz o (.lst xs))

/-- THE HEAD: the law's promise, at the heap behind the top. F, the promise of the law's def, may use that base is part of the heap (so K.In base, base.Ns mainGlobals mg stand in Mod) -/
theorem law_call {P : Program} {w : World} {K : PySem.W.Frag} {mg mb : Str → Option Value} {CX : CXT} {k : Nat} {fa a : Addr} {fd : FuncData} {x : Str} {sp : Sp} {s₁ : Shared} {vs : List Value} {ns : List Int}
    (KX : K.In s₁.heap) (hns : s₁.heap.Ns mainGlobals mg) (hb : s₁.heap.Ns builtinsNs mb) (hbb : ∀ x : Str, x ≠ "__name__" → mb x = bootBuiltins x) (hlim : s₁.heap.NoLimit) (hg : s₁.gens = #[])
    (ha : s₁.heap.get? a = some { cls := .type "list", data := .seq vs.toArray }) (hi : IntsAre vs ns) (hl : ns.length ≤ sizeLine) (hr : Room k callerA)
    (F : ∀ base : Heap, K.In base → base.Ns mainGlobals mg → FnOk P w K mg base CX k fa fd [x] sp) (hbind : ∀ (s : Shared) (u : Value), BindsTo s fd ⟨[u], []⟩ [(x, u)])
    (hsp : ∀ H : Hp, Only H → SqL K H a (ns.map V.int) → sp [.ref a] H (fun v _ => v = .bl true) fun _ _ _ => False)
    (hCX : ∀ H e s', CX [] H s₁ (fun _ _ _ => False) e s' → False) :
    codeAny (model P w) callerA (.call (.ref fa) ⟨[.ref a], []⟩) (fun r s' => r = .ok (.ret (.bool true)) ∧ OldK s₁.heap s'.heap ∧ s'.os = s₁.os ∧ AllBare s'.gens) s₁ := by
  have rv := vals_ints hi
  have lenV := hi.length
  -- from an abstract heap in which nothing but the script may be tracked
  have core : ∀ H : Hp, Only H → SqL K H a (ns.map V.int) → HOk P w H s₁.heap → (∀ b, H b ≠ none → b = a) → (H a ≠ none → K.lookup a = none) →
      codeAny (model P w) callerA (.call (.ref fa) ⟨[.ref a], []⟩) (fun r s' => r = .ok (.ret (.bool true)) ∧ OldK s₁.heap s'.heap ∧ s'.os = s₁.os ∧ AllBare s'.gens) s₁ := by
    intro H hO hS hok hA hK
    have base_of : ∀ {b : Addr} {o : Obj}, s₁.heap.get? b = some o → H b = none → (hidT s₁.heap H).get? b = some o := fun e n => hidT_get e n
    have noA : ∀ {b : Addr} {o : Obj} {es : Array DictEntry} {ep : Nat}, s₁.heap.get? b = some o → o.data = .dict es ep → H b = none := fun {b o es ep} e d => by
      cases q : H b with
      | none => rfl
      | some u =>
        have e' : b = a := hA b (by rw [q]; simp)
        subst e'
        rw [ha] at e; cases e
        have d' : Data.seq vs.toArray _ = Data.dict es ep := d
        cases d'
    have nsK : ∀ {b : Addr} {m : Str → Option Value}, s₁.heap.Ns b m → (hidT s₁.heap H).Ns b m := fun {b m} ⟨o, es, ep, e, d, r⟩ => ⟨o, es, ep, base_of e (noA e d), d, r⟩
    have hKb : K.In (hidT s₁.heap H) := fun b o e => base_of (KX b o e) (by
      cases q : H b with
      | none => rfl
      | some u =>
        have e' : b = a := hA b (by rw [q]; simp)
        subst e'
        rw [hK (by rw [q]; simp)] at e; cases e)
    have hM : Mod K mg (hidT s₁.heap H) := ⟨hKb, nsK hns, ⟨mb, nsK hb, hbb⟩, let ⟨mc, h1, h2⟩ := hlim; ⟨mc, nsK h1, h2⟩⟩
    have e0 : Env0 P w K mg (hidT s₁.heap H) callerA [] s₁ H := ⟨rfl, hM, fun b o e => of_hidT e, Nat.le_of_eq (hidT_size _ _), trivial, fun b hb => absurd (show b ∈ ([] : List Addr) from hb) (by simp), hok, .of_eq hg⟩
    refine codeAny_mono ((F _ hKb (nsK hns)).run callerA [] s₁ H ⟨[.ref a], []⟩ [.ref a] [.ref a] _ _ hr e0 (hbind s₁ (.ref a)) (.cons rfl .nil) (hsp H hO hS)) fun r s' h => ?_
    cases r with
    | error e => exact (hCX H e s' h).elim
    | ok fl =>
      cases fl with
      | next => exact False.elim h
      | brk => exact False.elim h
      | cont => exact False.elim h
      | ret u =>
        obtain ⟨v, H', os, bare, un, hok', r', q⟩ := h
        have q' : v = .bl true := q
        subst q'
        obtain rfl : u = Value.bool true := r'
        refine ⟨rfl, OldK.of_keep fun b o e => ?_, os, bare⟩
        cases q : H b with
        | none => exact un.keep b o e q (by intro z; exact absurd (show b ∈ ([] : List Addr) from z) (by simp)) (by simp)
        | some u =>
          rcases hO b with z | ⟨ob, xs, z⟩
          · rw [q] at z; cases z
          · have z2 := un.frzs b ob _ z
            obtain ⟨e1, _⟩ := hok b _ z
            obtain ⟨e2, _⟩ := hok' b _ z2
            rw [e] at e1; cases e1
            exact e2
  cases hk : K.lookup a with
  | some o =>
    -- the script is one of the module's own objects
    have e := KX a o hk
    rw [ha] at e
    cases e
    refine core (fun _ => none) (fun _ => .inl rfl) (.inr ⟨_, vs.toArray, _, hk, rfl, rfl, rfl, by rw [List.size_toArray, lenV]; exact hl, by simpa using rv⟩) (fun b u z => by have z' : (none : Option HO) = some u := z; cases z') (fun b z => absurd rfl z) fun z => absurd rfl z
  | none =>
    refine core (fun b => if b = a then some (.frz { cls := .type "list", data := .seq vs.toArray } (.lst (ns.map V.int))) else none) (fun b => ?_) (.inl (.inr ⟨{ cls := .type "list", data := .seq vs.toArray }, if_pos rfl⟩)) (fun b u z => ?_) (fun b z => ?_) fun _ => hk
    · by_cases hb : b = a
      · exact .inr ⟨_, _, if_pos hb⟩
      · exact .inl (if_neg hb)
    · by_cases hb : b = a
      · have z' := (if_pos hb).symm.trans z
        cases z'
        subst hb
        exact ⟨ha, by rw [List.length_map]; exact hl, vs, _, rv, ha⟩
      · have z' := (if_neg hb).symm.trans z
        cases z'
    · by_cases hb : b = a
      · exact hb
      · exact absurd (if_neg hb) z
end L2

namespace L2
open PySem PySem.Spec PyProof.Rows

/-- the goal that k_head leaves (case hc), from the law's promise. F gives the function object fd (K's own) once, then the promise over every base -/
theorem walk_of {l : PySem.W.OpenLaw} {n k : Nat} {q : Program} {loose : List Str} {XP : (Str → Option Value) → Heap → Prop} {YP : World → Heap → Prop} {d : DefRec} {K : Params → PySem.W.Frag} {CX : World → CXT} {sp : World → Sp} {x : Str}
    (hn : l.most = some n) (hn2 : n ≤ sizeLine) (hdf : d.params.defaults = []) (hr : Room k callerA)
    (hY : ∀ (w : World) (h : Heap), YP w h → (K w.params).In h)
    (F : ∀ (w : World) (mg : Str → Option Value) (fa : Addr) (h : Heap), (K w.params).In h → h.Ns mainGlobals mg → mg d.name = some (.ref fa) →
      ∃ fd : FuncData, (∀ (s : Shared) (u : Value), BindsTo s fd ⟨[u], []⟩ [(x, u)]) ∧
        ∀ base : Heap, (K w.params).In base → base.Ns mainGlobals mg → FnOk l.prog w (K w.params) mg base (CX w) k fa fd [x] (sp w))
    (hsp : ∀ (w : World) (H : Hp) (a : Addr) (ns : List Int), ns.length ≤ n → Only H → SqL (K w.params) H a (ns.map V.int) → sp w [.ref a] H (fun v _ => v = .bl true) fun _ _ _ => False)
    (hCX : ∀ (w : World) (H : Hp) (s : Shared) (e : Value) (s' : Shared), CX w [] H s (fun _ _ _ => False) e s' → False) :
    PySem.W.WalkO q loose XP YP l.row.toRowW d [] (fun f vs => PySem.call f vs) := by
  refine Att.attach_call hn hdf fun w s₀ s₁ mg mb fa o pm cd doc a vs ns G Y ho hd hcd hmg hobj hints hlen hg => ?_
  have KX := hY w _ Y
  obtain ⟨fd, hb, hF⟩ := F w mg fa _ KX G.T.g hmg
  exact law_call KX G.T.g G.T.b G.T.builtins G.T.nolimit hg hobj hints (Nat.le_trans hlen hn2) hr hF hb (fun H hO hS => hsp w H a ns hlen hO hS) fun H e s' => hCX w H s₁ e s'
end L2

/- THE LAST THEOREM (shape; LID, My.* are yours):
   My.Adr: a structure of the addresses that your layer names (classes, functions); My.Txt K t: a structure (Prop) of the equations over K;
   My.txt_mk : {K} {implicit addresses ..} (e1 : nsIn K mainGlobals "law" = some (some (.ref f))) (e2 : K.lookup f = some ⟨oc, od, .func (fnOf "law" "law" params body scope dV kV doc pm an cdv ct), sl⟩) (e3 : codeIn K cdv "law" = true) .. : ∃ t, My.Txt K t

set_option maxRecDepth 100000 in
set_option maxHeartbeats 0 in
theorem PySem.Challenge.cw_LID_holds : PySem.Challenge.rw_LID.Holds := by
  w_on; o_law; k_head; (case hw => w_witness2)
  k_fill
  refine L2.walk_of (l := PySem.Challenge.rw_LID) (n := 63) (k := 40) (x := "script") (CX := fun w => ..) (sp := fun _ => My.sp_law) rfl (by decide) rfl ⟨rfl, by decide, by decide⟩ (fun w h Y => PySem.W.kIn_of Y) ?F ?S ?C
  case F =>
    intro w mg fa h KX G hmg
    have T : ∃ t, My.Txt (L2.KOf KX) t := by
      dsimp only [L2.KOf]                          -- K must stand as «<heap const> w.params» for k_is
      refine' My.txt_mk ?e1 ?e2 ?e3 ..
      (case e1 => PySem.W.k_is)                    -- in the order: a name -> its address -> its object -> its parts
      (case e2 => PySem.W.k_is)
      ..
    obtain ⟨t, T⟩ := T
    have e0 := hmg.symm.trans (PySem.W.mg_of KX G T.law)
    cases e0                                       -- fa is the law's own address
    exact ⟨_, fun s u => .of_eq rfl, fun base kb nb => My.law_fn T kb nb⟩     -- if «.of_eq rfl» comes too early: refine' ⟨_, ?b, fun base kb nb => My.law_fn T kb nb⟩; exact fun s u => .of_eq rfl
  case S => exact fun w H a ns hl hO hS => ..
  case C => exact ..
(the tactic k_is has no namespace: write k_is) -/

/-! SHORT WORDS over the layer: a def of the text, its body, what a loop and a test want. -/
namespace L2
open PySem PySem.Spec PyProof.Rows

/-! ### the text by places -/
def defArgs (s : Stmt) : Arguments := match s with
  | .FunctionDef _ a _ _ _ _ _ _ _ _ => a
  | _ => { posonlyargs := [], args := [], vararg := none, kwonlyargs := [], kw_defaults := [], kwarg := none, defaults := [] }
def defBody (s : Stmt) : List Stmt := match s with
  | .FunctionDef _ _ b _ _ _ _ _ _ _ => b
  | _ => []
def defScope (s : Stmt) : Scope := match s with
  | .FunctionDef _ _ _ _ _ _ sc _ _ _ => sc
  | _ => { kind := .function, names := [], isGenerator := false, isCoroutine := false }

/-! ### no exception leaves a def -/
abbrev CX0 : CXT := fun _ _ _ _ _ _ => False
abbrev E0 : XK := fun _ _ _ => False
theorem pass0 {X : Cx} : Passes CX0 X E0 := fun _ _ _ _ _ _ _ h => h.elim

/-! ### a def (or method) of the text as it stands behind the top -/
structure Fun (K : PySem.W.Frag) (x qual : Str) (st : Stmt) (f : Addr) (fd : FuncData) : Prop where
  ex : ∃ (oc : Value) (od : Option Addr) (kV doc pm : Value) (an : Option Addr) (cdv ct : Value) (osl : Array (Option Value)),
    fd = PySem.W.fnOf x qual (defArgs st) (defBody st) (defScope st) .none kV doc pm an cdv ct ∧ K.lookup f = some ⟨oc, od, .func fd, osl⟩ ∧ PySem.W.codeIn K cdv qual = true
  kp : PySem.W.keepIn K (.ref f) = true
section
variable {P : Program} {w : World} {K : PySem.W.Frag} {mg : Str → Option Value} {base : Heap}
/-- THE RULE for a def: its body as a term of rules, and the reading of that term -/
theorem Fun.ok {x qual : Str} {st : Stmt} {f : Addr} {fd : FuncData} {N ps : List Str} {k : Nat} {sp : Sp} (F : Fun K x qual st f fd) (S : FnScope N ps (defScope st)) (len : ∀ vs H Q E, sp vs H Q E → vs.length = ps.length)
    (hbody : ∀ (cdv : Value) (A : Around) (outer : List Env) (s : Shared) (H : Hp) (vs : List V) (Q : VK) (E : XK), Room k (A.deeper (envOfC qual (defScope st) s.heap.objs.size f cdv)) → sp vs H Q E →
      ∃ t, PSs (cxOf CX0 P w K mg base N qual (defScope st) f cdv A outer s H E).nox (defBody st) t ∧ t { nx := fun _ H' => Q .non H', rt := Q } (start N vs) H) : FnOk P w K mg base CX0 (k + 1) f fd ps sp := by
  obtain ⟨oc, od, kV, doc, pm, an, cdv, ct, osl, rfl, lk, hcd⟩ := F.ex
  refine fn_of lk hcd S len fun A outer s H vs Q E hr hsp => ?_
  obtain ⟨t, h, q⟩ := hbody cdv A outer s H vs Q E hr hsp
  exact ⟨t, h.nox, q⟩
/-- how its arguments bind (no defaults): h is «fun _ _ _ _ _ _ us hl => match us, hl with | [_, _], _ => rfl», one _ a parameter -/
theorem Fun.binds {x qual : Str} {st : Stmt} {f : Addr} {fd : FuncData} {ps : List Str} (F : Fun K x qual st f fd)
    (h : ∀ (kV doc pm : Value) (an : Option Addr) (cdv ct : Value) (us : List Value), us.length = ps.length → bindArgs (PySem.W.fnOf x qual (defArgs st) (defBody st) (defScope st) .none kV doc pm an cdv ct) ⟨us, []⟩ = pure (ps.zip us)) : Binds K fd ps [] := by
  obtain ⟨oc, od, kV, doc, pm, an, cdv, ct, osl, rfl, lk, hcd⟩ := F.ex
  exact .all (h kV doc pm an cdv ct)
theorem fun_mk {x qual : Str} {st : Stmt} {f : Addr} {oc : Value} {od an : Option Addr} {osl : Array (Option Value)} {kV doc pm cdv ct : Value} (l : K.lookup f = some ⟨oc, od, .func (PySem.W.fnOf x qual (defArgs st) (defBody st) (defScope st) .none kV doc pm an cdv ct), osl⟩)
    (c : PySem.W.codeIn K cdv qual = true) (k : PySem.W.keepIn K (.ref f) = true) : Fun K x qual st f (PySem.W.fnOf x qual (defArgs st) (defBody st) (defScope st) .none kV doc pm an cdv ct) := ⟨⟨oc, od, kV, doc, pm, an, cdv, ct, osl, rfl, l, c⟩, k⟩
end
theorem hu_of {A : Around} {k : Nat} (hr : Room k A) : A.units + 1 < cLine := Nat.lt_of_le_of_lt (Nat.add_le_add_left (by decide : 1 ≤ 64) _) hr.units
theorem small1000 {n : Nat} (h : n ≤ 1000) : n < sizeLine := Nat.lt_of_le_of_lt h (by decide)

/-! ### expressions in short: the name that stands in the i-th slot -/
section
variable {X : Cx}
theorem pv (i : Nat) {x : Str} {pos : Pos} (hN : X.N[i]? = some x := by rfl) (hv : Vis X.env.scope x := by first | exact Or.inl rfl | exact Or.inr (Or.inl rfl) | exact Or.inr (Or.inr rfl)) (hd : (x == ("__debug__" : Str)) = false := by decide)
    (hcd : (x == ("__classdict__" : Str)) = false := by decide) : PE X (.Name x pos) (tVar i) := pe_var hN hv hd hcd
end

/-! ### tests -/
theorem iteF {A B : Prop} (h : B) : if false = true then A else B := by
  rw [if_neg Bool.false_ne_true]
  exact h
theorem iteT {A B : Prop} (h : A) : if true = true then A else B := by
  rw [if_pos rfl]
  exact h
theorem ite2 {c A B : Prop} [Decidable c] (h1 : c → A) (h2 : ¬ c → B) : if c then A else B := by
  by_cases h : c
  · rw [if_pos h]
    exact h1 h
  · rw [if_neg h]
    exact h2 h
theorem iteNS {c A B : Prop} [Decidable c] (hc : c) (h : B) : if (!decide c) = true then A else B := by
  rw [decide_eq_true hc]
  exact iteF h

/-! ### heaps -/
/-- all that was tracked is as it was -/
def Same (H H' : Hp) : Prop := ∀ b o, H b = some o → H' b = some o
theorem Same.refl (H : Hp) : Same H H := fun _ _ h => h
theorem Same.trans {H H1 H2 : Hp} (a : Same H H1) (b : Same H1 H2) : Same H H2 := fun c o h => b c o (a c o h)
theorem Same.free {H H' : Hp} (e : Same H H') {l : Addr} (h : H' l = Option.none) : H l = Option.none := by
  cases q : H l with
  | none => rfl
  | some o =>
    rw [e l o q] at h
    cases h
theorem Same.seq {K : PySem.W.Frag} {H H' : Hp} {a : Addr} {xs : List V} (e : Same H H') (h : SqL K H a xs) : SqL K H' a xs := by
  rcases h with (h | ⟨o, h⟩) | h
  · exact .inl (.inl (e _ _ h))
  · exact .inl (.inr ⟨o, e _ _ h⟩)
  · exact .inr h

section
variable {X : Cx}
/-- len of a dict -/
theorem call_lenD : CallR X (.builtin "len") (fun xs H Q => ∃ a kvs, xs = [V.ref a] ∧ H a = some (.dK kvs) ∧ Q (.int kvs.length) H) := by
  intro pins s σ H xs us Q I r h
  obtain ⟨a, kvs, rfl, ha, q⟩ := h
  obtain ⟨u, rfl, ru⟩ := vals1 r
  cases ru
  exact d_len I (.inl ha) fun t s' I' => ⟨.int kvs.length, H, I', ⟨t, rfl⟩, q⟩
end

/-! ### a dict's pairs: keys that differ -/
section
variable {κ : Type} [DecidableEq κ]
end
end L2


set_option Elab.async false
set_option linter.all false
set_option maxRecDepth 100000
set_option maxHeartbeats 4000000
/-! A list comprehension of one clause: its block as a context of the layer. -/
namespace L2
open PySem PySem.Spec PyProof.Rows

/-- the context in which a comprehension's block runs -/
def lcx (X : Cx) (sc : Scope) (N : List Str) (cl : List (Str × Addr)) (C : Addr) (fp : List Addr) (s : Shared) (H : Hp) : Cx :=
  { prog := X.prog, w := X.w, K := X.K, mg := X.mg, base := X.base, A := X.A, N := N, s₀ := s, H₀ := H, env := compEnvC sc cl C X.env,
    outer := X.stack, stack := X.stack, ex := fp, fn := fun x => sc.names.lookup x == some .cell, calm := X.calm, pn := [], xe := fun _ _ => False }

/-- its slots: its own names (unbound), then the captured ones, by their places outside -/
def lcSt (own : List Str) (ix : List Nat) (σ : St) : St := own.map (fun _ => none) ++ ix.map fun i => σ.getD i none

structure LcOk (X : Cx) (sc : Scope) (N own : List Str) (ix : List Nat) : Prop where
  kind : sc.kind = .function
  cellN : ∀ y ∈ sc.names, y.2 = .cell → sc.names.lookup y.1 = some .cell
  names : ∀ y ∈ sc.names, y.2 = .local → sc.names.lookup y.1 = some .local
  free : ∀ y ∈ sc.names, y.2 = .free → X.env.kindOf y.1 = some .cell ∨ X.env.kindOf y.1 = some .free
  NN : N = own ++ ix.map fun i => X.N.getD i ""
  cap : ∀ i ∈ ix, sc.names.lookup (X.N.getD i "") = some .free

theorem lookup_relabel (sc : Scope) (env : Env) (x : Str) : (relabel sc env).names.lookup x =
    (sc.names.lookup x).map fun k => if (k == .free && env.scope.kind == .function && env.kindOf x == some .cell) then .cell else k := by
  unfold relabel
  dsimp only
  generalize sc.names = ns
  induction ns with
  | nil => rfl
  | cons p r ih =>
    obtain ⟨n, k⟩ := p
    rw [List.map_cons]
    by_cases hx : (x == n) = true
    · have e : x = n := by simpa using hx
      subst e
      by_cases hc : (k == NameKind.free && env.scope.kind == .function && env.kindOf x == some .cell) = true
      · rw [if_pos hc]; simp only [List.lookup_cons, hx]; rw [Option.map_some, if_pos hc]
      · rw [if_neg hc]; simp only [List.lookup_cons, hx]; rw [Option.map_some, if_neg hc]
    · have hx' : (x == n) = false := by simpa using hx
      by_cases hc : (k == NameKind.free && env.scope.kind == .function && env.kindOf n == some .cell) = true
      · rw [if_pos hc]; simp only [List.lookup_cons, hx']; exact ih
      · rw [if_neg hc]; simp only [List.lookup_cons, hx']; exact ih

theorem mem_of_lookup {α β : Type} [BEq α] [LawfulBEq α] {x : α} {v : β} : ∀ {l : List (α × β)}, l.lookup x = some v → (x, v) ∈ l
  | [], h => by simp at h
  | (a, b) :: r, h => by
    by_cases e : (x == a) = true
    · simp only [List.lookup_cons, e] at h
      cases h
      have e : x = a := by simpa using e
      subst e
      exact List.mem_cons_self
    · have e' : (x == a) = false := by simpa using e
      simp only [List.lookup_cons, e'] at h
      exact List.mem_cons_of_mem _ (mem_of_lookup h)

theorem clos_go {env : Env} : ∀ (ns : List (Str × NameKind)) (acc : List (Str × Addr)), (∀ x ∈ ns, x.2 = .free → ∃ c, env.cells.lookup x.1 = some c) → (∀ n c, acc.lookup n = some c → env.cells.lookup n = some c) →
    ∃ cl, (forIn ns acc fun (x : Str × NameKind) (r : List (Str × Addr)) => if (x.2 == NameKind.free) = true then (cellOf env x.1 >>= fun c => (pure (ForInStep.yield ((x.1, c) :: r)) : Sem _)) else (pure (ForInStep.yield r) : Sem _)) = (pure cl : Sem _) ∧
      (∀ n c, cl.lookup n = some c → env.cells.lookup n = some c) ∧ (∀ n c, acc.lookup n = some c → ∃ c', cl.lookup n = some c') ∧ ∀ x ∈ ns, x.2 = .free → ∃ c, cl.lookup x.1 = some c := by
  intro ns
  induction ns with
  | nil => intro acc _ ha; exact ⟨acc, by rw [List.forIn_nil], ha, fun n c e => ⟨c, e⟩, fun _ h => by simp at h⟩
  | cons p r ih =>
    intro acc hn ha
    rw [List.forIn_cons]
    by_cases hk : (p.2 == NameKind.free) = true
    · obtain ⟨c, hc⟩ := hn p List.mem_cons_self (by simpa using hk)
      obtain ⟨cl, e, h1, h2, h3⟩ := ih ((p.1, c) :: acc) (fun x hx => hn x (List.mem_cons_of_mem _ hx)) (fun n c' e => by
        by_cases z : (n == p.1) = true
        · simp only [List.lookup_cons, z] at e
          cases e
          have z : n = p.1 := by simpa using z
          rw [z]; exact hc
        · have z' : (n == p.1) = false := by simpa using z
          simp only [List.lookup_cons, z'] at e
          exact ha n c' e)
      have h2' : ∃ c', cl.lookup p.1 = some c' := h2 p.1 c (by simp [List.lookup_cons])
      refine ⟨cl, ?_, h1, fun n c' e' => ?_, fun x hx hf => ?_⟩
      · rw [if_pos hk]
        have : cellOf env p.1 = (pure c : Sem Addr) := by unfold cellOf; rw [hc]
        rw [this]
        simp only [pure_bind]
        exact e
      · by_cases z : (n == p.1) = true
        · have z : n = p.1 := by simpa using z
          rw [z]; exact h2'
        · have z' : (n == p.1) = false := by simpa using z
          exact h2 n c' (by simp only [List.lookup_cons, z']; exact e')
      · rcases List.mem_cons.mp hx with z | z
        · rw [z]; exact h2'
        · exact h3 x z hf
    · obtain ⟨cl, e, h1, h2, h3⟩ := ih acc (fun x hx => hn x (List.mem_cons_of_mem _ hx)) ha
      refine ⟨cl, ?_, h1, h2, fun x hx hf => ?_⟩
      · rw [if_neg hk]
        simp only [pure_bind]
        exact e
      · rcases List.mem_cons.mp hx with z | z
        · rw [z] at hf; exact absurd (by simpa using hf) hk
        · exact h3 x z hf
theorem clos_ok {env : Env} {sc : Scope} (h : ∀ x ∈ sc.names, x.2 = .free → ∃ c, env.cells.lookup x.1 = some c) : ∃ cl, closureFor sc env = pure cl ∧ (∀ n c, cl.lookup n = some c → env.cells.lookup n = some c) ∧ ∀ x ∈ sc.names, x.2 = .free → ∃ c, cl.lookup x.1 = some c := by
  obtain ⟨cl, e, h1, _, h3⟩ := clos_go sc.names [] h (fun _ _ e => by simp at e)
  refine ⟨cl, ?_, h1, h3⟩
  unfold closureFor
  dsimp only
  refine Eq.trans ?_ (Eq.trans (congrArg (fun m => m >>= fun r => (pure r : Sem _)) e) ?_)
  · rfl
  · simp only [pure_bind]
/-! ### cells of the block's own -/
theorem cellsFrom_app : ∀ (names : List (Str × NameKind)) (n : Nat) (acc : List (Str × Addr)), cellsFrom n names acc = cellsFrom n names [] ++ acc
  | [], _, _ => rfl
  | (x, k) :: r, n, acc => by
    unfold cellsFrom
    split
    · rw [cellsFrom_app r (n + 1) ((x, n) :: acc), cellsFrom_app r (n + 1) [(x, n)], List.append_assoc]; rfl
    · exact cellsFrom_app r n acc
theorem cellsFrom_kind : ∀ (names : List (Str × NameKind)) (n : Nat) (acc : List (Str × Addr)) (x : Str) (c : Addr), (x, c) ∈ cellsFrom n names acc → (x, c) ∈ acc ∨ (x, NameKind.cell) ∈ names
  | [], _, _, _, _, h => .inl h
  | (y, k) :: r, n, acc, x, c, h => by
    unfold cellsFrom at h
    split at h
    · rename_i hk
      rcases cellsFrom_kind r (n + 1) _ x c h with z | z
      · rcases List.mem_cons.mp z with e | z
        · cases e
          have : k = .cell := by simpa using hk
          subst this
          exact .inr List.mem_cons_self
        · exact .inl z
      · exact .inr (List.mem_cons_of_mem _ z)
    · rcases cellsFrom_kind r n _ x c h with z | z
      · exact .inl z
      · exact .inr (List.mem_cons_of_mem _ z)
theorem lookup_some_of_mem {α : Type} : ∀ {l : List (Str × α)} {x : Str} {c : α}, (x, c) ∈ l → ∃ c', l.lookup x = some c'
  | (y, v) :: r, x, c, h => by
    rw [List.lookup_cons]
    cases hb : x == y with
    | true => exact ⟨v, rfl⟩
    | false =>
      rcases List.mem_cons.mp h with e | h
      · cases e; simp at hb
      · exact lookup_some_of_mem h
theorem cellsFrom_has : ∀ (names : List (Str × NameKind)) (n : Nat) (acc : List (Str × Addr)) (x : Str), (x, NameKind.cell) ∈ names ∨ (∃ c, (x, c) ∈ acc) → ∃ c, (x, c) ∈ cellsFrom n names acc
  | [], _, _, _, h => by
    rcases h with z | z
    · simp at z
    · exact z
  | (y, k) :: r, n, acc, x, h => by
    unfold cellsFrom
    split
    · refine cellsFrom_has r (n + 1) _ x ?_
      rcases h with z | ⟨c, z⟩
      · rcases List.mem_cons.mp z with e | z
        · cases e; exact .inr ⟨n, List.mem_cons_self⟩
        · exact .inl z
      · exact .inr ⟨c, List.mem_cons_of_mem _ z⟩
    · rename_i hk
      refine cellsFrom_has r n _ x ?_
      rcases h with z | z
      · rcases List.mem_cons.mp z with e | z
        · cases e; simp at hk
        · exact .inl z
      · exact .inr z
theorem lookup_app {α : Type} {l r : List (Str × α)} {x : Str} : (l ++ r).lookup x = match l.lookup x with | some c => some c | none => r.lookup x := by
  induction l with
  | nil => rfl
  | cons p q ih =>
    obtain ⟨y, v⟩ := p
    rw [List.cons_append, List.lookup_cons, List.lookup_cons]
    cases hb : x == y with
    | true => rfl
    | false => exact ih
/-- the block's cells: own ones, then the captured -/
structure CsOk (X : Cx) (sc : Scope) (cs : List (Str × Addr)) (C : Addr) (h1 : Heap) : Prop where
  all : ∀ n c, cs.lookup n = some c → (C < c ∧ h1.IsCell c none) ∨ X.env.cells.lookup n = some c
  inj : ∀ x y c, C < c → cs.lookup x = some c → cs.lookup y = some c → x = y
  free : ∀ n, sc.names.lookup n = some .free → ∃ c, cs.lookup n = some c ∧ X.env.cells.lookup n = some c
  own : ∀ n, sc.names.lookup n = some .cell → ∃ c, cs.lookup n = some c
  ab : ∀ n c, sc.names.lookup n = some .cell → cs.lookup n = some c → C < c
section
variable {X : Cx} {sc : Scope} {N own : List Str} {ix : List Nat} {cs cl : List (Str × Addr)} {C : Addr} {fp : List Addr} {pins : List (Addr × Obj)} {σ : St} {H : Hp} {s : Shared}
theorem cs_ok {h : Heap} (L : LcOk X sc N own ix) (I : Inv X pins σ H s) (c1 : ∀ n c, cl.lookup n = some c → X.env.cells.lookup n = some c) (c2 : ∀ x ∈ sc.names, x.2 = .free → ∃ c, cl.lookup x.1 = some c)
    (hC : s.heap.objs.size ≤ C) (hz : h.objs.size = C + 1) : CsOk X sc (cellsFrom (C + 1) sc.names cl) C (pushCells h sc.names) := by
  have ok := cellsFrom_ok sc.names h (C + 1) [] ⟨fun _ _ hm => (nomatch hm), List.Pairwise.nil⟩ (by rw [hz]; exact Nat.le_refl _)
  rw [hz] at ok
  rw [cellsFrom_app]
  have old : ∀ n c, cl.lookup n = some c → c < s.heap.objs.size := fun n c e => by obtain ⟨v, z⟩ := I.cell n c (c1 n c e); exact z.lt
  have kin : ∀ n c, (cellsFrom (C + 1) sc.names []).lookup n = some c → sc.names.lookup n = some .cell := fun n c e => by
    rcases cellsFrom_kind _ _ _ _ _ (mem_of_lookup e) with z | z
    · simp at z
    · exact L.cellN _ z rfl
  refine ⟨fun n c e => ?_, fun x y c hc e1 e2 => ?_, fun n e => ?_, fun n e => ?_, fun n c e1 e2 => ?_⟩
  · rw [lookup_app] at e
    cases z : (cellsFrom (C + 1) sc.names []).lookup n with
    | some c' =>
      rw [z] at e; cases e
      obtain ⟨a, b⟩ := ok.empty n c (mem_of_lookup z)
      exact .inl ⟨b, a⟩
    | none => rw [z] at e; exact .inr (c1 n c e)
  · have own1 : ∀ n, ((cellsFrom (C + 1) sc.names []) ++ cl).lookup n = some c → (n, c) ∈ cellsFrom (C + 1) sc.names [] := fun n e => by
      rw [lookup_app] at e
      cases z : (cellsFrom (C + 1) sc.names []).lookup n with
      | some c' => rw [z] at e; cases e; exact mem_of_lookup z
      | none => rw [z] at e; exact absurd (Nat.lt_of_lt_of_le (old n c e) hC) (Nat.not_lt.mpr (Nat.le_of_lt hc))
    exact name_of_addr ok.apart (own1 x e1) (own1 y e2)
  · have hf := mem_of_lookup e
    obtain ⟨c, hc⟩ := c2 _ hf rfl
    refine ⟨c, ?_, c1 n c hc⟩
    rw [lookup_app]
    cases z : (cellsFrom (C + 1) sc.names []).lookup n with
    | some c' => have := kin n c' z; rw [e] at this; cases this
    | none => exact hc
  · obtain ⟨c, hc⟩ := cellsFrom_has sc.names (C + 1) [] n (.inl (mem_of_lookup e))
    obtain ⟨c', hc'⟩ := lookup_some_of_mem hc
    exact ⟨c', by rw [lookup_app, hc']⟩
  · obtain ⟨c', hc⟩ := cellsFrom_has sc.names (C + 1) [] n (.inl (mem_of_lookup e1))
    obtain ⟨c'', hc'⟩ := lookup_some_of_mem hc
    rw [lookup_app, hc'] at e2
    cases e2
    exact (ok.empty n _ (mem_of_lookup hc')).2
theorem kind_rel {x : Str} (h : (relabel sc X.env).names.lookup x = some .cell ∨ (relabel sc X.env).names.lookup x = some .free) : sc.names.lookup x = some .cell ∨ sc.names.lookup x = some .free := by
  rw [lookup_relabel] at h
  cases e : sc.names.lookup x with
  | none => rw [e] at h; simp at h
  | some k =>
    rw [e] at h
    simp only [Option.map_some, Option.some.injEq] at h
    by_cases hk : k = .free
    · rw [hk]; exact .inr rfl
    · have hk' : (k == NameKind.free) = false := by simpa using hk
      simp only [hk', Bool.false_and] at h
      rcases h with h | h
      · left; simpa using h
      · exact absurd h hk
theorem CsOk.lt {h1 : Heap} (c : CsOk X sc cs C h1) (I : Inv X pins σ H s) {n : Str} {a : Addr} (e : cs.lookup n = some a) : (C < a ∧ h1.IsCell a none) ∨ (X.env.cells.lookup n = some a ∧ a < s.heap.objs.size) := by
  rcases c.all n a e with z | z
  · exact .inl z
  · obtain ⟨v, y⟩ := I.cell n a z; exact .inr ⟨z, y.lt⟩
theorem lc_ok {h1 : Heap} (L : LcOk X sc N own ix) (I : Inv X pins σ H s) (c : CsOk X sc cs C h1)
    (hC : s.heap.objs.size ≤ C) (hf : ∀ b ∈ fp, FpOk X pins H b) (hb : ∀ b ∈ fp, b < s.heap.objs.size) : (lcx X sc N cs C fp s H).Ok where
  mod := I.ok.mod
  kind := L.kind
  glob := I.ok.glob
  blt := I.ok.blt
  above := hC
  inj := fun x y a e1 e2 => by
    rcases c.lt I e1 with z | ⟨z, zl⟩
    · exact c.inj x y a z.1 e1 e2
    · rcases c.lt I e2 with z' | ⟨z', _⟩
      · exact absurd (Nat.lt_of_lt_of_le zl hC) (Nat.not_lt.mpr (Nat.le_of_lt z'.1))
      · exact I.ok.inj x y a z z'
  has := fun x h => by
    rcases kind_rel h with z | z
    · exact c.own x z
    · obtain ⟨a, e, _⟩ := c.free x z; exact ⟨a, e⟩
  cab := fun x a h e => by
    have h : sc.names.lookup x = some .cell := by simpa [lcx] using h
    exact Nat.le_trans hC (Nat.le_of_lt (c.ab x a h e))
  hd := I.ok.hd
  frames := I.ok.frames
  stk := .inl rfl
  exf := fun b h => ⟨Nat.ne_of_lt (Nat.lt_of_lt_of_le (hb b h) hC), fun x a e => by
    rcases c.lt I e with z | ⟨z, _⟩
    · exact Nat.ne_of_gt (Nat.lt_trans (Nat.lt_of_lt_of_le (hb b h) hC) z.1)
    · exact (hf b h).2.2.2.2.1 x a z⟩
  bs := I.bs
  bsz := Nat.le_trans I.ok.bsz I.sz
  noex := fun b o e h => by
    rcases (hf b h).2.2.2.1 with z | z
    · exact I.ok.noex b o e z
    · exact absurd (Nat.lt_of_lt_of_le (Heap.lt_size e) (Nat.le_trans I.ok.bsz z)) (Nat.lt_irrefl _)
  exfs := fun b h z => by
    rcases List.mem_cons.mp (I.stkSub b z) with e | e
    · exact (hf b h).2.1 e
    · exact (hf b h).2.2.1 e
  funs := I.stack
  frf := I.stkFree
/-- behind the block: what changed at C alone is nothing to the outer context -/
theorem hok_but {P : Program} {w : World} {H' : Hp} {h h' : Heap} {C : Addr} (hok : HOk P w H' h) (hn : H' C = none) (sb : Heap.SameBut C h h') : HOk P w H' h' := fun b o e => by
  have ne : ∀ b u, H' b = some u → b ≠ C := fun b u e z => by rw [z, hn] at e; cases e
  refine (hok b o e).stay (fun c v hc q => ?_) (fun _ q => q) fun _ _ q => q
  have hcC : c ≠ C := by
    rcases hc with z | z
    · rw [z]; exact ne b o e
    · exact ne c _ z
  rw [sb.2 c hcC]; exact q
theorem lc_back {σ' : St} {H' : Hp} {s' : Shared} {pl : List (Addr × Obj)} (I : Inv X pins σ H s) (I' : Inv (lcx X sc N cs C fp s H) pl σ' H' s') (hf : ∀ b ∈ fp, FpOk X pins H b) {h' : Heap} (sb : Heap.SameBut C s'.heap h') :
    Inv X pins σ H' { s' with heap := h' } := by
  have u := I'.base
  have hC : ∀ b o, s.heap.get? b = some o → b ≠ C := fun b o e => Nat.ne_of_lt (Nat.lt_of_lt_of_le (Heap.lt_size e) I'.ok.above)
  refine I.call' (s' := { s' with heap := h' }) (ch := fp) I'.os ?_ (hok_but I'.hok I'.free sb) I'.bare fun b hb => ?_
  · refine ⟨fun b o e n h1 h2 => ?_, fun b o e n h1 h2 => ?_, u.free, fun b o e h2 => ?_, u.tups, u.frzs, u.tbls⟩
    · rw [sb.2 b (hC b o e)]; exact u.keep b o e n h1 h2
    · rw [sb.2 b (hC b o e)]; exact u.slot b o e n h1 h2
    · rw [sb.2 b (hC b o e)]; exact u.there b o e h2
  · obtain ⟨_, f1, _, f3, f4, f5⟩ := hf b hb
    exact ⟨f3, f1, f4, f5⟩
/-- the block's first state -/
theorem lc_start {h1 : Heap} {t' : Nat} {D : Addr} (L : LcOk X sc N own ix) (I : Inv X pins σ H s) (c : CsOk X sc cs C h1)
    (hC : s.heap.objs.size ≤ C) (hf : ∀ b ∈ fp, FpOk X pins H b) (hb : ∀ b ∈ fp, b < s.heap.objs.size) (hD : s.heap.objs.size ≤ D) (hDC : D < C)
    (old : ∀ b o, s.heap.get? b = some o → h1.get? b = some o) {m : Str → Option Value} (hn : h1.Ns C m) (hl : h1.get? D = some { cls := .type "list", data := .seq #[] }) :
    Inv (lcx X sc N cs C fp s H) [] (lcSt own ix σ) (upd H D (.lst [])) { s with heap := h1, toks := t' } := by
  have hDn : H D = none := I.hok.fresh hD
  have hCn : H C = none := I.hok.fresh hC
  have new : ∀ b o, s.heap.get? b = some o → b ≠ D := fun b o e => Nat.ne_of_lt (Nat.lt_of_lt_of_le (Heap.lt_size e) hD)
  have cells : ∀ x a, cs.lookup x = some a → H a = none ∧ a ≠ D ∧ ∃ v, h1.IsCell a v := fun x a e => by
    rcases c.lt I e with ⟨z1, z2⟩ | ⟨z, zl⟩
    · exact ⟨I.hok.fresh (Nat.le_trans hC (Nat.le_of_lt z1)), Nat.ne_of_gt (Nat.lt_trans hDC z1), none, z2⟩
    · obtain ⟨v, o, ho, hd⟩ := I.cell x a z
      exact ⟨I.freeC x a z, new a o ho, v, o, old a o ho, hd⟩
  refine ⟨lc_ok L I c hC hf hb, rfl, I.bare, (Un.laid old hD hDn : Un (frs X.stack) fp H (upd H D (.lst [])) s.heap h1), ⟨m, hn, fun i x v e1 e2 e3 => ?_⟩, fun x a e => (cells x a e).2.2, ?_, fun x a e => ?_, fun p hp => by simp [lcx] at hp, ?_, ?_⟩
  · -- a captured name
    have e1 : N[i]? = some x := e1
    have e2 : (lcSt own ix σ)[i]? = some (some v) := e2
    unfold lcSt at e2
    by_cases hi : i < own.length
    · rw [List.getElem?_append_left (by simpa using hi), List.getElem?_map] at e2
      cases z : own[i]? with
      | none => rw [z] at e2; simp at e2
      | some y => rw [z] at e2; simp at e2
    · have hi' : own.length ≤ i := Nat.le_of_not_lt hi
      rw [List.getElem?_append_right (by simpa using hi'), List.length_map, List.getElem?_map] at e2
      rw [L.NN, List.getElem?_append_right hi', List.getElem?_map] at e1
      cases z : ix[i - own.length]? with
      | none => rw [z] at e2; simp at e2
      | some j =>
        rw [z] at e1 e2
        simp only [Option.map_some, Option.some.injEq] at e1 e2
        have hj : σ[j]? = some (some v) := by
          rw [List.getD_eq_getElem?_getD] at e2
          cases q : σ[j]? with
          | none => rw [q] at e2; simp at e2
          | some y => rw [q] at e2; simp at e2; rw [e2]
        have hN : X.N[j]? = some x := by
          have hlt : j < X.N.length := by rw [← I.len]; exact (List.getElem?_eq_some_iff.mp hj).1
          rw [List.getD_eq_getElem?_getD, List.getElem?_eq_getElem hlt] at e1
          rw [List.getElem?_eq_getElem hlt, ← e1]; rfl
        have hcap : sc.names.lookup x = some .free := by rw [← e1]; exact L.cap j (List.mem_of_getElem? z)
        have hk := L.free _ (mem_of_lookup hcap) rfl
        obtain ⟨m0, hn0, hl0⟩ := I.loc
        obtain ⟨u, ru, lk⟩ := hl0 j x v hN hj (by rcases hk with k | k; exact .inr (.inl k); exact .inr (.inr k))
        refine ⟨u, ru, .inr ⟨?_, ?_⟩⟩
        · have q : (lcx X sc N cs C fp s H).env.kindOf x = (relabel sc X.env).names.lookup x := rfl
          rw [q, lookup_relabel, hcap, Option.map_some]
          by_cases hc : (NameKind.free == NameKind.free && X.env.scope.kind == .function && X.env.kindOf x == some .cell) = true
          · rw [if_pos hc]; exact .inl rfl
          · rw [if_neg hc]; exact .inr rfl
        · obtain ⟨a, ha, hx⟩ := c.free x hcap
          refine ⟨a, ha, ?_⟩
          rcases lk with ⟨k, _⟩ | ⟨_, a', e, z⟩
          · rcases hk with k' | k' <;> (have q := k.symm.trans k'; cases q)
          · have q := hx.symm.trans e
            cases q
            obtain ⟨o, ho, hd⟩ := z
            exact ⟨o, old a o ho, hd⟩
  · show upd H D (.lst []) C = none
    rw [upd_ne (Nat.ne_of_gt hDC)]; exact hCn
  · show upd H D (.lst []) a = none
    rw [upd_ne (cells x a e).2.1]; exact (cells x a e).1
  · exact I.hok.laid old hD ⟨by simp, [], 0, .nil, hl⟩
  · show (lcSt own ix σ).length = N.length
    rw [L.NN]; simp [lcSt]
end
section
variable {M : Model} {A : Around} {E : Value → Shared → Prop} {s : Shared}
theorem newEnv_lc {scope : Scope} {globals : Addr} {cl : List (Str × Addr)} {qual : Str} {func : Option Addr} {code : Value} {env : Env} {builtins : Addr} {Q : Env → Shared → Prop}
    (hQ : Q (newEnv scope s.heap.objs.size globals (cellsFrom (s.heap.objs.size + 1) scope.names cl) qual func code (some env) builtins) { s with heap := pushCells (s.heap.push { cls := .type "dict", data := .dict #[] }) scope.names }) :
    wpAny M A (newFunctionEnv scope globals cl [] qual func code (some env) builtins) Q E s := by
  simp only [newFunctionEnv, Option.isSome_some, if_true]
  refine wpAny_bind (wpAny_alloc ?_)
  refine wpAny_bind (wpAny_layCells _ (fun name kind cells => by cases hkc : kind == NameKind.cell <;> simp [hkc]) _ _ _ _ ?_)
  rw [show ({ s with heap := s.heap.push { cls := .type "dict", data := .dict #[] } } : Shared).heap.objs.size = s.heap.objs.size + 1 from Heap.size_push ..]
  rw [List.forIn_nil]
  exact wpAny_bind (wpAny_pure (wpAny_pure hQ))
end
/-! ### the loop of the block -/
def PTs (X : Cx) (ifs : List Expr) (t : TT) : Prop :=
  ∀ (pins : List (Addr × Obj)) (s : Shared) (σ : St) (H : Hp) (Q : Bool → Hp → Prop), Inv X pins σ H s → t σ H Q →
    wpAny (model X.prog X.w) X.A (forIn ifs true fun c r => if r = true then do let ok ← isTrue c X.env (eval c X.env); pure (ForInStep.yield ok) else pure (ForInStep.yield r)) (TP X pins σ Q) X.xe s
def tYes : TT := fun _ H Q => Q true H
theorem pts_nil {X : Cx} : PTs X [] tYes := fun _ _ _ H _ I q => wpAny_tests_nil ⟨H, I, q⟩
theorem pts_one {X : Cx} {c : Expr} {t : TT} (h : PT X c t) : PTs X [c] t := fun pins s σ H Q I q => wpAny_tests_one (h pins s σ H Q I q)

section
variable {prog : Program} {w : World} {A : Around} {R : Result → Shared → Prop} {s : Shared}
theorem codeAny_compLoop_go {elt target iter : Expr} {ifs : List Expr} {scope : Scope} {pos : Pos} {it acc : Value} {env : Env} (I : Nat → Shared → Prop)
    (turn : ∀ n s, I n s → wpAny (model prog w) A (pyNext it) (fun r s₁ => match r with
      | none => R (.ok .next) s₁
      | some v => wpAny (model prog w) A (letOwnedTupleGo target it v) (fun _ s₁' => wpAny (model prog w) A (assign target env v) (fun _ s₂ =>
          wpAny (model prog w) A (forIn ifs true fun c r => if r = true then do let ok ← isTrue c env (eval c env); pure (ForInStep.yield ok) else pure (ForInStep.yield r)) (fun ok s₃ =>
            if ok = true then wpAny (model prog w) A (eval elt env) (fun x s₄ =>
              wpAny (model prog w) A (call (.builtin "list.append") [acc, x]) (fun _ s₅ => ∃ m, m < n ∧ I m s₅) (notedBy (model prog w) A env fun e s' => R (.error e) s') s₄) (notedBy (model prog w) A env fun e s' => R (.error e) s') s₃
            else ∃ m, m < n ∧ I m s₃) (notedBy (model prog w) A env fun e s' => R (.error e) s') s₂) (notedBy (model prog w) A env fun e s' => R (.error e) s') s₁') (notedBy (model prog w) A env fun e s' => R (.error e) s') s₁) (notedBy (model prog w) A env fun e s' => R (.error e) s') s)
    (n : Nat) (h : I n s) :
    codeAny (model prog w) A (.compLoop (.ListComp elt [⟨target, iter, ifs, 0⟩] scope pos) 0 it acc env) R s := by
  refine codeAny_loop rfl I (fun n s hI => ?_) n h
  show wpAny _ A ((compTurn (.ListComp elt [⟨target, iter, ifs, 0⟩] scope pos) 0 it acc env).onRaise (fun x => do noteFrame x env; theTreesLotGoes x)) _ _ s
  refine wpAny_noted ?_
  rw [compTurn_list]
  refine wpAny_bind (wpAny_standAt (wpAny_bind (wpAny_mono (turn n s hI) (fun r s₁ h₁ => ?_) fun _ _ h' => h')))
  cases r with
  | none => exact wpAny_pure h₁
  | some v =>
    refine wpAny_bind (wpAny_mono h₁ (fun _ s₁' h₁' => ?_) fun _ _ h' => h')
    refine wpAny_bind (wpAny_mono h₁' (fun _ s₂ h₂ => wpAny_bind (wpAny_mono h₂ (fun ok s₃ h₃ => ?_) fun _ _ h' => h')) fun _ _ h' => h')
    cases ok with
    | false => exact wpAny_pure ⟨rfl, h₃⟩
    | true =>
      exact wpAny_bind (wpAny_bind (wpAny_mono h₃ (fun x s₄ h₄ => wpAny_bind (wpAny_mono h₄ (fun _ s₅ h₅ => wpAny_pure (wpAny_pure ⟨rfl, h₅⟩)) fun _ _ h' => h')) fun _ _ h' => h'))
end
/-- what the block's loop is to keep, and reach -/
def LcW (D : Addr) (J : It) (g : TG) (tc : TT) (te : TE) (Q : VK) (W : Nat → Nat → St → Hp → Prop) : Prop :=
  ∀ i m σ H, W i m σ H → (J.stop i H ∧ Q (.ref D) H) ∨ (J.go i H ∧ ∃ N : St → Hp → Prop, (∀ σ' H', N σ' H' → ∃ m', m' < m ∧ W (i + 1) m' σ' H') ∧ ∀ x H1, J.yld i H x H1 → g x σ H1 fun σ2 H2 => tc σ2 H2 fun b H3 =>
    if b = true then te σ2 H3 fun v H4 => ∃ ys, H4 D = some (.lst ys) ∧ ys.length < sizeLine ∧ N σ2 (upd H4 D (.lst (ys ++ [v]))) else N σ2 H3)
def tLc (own : List Str) (ix : List Nat) (wi : TI) (g : TG) (tc : TT) (te : TE) : TE := fun σ H Q => wi σ H fun J H1 => ∀ D, H1 D = none →
  ∃ W : Nat → Nat → St → Hp → Prop, (∃ m, W 0 m (lcSt own ix σ) (upd H1 D (.lst []))) ∧ LcW D J g tc te Q W
section
variable {X : Cx} {sc : Scope} {N own : List Str} {ix : List Nat} {cl : List (Str × Addr)} {fp : List Addr} {pins : List (Addr × Obj)} {σ : St} {H : Hp} {s : Shared} {elt tg iter : Expr} {ifs : List Expr} {pos : Pos}
  {g : TG} {tc : TT} {te : TE} {wi : TI}
theorem lc_run {J : It} {it : Addr} {tn : Nat → Heap → Prop} {Q : VK} {E : Value → Shared → Prop} {RR : Value → Addr → Result → Shared → Prop} (hc : X.calm = true) (L : LcOk X sc N own ix) (I : Inv X pins σ H s)
    (T : Turn X.prog X.w X.K tg J fp it tn) (st : tn 0 s.heap) (hf : ∀ b ∈ fp, FpOk X pins H b) (c1 : ∀ n c, cl.lookup n = some c → X.env.cells.lookup n = some c) (c2 : ∀ x ∈ sc.names, x.2 = .free → ∃ c, cl.lookup x.1 = some c)
    (hg : ∀ cl C fp s H, PG (lcx X sc N cl C fp s H) tg g) (ht : ∀ cl C fp s H, PTs (lcx X sc N cl C fp s H) ifs tc) (he : ∀ cl C fp s H, PE (lcx X sc N cl C fp s H) elt te)
    (q : ∀ D, H D = none → ∃ W : Nat → Nat → St → Hp → Prop, (∃ m, W 0 m (lcSt own ix σ) (upd H D (.lst []))) ∧ LcW D J g tc te Q W)
    (hRR : ∀ D C cs s' σ' H', Inv (lcx X sc N cs C fp s H) [] σ' H' s' → Q (.ref D) H' → RR (.ref D) C (.ok .next) s') :
    wpAny (model X.prog X.w) X.A (newList []) (fun acc s₃ => wpAny (model X.prog X.w) X.A (newFunctionEnv sc X.env.globals cl [] X.env.qual none .none (some X.env)) (fun cenv s₄ =>
      codeAny (model X.prog X.w) X.A (.compStart (.ListComp elt [⟨tg, iter, ifs, 0⟩] sc pos) 0 (.ref it) acc { cenv with scope := relabel sc X.env }) (RR acc cenv.locals) s₄) E s₃) E s := by
  refine wpAny_newObj_type (newEnv_lc ?_)
  dsimp only
  generalize hH2 : s.heap.push { cls := .type "list", dict := none, data := .seq ([] : List Value).toArray } = H2
  have hC : H2.objs.size = s.heap.objs.size + 1 := by rw [← hH2, Heap.size_push]
  have hDC : s.heap.objs.size < H2.objs.size := by rw [hC]; exact Nat.lt_succ_self _
  have hCle : s.heap.objs.size ≤ H2.objs.size := Nat.le_of_lt hDC
  have kp : ∀ b o, H2.get? b = some o → (pushCells (H2.push { cls := .type "dict", data := .dict #[] }) sc.names).get? b = some o := fun b o e => pushCells_keeps _ _ b o (Heap.get?_push_of_some _ e)
  have old : ∀ b o, s.heap.get? b = some o → (pushCells (H2.push { cls := .type "dict", data := .dict #[] }) sc.names).get? b = some o := fun b o e => kp b o (hH2 ▸ Heap.get?_push_of_some _ e)
  have hl : (pushCells (H2.push { cls := .type "dict", data := .dict #[] }) sc.names).get? s.heap.objs.size = some { cls := .type "list", data := .seq #[] } := kp _ _ (hH2 ▸ Heap.get?_push_size _ rfl)
  have hns : (pushCells (H2.push { cls := .type "dict", data := .dict #[] }) sc.names).Ns H2.objs.size fun _ => none := (Heap.Ns.new H2 (.type "dict")).keeps (pushCells_keeps _ _)
  have co := cs_ok (cl := cl) (h := H2.push { cls := .type "dict", data := .dict #[] }) L I c1 c2 hCle (Heap.size_push ..)
  generalize pushCells (H2.push { cls := .type "dict", data := .dict #[] }) sc.names = h₁ at old hl hns co ⊢
  generalize hcs : cellsFrom (H2.objs.size + 1) sc.names cl = cs at co ⊢
  have hb : ∀ b ∈ fp, b < s.heap.objs.size := fun b hb => let ⟨o, e, _⟩ := T.obj 0 _ st b hb; Heap.lt_size e
  have hDn : H s.heap.objs.size = none := I.hok.fresh (Nat.le_refl _)
  obtain ⟨W, ⟨m0, w0⟩, turn⟩ := q s.heap.objs.size hDn
  have st1 : tn 0 h₁ := T.keep 0 _ _ st fun b _ o e => old b o e
  have fpD : ∀ b ∈ fp, upd H s.heap.objs.size (.lst []) b = none := fun b h => by rw [upd_ne (Nat.ne_of_lt (hb b h))]; exact (hf b h).1
  have J0 := lc_start (t' := s.toks) (C := H2.objs.size) (fp := fp) L I co hCle hf hb (Nat.le_refl _) hDC old hns hl
  generalize hX : lcx X sc N cs H2.objs.size fp s H = Y at J0
  have eA : X.A = Y.A := by rw [← hX]; rfl
  have eP : X.prog = Y.prog := by rw [← hX]; rfl
  have eW : X.w = Y.w := by rw [← hX]; rfl
  have eK : X.K = Y.K := by rw [← hX]; rfl
  have ee : compEnvC sc cs H2.objs.size X.env = Y.env := by rw [← hX]; rfl
  have ec : Y.calm = true := by rw [← hX]; exact hc
  have hg' : PG Y tg g := by rw [← hX]; exact hg cs _ fp s H
  have ht' : PTs Y ifs tc := by rw [← hX]; exact ht cs _ fp s H
  have he' : PE Y elt te := by rw [← hX]; exact he cs _ fp s H
  have ex' : Y.xe = fun _ _ => False := by rw [← hX]; rfl
  have T' : Turn Y.prog Y.w Y.K tg J fp it tn := by rw [← eP, ← eW, ← eK]; exact T
  have stat : ∀ {H' : Hp}, (∀ b ∈ fp, H' b = none) → ∀ b ∈ fp, FpOk Y [] H' b := fun {H'} hn b hb' => by
    rw [← hX]
    obtain ⟨_, f1, f2, f3, f4, f5⟩ := hf b hb'
    refine ⟨hn b hb', Nat.ne_of_lt (Nat.lt_of_lt_of_le (hb b hb') hCle), fun z => ?_, .inl hb', fun x c e => (lc_ok L I co hCle hf hb).exf b hb' |>.2 x c e, fun p hp => by simp [lcx] at hp⟩
    rcases List.mem_cons.mp (I.stkSub b z) with e | e
    · exact f1 e
    · exact f2 e
  have hRR' : ∀ s' σ' H', Inv Y [] σ' H' s' → Q (.ref s.heap.objs.size) H' → RR (.ref s.heap.objs.size) H2.objs.size (.ok .next) s' := by rw [← hX]; exact fun s' σ' H' => hRR _ _ _ s' σ' H'
  have up : ∀ {α : Type} {t : Sem α} {Q' : α → Shared → Prop} {E' : Value → Shared → Prop} {s' : Shared}, wpAny (model Y.prog Y.w) Y.A t Q' Y.xe s' → wpAny (model Y.prog Y.w) Y.A t Q' E' s' := fun h => wpAny_mono h (fun _ _ x => x) fun _ _ z => by rw [ex'] at z; exact z.elim
  have loop : codeAny (model X.prog X.w) X.A (.compLoop (.ListComp elt [⟨tg, iter, ifs, 0⟩] sc pos) 0 (.ref it) (.ref s.heap.objs.size) (compEnvC sc cs H2.objs.size X.env))
        (RR (.ref s.heap.objs.size) H2.objs.size) { s with heap := h₁ } := by
    rw [ee, eA, eP, eW]
    refine codeAny_compLoop_go (fun n s' => ∃ i σ' H', Inv Y [] σ' H' s' ∧ tn i s'.heap ∧ (∀ b ∈ fp, H' b = none) ∧ W i n σ' H') ?_ m0 ⟨0, _, _, J0, st1, fpD, w0⟩
    rintro n s3 ⟨i, σ3, H3, I3, st3, fr3, w3⟩
    rcases turn i n σ3 H3 w3 with ⟨stop, qn⟩ | ⟨go, NN, hN, step⟩
    · refine up (thn (T'.done Y rfl rfl rfl ec i [] s3 σ3 H3 Y.xe I3 (stat fr3) st3 stop) fun r s4 ⟨hr, I4⟩ => ?_)
      subst hr
      exact hRR' s4 σ3 H3 I4 qn
    · refine up (thn (T'.item Y rfl rfl rfl ec i [] s3 σ3 H3 Y.xe I3 (stat fr3) st3 go) fun r s4 ⟨u, hr, h4⟩ => ?_)
      subst hr
      refine up (thn h4 fun _ s5 ⟨x, H5, I5, r5, y5, st5, fr5⟩ => ?_)
      have I5' := I5.pinned (stat fr5) (T.obj _ _ st5)
      refine up (thn (hg' _ s5 σ3 H5 x u _ I5' r5 (step x H5 y5)) fun _ s6 ⟨σ6, H6, I6, q6⟩ => ?_)
      have again : ∀ {σ7 : St} {H7 : Hp} {s7 : Shared}, Inv Y ([] ++ pinsAt fp s5.heap) σ7 H7 s7 → NN σ7 H7 → ∃ m, m < n ∧ ∃ i σ' H', Inv Y [] σ' H' s7 ∧ tn i s7.heap ∧ (∀ b ∈ fp, H' b = none) ∧ W i m σ' H' := fun {σ7 H7 s7} I7 n7 => by
        obtain ⟨m', hm, w7⟩ := hN σ7 H7 n7
        refine ⟨m', hm, i + 1, σ7, H7, I7.unpinned, T.keep _ _ _ st5 fun b hb o e => (I7.pin (b, o) (List.mem_append_right _ (List.mem_append_right _ (mem_pinsAt hb e)))).1, fun b hb => ?_, w7⟩
        obtain ⟨o, e, d⟩ := T.obj _ _ st5 b hb
        exact (I7.pin (b, o) (List.mem_append_right _ (List.mem_append_right _ (mem_pinsAt hb e)))).2.1
      refine up (thn (ht' _ s6 σ6 H6 _ I6 q6) fun ok s7 ⟨H7, I7, q7⟩ => ?_)
      cases ok with
      | false =>
        rw [if_neg Bool.false_ne_true] at q7 ⊢
        exact again I7 q7
      | true =>
        rw [if_pos rfl] at q7 ⊢
        refine up (thn (he' _ s7 σ6 H7 _ I7 q7) fun v s8 ⟨y, H8, I8, r8, ys, hy, hz, w8⟩ => ?_)
        exact up (thn (mt_append _ s8 σ6 H8 (.ref s.heap.objs.size) [y] (.ref s.heap.objs.size) [v] (fun _ H9 => H9 = upd H8 s.heap.objs.size (.lst (ys ++ [y]))) I8 rfl (.cons r8 .nil) ⟨_, ys, y, rfl, rfl, hy, hz, rfl⟩) fun _ s9 ⟨_, H9, I9, _, e9⟩ => by subst e9; exact again I9 w8)
  exact codeAny_compStart_list loop (T.self _ 0 _ _ _ st1 loop)
theorem pe_lc (hc : X.calm = true) (L : LcOk X sc N own ix) (hi : PI X tg iter wi) (hg : ∀ cl C fp s H, PG (lcx X sc N cl C fp s H) tg g) (ht : ∀ cl C fp s H, PTs (lcx X sc N cl C fp s H) ifs tc)
    (he : ∀ cl C fp s H, PE (lcx X sc N cl C fp s H) elt te) (hs : ∀ x, foldedSetIterable iter X.env x = pure x := by intro _; rfl) : PE X (.ListComp elt [⟨tg, iter, ifs, 0⟩] sc pos) (tLc own ix wi g tc te) := by
  intro pins s σ H Q I h
  obtain ⟨cl, ecl, c1, c2⟩ := clos_ok (env := X.env) (sc := sc) fun x hx hf => I.ok.has x.1 (L.free x hx hf)
  rw [eval_ListComp]
  refine wpAny_comprehension_free (use := none) rfl hs ecl L.kind L.names (thn (hi pins s σ H _ I h) fun xv s₁ h₁ => thn h₁ fun itv s₂ h₂ => ?_)
  obtain ⟨it, fp, tn, J, H2, e, I2, T, st2, f2, q⟩ := h₂
  subst e
  refine lc_run (Q := Q) hc L I2 T st2 f2 c1 c2 hg ht he q fun D C cs s' σ' H' I' q' => ?_
  obtain ⟨m, hn, _⟩ := I'.loc
  exact ⟨m, hn, fun h' sb => ⟨.ref D, H', lc_back I2 I' f2 sb, rfl, q'⟩⟩
/-- x = [..] where the store comes ahead of the block's end -/
theorem ps_setLc {i : Nat} {x : Str} {pos' spos : Pos} (hc : X.calm = true) (hN : X.N.Nodup) (hix : X.N[i]? = some x) (hx : X.env.scope.names.lookup x = some .local) (L : LcOk X sc N own ix) (hi : PI X tg iter wi)
    (hg : ∀ cl C fp s H, PG (lcx X sc N cl C fp s H) tg g) (ht : ∀ cl C fp s H, PTs (lcx X sc N cl C fp s H) ifs tc) (he : ∀ cl C fp s H, PE (lcx X sc N cl C fp s H) elt te)
    (hsw : swapsWith (.ListComp elt [⟨tg, iter, ifs, 0⟩] sc pos) (some (.Name x pos')) spos.line X.env = pure true := by rfl)
    (hs : ∀ x, foldedSetIterable iter X.env x = pure x := by intro _; rfl) : PS X (.Assign [.Name x pos'] (.ListComp elt [⟨tg, iter, ifs, 0⟩] sc pos) spos) (tAsg (tLc own ix wi g tc te) (gName i)) := by
  intro pins s σ H Df I h
  obtain ⟨cl, ecl, c1, c2⟩ := clos_ok (env := X.env) (sc := sc) fun x hx hf => I.ok.has x.1 (L.free x hx hf)
  rw [exec_Assign_Name_used _ _ _ _ hsw]
  refine wpAny_bind (wpAny_standAt (wpAny_bind ?_))
  show wpAny _ X.A (do let _ ← comprehension (.ListComp elt [⟨tg, iter, ifs, 0⟩] sc pos) sc X.env _ (newList []) false (eval iter X.env) (some (assign (.Name x pos') X.env))) _ _ s
  refine wpAny_bind (wpAny_mono (wpAny_comprehension_free (use := some (assign (.Name x pos') X.env)) (Q := fun _ s' => SP X pins Df .next s') rfl hs ecl L.kind L.names
    (thn (hi pins s σ H _ I h) fun xv s₁ h₁ => thn h₁ fun itv s₂ h₂ => ?_)) (fun _ s' hq => wpAny_pure (wpAny_pure hq)) fun _ _ e => e)
  obtain ⟨it, fp, tn, J, H2, e, I2, T, st2, f2, q⟩ := h₂
  subst e
  refine lc_run hc L I2 T st2 f2 c1 c2 hg ht he q fun D C cs s' σ' H' I' q' => ?_
  obtain ⟨m, hn, _⟩ := I'.loc
  have I3 : Inv X pins σ H' s' := lc_back I2 I' f2 (h' := s'.heap) (Heap.SameBut.refl ..)
  have hC : C ≠ X.env.locals := Nat.ne_of_gt (Nat.lt_of_lt_of_le I2.lt I'.ok.above)
  refine wpAny_assign_Name (store_ok2 I3 hN hix (.inl hx) (show RelV (.ref D) (.ref D) from rfl) (fun s'' I4 ⟨a, sb, ha⟩ => ?_) (.inr hx))
  have haC : C ≠ a := by
    rcases ha with z | z
    · rw [z]; exact hC
    · obtain ⟨v, z'⟩ := I2.cell x a z
      exact Nat.ne_of_gt (Nat.lt_of_lt_of_le z'.lt I'.ok.above)
  have hn' : s''.heap.Ns C m := hn.at' fun o e => (sb.2 C haC).trans e
  refine ⟨m, hn', fun h' sb' => ⟨_, H', ?_, q'⟩⟩
  have hlt : ∀ b, b < s₂.heap.objs.size → b ≠ C := fun b hb => Nat.ne_of_lt (Nat.lt_of_lt_of_le hb I'.ok.above)
  refine I4.call' (s' := { s'' with heap := h' }) (ch := [C]) rfl ⟨fun b o e n _ hb => ?_, fun b o e n _ hb => ?_, fun b o e n _ => n, fun b o e hb => ?_, fun _ _ e => e, fun _ _ _ e => e, fun b ps e => ⟨#[], by rw [e]; simp⟩⟩
    (hok_but I4.hok I'.free sb') I4.bare (fun b hb => ?_)
  · exact (sb'.2 b (by simpa using hb)).trans e
  · exact ⟨o.slots, (sb'.2 b (by simpa using hb)).trans e⟩
  · exact ⟨o, (sb'.2 b (by simpa using hb)).trans e⟩
  · have e : b = C := by simpa using hb
    subst e
    refine ⟨.inr (Nat.le_trans I2.sz I'.ok.above), hC, fun y c e z => ?_, fun p hp z => ?_⟩
    · obtain ⟨v, z'⟩ := I2.cell y c e
      exact hlt c z'.lt z
    · exact hlt p.1 (Heap.lt_size (I2.pin p hp).1) z
end
/-! ### the forms one uses -/
theorem lc_range {D : Addr} {lo : Int} {n : Nat} {g : TG} {tc : TT} {te : TE} {Q : VK} {σ : St} {H : Hp} (Pv : Nat → St → Hp → Prop) (h0 : Pv 0 σ H)
    (hs : ∀ i σ H, i < n → Pv i σ H → g (.int (lo + i)) σ H fun σ2 H2 => tc σ2 H2 fun b H3 => if b = true then te σ2 H3 fun v H4 => ∃ ys, H4 D = some (.lst ys) ∧ ys.length < sizeLine ∧ Pv (i + 1) σ2 (upd H4 D (.lst (ys ++ [v]))) else Pv (i + 1) σ2 H3)
    (hd : ∀ σ H, Pv n σ H → Q (.ref D) H) : ∃ W : Nat → Nat → St → Hp → Prop, (∃ m, W 0 m σ H) ∧ LcW D (Itr lo n) g tc te Q W := by
  refine ⟨fun i m σ H => m = n - i ∧ i ≤ n ∧ Pv i σ H, ⟨n, by simp, Nat.zero_le _, h0⟩, ?_⟩
  rintro i m σ H ⟨rfl, hi, p⟩
  by_cases hlt : i < n
  · refine .inr ⟨hlt, Pv (i + 1), fun σ' H' p' => ⟨n - (i + 1), by omega, rfl, hlt, p'⟩, fun x H' y => ?_⟩
    obtain ⟨e, y⟩ := y
    subst e y
    exact hs i σ _ hlt p
  · have e : i = n := by omega
    subst e
    exact .inl ⟨Nat.le_refl _, hd σ H p⟩
theorem lc_list {K : PySem.W.Frag} {D a : Addr} {xs : List V} {g : TG} {tc : TT} {te : TE} {Q : VK} {σ : St} {H : Hp} (Pv : Nat → St → Hp → Prop) (h0 : Pv 0 σ H) (hl : ∀ i σ H, i ≤ xs.length → Pv i σ H → SqL K H a xs)
    (hs : ∀ i x σ H, xs[i]? = some x → Pv i σ H → g x σ H fun σ2 H2 => tc σ2 H2 fun b H3 => if b = true then te σ2 H3 fun v H4 => ∃ ys, H4 D = some (.lst ys) ∧ ys.length < sizeLine ∧ Pv (i + 1) σ2 (upd H4 D (.lst (ys ++ [v]))) else Pv (i + 1) σ2 H3)
    (hd : ∀ σ H, Pv xs.length σ H → Q (.ref D) H) : ∃ W : Nat → Nat → St → Hp → Prop, (∃ m, W 0 m σ H) ∧ LcW D (Itl K a) g tc te Q W := by
  refine ⟨fun i m σ H => m = xs.length - i ∧ i ≤ xs.length ∧ Pv i σ H, ⟨xs.length, by simp, Nat.zero_le _, h0⟩, ?_⟩
  rintro i m σ H ⟨rfl, hi, p⟩
  have q := hl i σ H hi p
  by_cases hlt : i < xs.length
  · refine .inr ⟨⟨xs, xs[i], q, by simp [hlt]⟩, Pv (i + 1), fun σ' H' p' => ⟨xs.length - (i + 1), by omega, rfl, hlt, p'⟩, fun x H' y => ?_⟩
    obtain ⟨e, y⟩ := y
    subst e
    exact hs i x σ _ (y xs q) p
  · have e : i = xs.length := by omega
    subst e
    exact .inl ⟨⟨xs, q, Nat.le_refl _⟩, hd σ H p⟩

/-! ### terms that only look: the value, and a heap that may have grown -/
def Ev (t : TE) (σ : St) (H : Hp) (v : V) : Prop := ∀ Q : VK, (∀ H', Same H H' → Q v H') → t σ H Q
def EvT (t : TT) (σ : St) (H : Hp) (b : Bool) : Prop := ∀ Q : Bool → Hp → Prop, (∀ H', Same H H' → Q b H') → t σ H Q
theorem evYes {σ : St} {H : Hp} : EvT tYes σ H true := fun _ q => q H (Same.refl H)
theorem filter_snoc {α : Type} (l : List α) (x : α) (p : α → Bool) : (l ++ [x]).filter p = l.filter p ++ (if p x = true then [x] else []) := by
  rw [List.filter_append]; cases h : p x <;> simp [h]
/-- one own name (slot 0), the rest as captured; a range -/
theorem lc_range_ev {D : Addr} {lo : Int} {n : Nat} {tc : TT} {te : TE} {Q : VK} {cap : St} {H : Hp} (p : Nat → Bool) (f : Nat → V) (hn : n < sizeLine) (hD : H D = none)
    (ht : ∀ i H', i < n → Same H H' → EvT tc (some (.int (lo + i)) :: cap) H' (p i)) (he : ∀ i H', i < n → p i = true → Same H H' → Ev te (some (.int (lo + i)) :: cap) H' (f i))
    (hd : ∀ H', Same H H' → H' D = some (.lst (((List.range n).filter p).map f)) → Q (.ref D) H') :
    ∃ W : Nat → Nat → St → Hp → Prop, (∃ m, W 0 m (none :: cap) (upd H D (.lst []))) ∧ LcW D (Itr lo n) (gName 0) tc te Q W := by
  have same : ∀ {H' : Hp} {o : HO}, Same H H' → Same H (upd H' D o) := fun s b o e => by rw [upd_ne (ne_of_none e hD)]; exact s b o e
  refine lc_range (fun i σ H' => ∃ v, σ = v :: cap ∧ Same H H' ∧ H' D = some (.lst (((List.range i).filter p).map f))) ⟨none, rfl, same (Same.refl H), upd_same⟩ ?_ fun σ H' ⟨_, _, s, e⟩ => hd H' s e
  rintro i σ H' hi ⟨v, rfl, s, e⟩
  refine ht i H' hi s _ fun H3 s3 => ?_
  have e3 := s3 D _ e
  cases hp : p i with
  | false =>
    refine (if_neg Bool.false_ne_true).mpr ⟨_, rfl, s.trans s3, ?_⟩
    rw [e3, List.range_succ, filter_snoc, hp]; simp
  | true =>
    refine (if_pos rfl).mpr ?_
    refine he i H3 hi hp (s.trans s3) _ fun H4 s4 => ⟨_, s4 D _ e3, ?_, _, rfl, same ((s.trans s3).trans s4), ?_⟩
    · have l1 := List.length_filter_le p (List.range i)
      rw [List.length_range] at l1
      rw [List.length_map]; omega
    · rw [upd_same, List.range_succ, filter_snoc, hp]; simp
/-- .. a list -/
theorem lc_list_ev {K : PySem.W.Frag} {D a : Addr} {xs : List V} {tc : TT} {te : TE} {Q : VK} {cap : St} {H : Hp} (p : V → Bool) (f : V → V) (hn : xs.length < sizeLine) (hD : H D = none) (hl : SqL K H a xs)
    (ht : ∀ x H', x ∈ xs → Same H H' → EvT tc (some x :: cap) H' (p x)) (he : ∀ x H', x ∈ xs → p x = true → Same H H' → Ev te (some x :: cap) H' (f x))
    (hd : ∀ H', Same H H' → H' D = some (.lst ((xs.filter p).map f)) → Q (.ref D) H') :
    ∃ W : Nat → Nat → St → Hp → Prop, (∃ m, W 0 m (none :: cap) (upd H D (.lst []))) ∧ LcW D (Itl K a) (gName 0) tc te Q W := by
  have same : ∀ {H' : Hp} {o : HO}, Same H H' → Same H (upd H' D o) := fun s b o e => by rw [upd_ne (ne_of_none e hD)]; exact s b o e
  refine lc_list (fun i σ H' => ∃ v, σ = v :: cap ∧ Same H H' ∧ H' D = some (.lst (((xs.take i).filter p).map f))) ⟨none, rfl, same (Same.refl H), by rw [upd_same]; rfl⟩ (fun i σ H' _ ⟨_, _, s, _⟩ => s.seq hl) ?_ fun σ H' ⟨_, _, s, e⟩ => hd H' s (by rw [e, List.take_length])
  rintro i x σ H' hi ⟨v, rfl, s, e⟩
  have hm := List.mem_of_getElem? hi
  refine ht x H' hm s _ fun H3 s3 => ?_
  have e3 := s3 D _ e
  have et : xs.take (i + 1) = xs.take i ++ [x] := by rw [List.take_add_one, hi]; rfl
  cases hp : p x with
  | false =>
    refine (if_neg Bool.false_ne_true).mpr ⟨_, rfl, s.trans s3, ?_⟩
    rw [e3, et, filter_snoc, hp]; simp
  | true =>
    refine (if_pos rfl).mpr ?_
    refine he x H3 hm hp (s.trans s3) _ fun H4 s4 => ⟨_, s4 D _ e3, ?_, _, rfl, same ((s.trans s3).trans s4), ?_⟩
    · have l1 := List.length_filter_le p (xs.take i)
      have l2 : (xs.take i).length ≤ xs.length := by rw [List.length_take]; omega
      rw [List.length_map]; omega
    · rw [upd_same, et, filter_snoc, hp]; simp
end L2

set_option Elab.async false
set_option linter.all false
set_option maxRecDepth 100000
set_option maxHeartbeats 4000000
/-! More rules over the layer: == of lists, sum, max, min, isinstance, enumerate. -/
namespace L2
open PySem PySem.Spec PyProof.Rows
section
variable {X : Cx}
/-! ### == and != of two lists of flat things -/
def eqVs (xs ys : List V) : Bool := decide (xs.length = ys.length) && (List.range xs.length).all fun j => eqV (xs.getD j .non) (ys.getD j .non)
def rEqL (K : PySem.W.Frag) (neg : Bool) : R2 := fun x y H Q => ∃ a b xs ys, x = .ref a ∧ y = .ref b ∧ SqL K H a xs ∧ SqL K H b ys ∧ (xs.length = ys.length → xs.all flatV = true ∧ ys.all flatV = true) ∧ Q (.bl (if neg then !eqVs xs ys else eqVs xs ys)) H
theorem all_flat {xs : List V} {j : Nat} (h : xs.all flatV = true) (hj : j < xs.length) : flatV (xs.getD j .non) = true := by
  rw [List.getD_eq_getElem?_getD, List.getElem?_eq_getElem hj, Option.getD_some]
  exact List.all_eq_true.mp h _ (List.getElem_mem hj)
theorem eqL_go {A : Around} {s : Shared} {xs ys : List V} {us ws : List Value} (r : Vals xs us) (q : Vals ys ws) (fx : xs.all flatV = true) (fy : ys.all flatV = true) (j : Nat) (h1 : j < us.toArray.size) (h2 : j < ws.toArray.size) :
    SeqAt.EqAt A s us.toArray[j] ws.toArray[j] (eqV (xs.getD j .non) (ys.getD j .non)) := by
  have hx : j < xs.length := by rw [r.length]; simpa using h1
  have hy : j < ys.length := by rw [q.length]; simpa using h2
  obtain ⟨u, eu, ru⟩ := r.get (i := j) (x := xs.getD j .non) (by rw [List.getD_eq_getElem?_getD, List.getElem?_eq_getElem hx]; rfl)
  obtain ⟨w, ew, rw'⟩ := q.get (i := j) (x := ys.getD j .non) (by rw [List.getD_eq_getElem?_getD, List.getElem?_eq_getElem hy]; rfl)
  have e1 : us.toArray[j] = u := by
    have := List.getElem?_eq_getElem (l := us) (i := j) (by simpa using h1)
    rw [eu] at this
    simpa using (Option.some.inj this).symm
  have e2 : ws.toArray[j] = w := by
    have := List.getElem?_eq_getElem (l := ws) (i := j) (by simpa using h2)
    rw [ew] at this
    simpa using (Option.some.inj this).symm
  rw [e1, e2]
  exact eqAt_V ru rw' (all_flat fx hx) (all_flat fy hy)
theorem op_eqL (hu : X.A.units < cLine) : OpR X (compareOp .Eq) (rEqL X.K false) := by
  intro pins s σ H x y v u Q I rx ry h
  obtain ⟨a, b, xs, ys, rfl, rfl, ha, hb, hf, q⟩ := h
  cases rx
  cases ry
  obtain ⟨us, r1, p1, _⟩ := I.list ha
  obtain ⟨ws, r2, p2, _⟩ := I.list hb
  have l1 := r1.length
  have l2 := r2.length
  by_cases hl : xs.length = ys.length
  · obtain ⟨fx, fy⟩ := hf hl
    refine SeqAt.eq_listAt (e := fun j => eqV (xs.getD j .non) (ys.getD j .non)) p1.isList p2.isList (by simp only [List.size_toArray]; omega) hu (fun j h1 h2 => eqL_go r1 r2 fx fy j h1 h2) ⟨.bl _, H, I, rfl, ?_⟩
    have e : eqVs xs ys = (List.range us.toArray.size).all fun j => eqV (xs.getD j .non) (ys.getD j .non) := by
      unfold eqVs; rw [decide_eq_true hl, Bool.true_and, l1, List.size_toArray]
    rw [← e]; exact q
  · refine SeqAt.eq_list_lengthsAt p1.isList p2.isList (by simp only [List.size_toArray, bne_iff_ne, ne_eq]; omega) hu ⟨.bl _, H, I, rfl, ?_⟩
    have e : eqVs xs ys = false := by unfold eqVs; rw [decide_eq_false hl, Bool.false_and]
    rw [e] at q; exact q
theorem op_neL (hu : X.A.units < cLine) : OpR X (compareOp .NotEq) (rEqL X.K true) := by
  intro pins s σ H x y v u Q I rx ry h
  obtain ⟨a, b, xs, ys, rfl, rfl, ha, hb, hf, q⟩ := h
  cases rx
  cases ry
  obtain ⟨us, r1, p1, _⟩ := I.list ha
  obtain ⟨ws, r2, p2, _⟩ := I.list hb
  have l1 := r1.length
  have l2 := r2.length
  by_cases hl : xs.length = ys.length
  · obtain ⟨fx, fy⟩ := hf hl
    refine SeqAt.RcNeAt.lists (e := fun j => eqV (xs.getD j .non) (ys.getD j .non)) p1.isList p2.isList (by simp only [List.size_toArray]; omega) hu (fun j h1 h2 => eqL_go r1 r2 fx fy j h1 h2) _ _ _ _ ⟨.bl _, H, I, rfl, ?_⟩
    have e : eqVs xs ys = (List.range us.toArray.size).all fun j => eqV (xs.getD j .non) (ys.getD j .non) := by
      unfold eqVs; rw [decide_eq_true hl, Bool.true_and, l1, List.size_toArray]
    rw [← e]; exact q
  · refine SeqAt.RcNeAt.lists_lengths p1.isList p2.isList (by simp only [List.size_toArray, bne_iff_ne, ne_eq]; omega) hu _ _ _ _ ⟨.bl _, H, I, rfl, ?_⟩
    have e : eqVs xs ys = false := by unfold eqVs; rw [decide_eq_false hl, Bool.false_and]
    rw [e] at q; exact q
theorem flat_ints (ns : List Int) : (ns.map V.int).all flatV = true := by rw [List.all_eq_true]; intro x hx; obtain ⟨n, _, rfl⟩ := List.mem_map.mp hx; rfl
/-- a list and the empty one -/
theorem eqNil {K : PySem.W.Frag} {H : Hp} {Q : VK} {a b : Addr} {xs : List V} (ha : SqL K H a xs) (hb : SqL K H b []) (q : Q (.bl (decide (xs = []))) H) : rEqL K false (.ref a) (.ref b) H Q := by
  refine ⟨a, b, _, _, rfl, rfl, ha, hb, fun h => ?_, ?_⟩
  · have : xs = [] := List.length_eq_zero_iff.mp h
    subst this; exact ⟨rfl, rfl⟩
  · have e : eqVs xs [] = decide (xs = []) := by
      cases xs with
      | nil => rfl
      | cons x r => rfl
    rw [e]; exact q
/-! ### sum, max, min of a list of ints -/
/-! ### isinstance(x, a built-in class) -/
theorem call_isinst : CallR X (.builtin "isinstance") (fun xs H Q => ∃ (x : V) (T : String) (t : Value) (b : Bool), xs = [x, .ty T] ∧ TyOf X.K H x t ∧ PySem.W.kitOne X.K t (.type T) = some b ∧ Q (.bl b) H) := by
  intro pins s σ H xs us Q I r h
  obtain ⟨x, T, t, b, rfl, ty, e, q⟩ := h
  obtain ⟨u, w, rfl, ru, rw'⟩ := vals2 r
  cases (show w = Value.type T from rw')
  exact isinst_ok I ru ty e fun tk => ⟨.bl b, H, I.tok tk, rfl, q⟩
theorem kit_same {K : PySem.W.Frag} {t : Value} : PySem.W.kitOne K t t = some true := by unfold PySem.W.kitOne; rw [if_pos (beq_self_eq_true t)]
theorem kit_ty {K : PySem.W.Frag} {T U : String} {b : Bool} (hne : (Value.type T == Value.type U) = false) (hm : PySem.W.kitMeta U = true) (hs : (fastBuiltinMro T).map (·.contains (Value.type U)) = some b) : PySem.W.kitOne K (.type T) (.type U) = some b := by
  unfold PySem.W.kitOne
  rw [if_neg (by rw [hne]; exact Bool.false_ne_true)]
  unfold PySem.W.kitCls
  dsimp only
  rw [if_pos hm]
  exact hs
theorem boot_bool' : bootBuiltins "bool" = some (.type "bool") := by decide +kernel
theorem boot_int' : bootBuiltins "int" = some (.type "int") := by decide +kernel
theorem boot_list' : bootBuiltins "list" = some (.type "list") := by decide +kernel
theorem boot_isinst' : bootBuiltins "isinstance" = some (.builtin "isinstance") := by decide +kernel
theorem boot_max' : bootBuiltins "max" = some (.builtin "max") := by decide +kernel
/-! ### enumerate over a list, its tuples let go by the target -/
def Ite (K : PySem.W.Frag) (a : Addr) : It :=
  ⟨fun i H => ∃ xs x, SqL K H a xs ∧ xs[i]? = some x, fun i H x H' => ∃ p y, H p = none ∧ x = .ref p ∧ (∀ xs, SqL K H a xs → xs[i]? = some y) ∧ H' = upd H p (.tup [.int i, y]), fun i H => ∃ xs, SqL K H a xs ∧ xs.length ≤ i⟩
/-- records at ch turned, a tuple laid -/
theorem Inv.turnedT {pins : List (Addr × Obj)} {σ : St} {H : Hp} {s : Shared} {ch : List Addr} {h' : Heap} {t' : Nat} {p : Addr} {xs : List V} (I : Inv X pins σ H s) (hf : ∀ b ∈ ch, FpOk X pins H b)
    (k : ∀ b o, b ∉ ch → s.heap.get? b = some o → h'.get? b = some o) (hp : s.heap.objs.size ≤ p) (new : ObjOk X.prog X.w (upd H p (.tup xs)) h' p (.tup xs)) : Inv X pins σ (upd H p (.tup xs)) { s with heap := h', toks := t' } := by
  have hpn : H p = none := I.hok.fresh hp
  have nch : ∀ b o, H b = some o → b ∉ ch := fun b o e z => by rw [(hf b z).1] at e; cases e
  have up : ∀ b o, H b = some o → upd H p (.tup xs) b = some o := fun b o e => by rw [upd_ne (ne_of_none e hpn)]; exact e
  have lt : ∀ b o, s.heap.get? b = some o → b ≠ p := fun b o e => Nat.ne_of_lt (Nat.lt_of_lt_of_le (Heap.lt_size e) hp)
  refine I.step (g' := s.gens) (d' := s.drawn) (ch := ch) (fun b hb => ?_) (fun b o _ _ hc e _ => k b o hc e) (fun b o _ _ hc e _ => ⟨o.slots, k b o hc e⟩) (fun b o _ e n => by rw [upd_ne (lt b o e)]; exact n)
    (fun b o hc e => ⟨o, k b o hc e⟩) (fun b ys e => up b _ e) (fun b o u e => up b _ e) (fun b ps e => ⟨#[], by rw [up b _ e]; simp⟩) (fun m hm => ?_) (fun b u e => ?_) I.bare
  · obtain ⟨_, f1, _, f3, f4, f5⟩ := hf b hb
    exact ⟨f3, f1, f4, f5⟩
  · obtain ⟨o, es, ep, ho, r⟩ := hm
    exact ⟨o, es, ep, k _ o (fun z => (hf _ z).2.1 rfl) ho, r⟩
  · by_cases hb : b = p
    · subst hb; rw [upd_same] at e; cases e; exact new
    · rw [upd_ne hb] at e
      refine (I.hok b u e).stay (fun c v hc q => k c v ?_ q) (fun c q => up c _ q) fun c ys q => up c _ q
      rcases hc with z | z
      · rw [z]; exact nch b u e
      · exact nch c _ z
theorem turn_enum {P : Program} {w : World} {K : PySem.W.Frag} {elts : List Expr} {x1 : Nat} {tp : Pos} (a e it : Addr) (hne : e ≠ it) :
    Turn P w K (.Tuple elts x1 tp) (Ite K a) [e, it] e (fun i h => (∃ old, IsEnum h e it i old) ∧ h.IsListIter it a i) where
  mem := by simp
  obj := fun i h st b hb => by
    obtain ⟨⟨old, he⟩, ⟨o, e1, c, d⟩⟩ := st
    rcases List.mem_cons.mp hb with z | z
    · subst z; exact ⟨_, he, fun v z => by cases z⟩
    · have z : b = it := by simpa using z
      subst z; exact ⟨o, e1, fun v z => by rw [d] at z; cases z⟩
  keep := fun i h h' st k => by
    obtain ⟨⟨old, he⟩, st⟩ := st
    exact ⟨⟨old, k e (by simp) _ he⟩, st.at fun o q => k it (by simp) o q⟩
  item := by
    intro X hP hw hK hc i pins s σ H E I hf st hg
    subst hP hw hK
    obtain ⟨xs, x, hq, hx⟩ := hg
    obtain ⟨its, rv, p, hz⟩ := I.list hq
    obtain ⟨u, hu, ru⟩ := rv.get hx
    obtain ⟨⟨old, he⟩, hit⟩ := st
    refine wpAny_pyNext_enum_item he hit p.isList (x := u) (by simpa using hu) hne fun h' ho hit' ht hsz hk => ?_
    refine ⟨_, rfl, wpAny_letOwnedTupleGo_enum ho fun h2 he2 sb => ?_⟩
    have helt : e < s.heap.objs.size := Heap.lt_size he
    have hT2 : h2.get? s.heap.objs.size = some { cls := .type "tuple", data := .seq #[.int i s.toks, u] } := (sb.2 _ (Nat.ne_of_gt helt)).trans ht
    have hpn : H s.heap.objs.size = none := I.hok.fresh (Nat.le_refl _)
    refine ⟨.ref s.heap.objs.size, upd H s.heap.objs.size (.tup [.int i, x]), ?_, rfl, ⟨_, x, hpn, rfl, fun ys hy => by rw [I.list_inj hy hq]; exact hx, rfl⟩, ⟨⟨u, by simpa using he2⟩, hit'.at fun o q => (sb.2 it hne.symm).trans q⟩, fun b hb => ?_⟩
    · refine I.turnedT (ch := [e, it]) hf (fun b o hb q => ?_) (Nat.le_refl _) ⟨by show 2 ≤ sizeLine; decide, [.int i s.toks, u], .cons ⟨_, rfl⟩ (.cons ru .nil), ⟨_, hT2, rfl, _, rfl⟩⟩
      have hbe : b ≠ e := fun z => hb (by simp [z])
      have hbi : b ≠ it := fun z => hb (by simp [z])
      exact (sb.2 b hbe).trans (hk b o hbe hbi q)
    · have hbn := (hf b hb).1
      have hbl : b < s.heap.objs.size := by
        rcases List.mem_cons.mp hb with z | z
        · rw [z]; exact helt
        · have z : b = it := by simpa using z
          rw [z]; obtain ⟨o, q, _⟩ := hit; exact Heap.lt_size q
      rw [upd_ne (Nat.ne_of_lt hbl)]; exact hbn
  done := by
    intro X hP hw hK hc i pins s σ H E I hf st hg
    subst hP hw hK
    obtain ⟨xs, hq, hx⟩ := hg
    obtain ⟨its, rv, p, hz⟩ := I.list hq
    obtain ⟨⟨old, he⟩, hit⟩ := st
    obtain ⟨f0, f1, f2, f3, f4, f5⟩ := hf it (by simp)
    have hl := rv.length
    exact wpAny_pyNext_enum_end (I.ok.hd hc) he hit p.isList (by simp; omega) fun h' eb => ⟨rfl, I.turned (t' := s.toks) (fun b o hb q => eb b o hb q) f0 f1 f3 f4 f5⟩
  self := fun _ _ _ _ _ st h => by
    obtain ⟨⟨old, he⟩, _⟩ := st
    exact wpAny_pyIter_enum he h
def iEnum (K : PySem.W.Frag) (ta : TA) : TI := fun σ H R => ta σ H fun vs H1 => ∃ a, vs = [.ref a] ∧ (∃ xs, SqL K H1 a xs) ∧ R (Ite K a) H1
theorem pi_enum {e : Expr} {ta : TA} {p pos tp : Pos} {elts : List Expr} {x1 : Nat} (hg : Gl X "enumerate") (hm : X.mg "enumerate" = none) (ha : PA X [e] ta) (hs : starEach [e] X.env = [(false, eval e X.env)] := by rfl) :
    PI X (.Tuple elts x1 tp) (.Call (.Name "enumerate" p) [e] [] pos) (iEnum X.K ta) := by
  intro pins s σ H R I h
  refine Call_ (ld_blt I hg hm boot_enumerate (PyProof.Rows.callWith_type1 (thn (ha pos pins s σ H _ I h) fun us s1 ⟨vs, H1, I1, r1, q1⟩ => ?_) hs rfl))
  obtain ⟨a, e, ⟨xs, hq⟩, q⟩ := q1
  subst e
  obtain ⟨u, rfl, ru⟩ := vals1 r1
  cases ru
  obtain ⟨its, rv, pl, hz⟩ := I1.list hq
  refine call_enumerate_list pl.isList fun h' he hit hsz hk => ?_
  have I2 : Inv X pins σ H1 { s1 with heap := h' } := I1.kept (t' := s1.toks) hk
  refine wpAny_pyIter_enum he ?_
  refine ⟨_, [s1.heap.objs.size + 1, s1.heap.objs.size], _, _, H1, rfl, I2, turn_enum a _ s1.heap.objs.size (Nat.succ_ne_self _), ⟨⟨.none, he⟩, hit⟩, fun b hb => ?_, q⟩
  have hbl : s1.heap.objs.size ≤ b := by
    rcases List.mem_cons.mp hb with z | z
    · rw [z]; exact Nat.le_succ _
    · have z : b = s1.heap.objs.size := by simpa using z
      rw [z]; exact Nat.le_refl _
  exact I1.fpOk hbl (I1.hok.fresh hbl)
end
/-- over enumerate(a list that the body leaves as it is) -/
theorem for_enum {K : PySem.W.Frag} {a : Addr} {xs : List V} {g : TG} {tb : TS} {D : Ends} {σ : St} {H : Hp} (Pv : Nat → St → Hp → Prop) (h0 : Pv 0 σ H) (hl : ∀ i σ H, i ≤ xs.length → Pv i σ H → SqL K H a xs)
    (hs : ∀ i x p σ H, xs[i]? = some x → Pv i σ H → H p = none → g (.ref p) σ (upd H p (.tup [.int i, x])) fun σ2 H2 => tb { D with nx := Pv (i + 1), ct := Pv (i + 1), bk := D.nx } σ2 H2) (hd : ∀ σ H, Pv xs.length σ H → D.nx σ H) :
    ∃ W : Nat → Nat → St → Hp → Prop, (∃ m, W 0 m σ H) ∧ ∀ i m σ H, W i m σ H →
      ((Ite K a).stop i H ∧ D.nx σ H) ∨ ((Ite K a).go i H ∧ ∃ N : St → Hp → Prop, (∀ σ' H', N σ' H' → ∃ m', m' < m ∧ W (i + 1) m' σ' H') ∧ ∀ x H', (Ite K a).yld i H x H' → g x σ H' fun σ2 H2 => tb { D with nx := N, ct := N, bk := D.nx } σ2 H2) := by
  refine ⟨fun i m σ H => m = xs.length - i ∧ i ≤ xs.length ∧ Pv i σ H, ⟨xs.length, by simp, Nat.zero_le _, h0⟩, ?_⟩
  rintro i m σ H ⟨rfl, hi, p⟩
  have q := hl i σ H hi p
  by_cases hlt : i < xs.length
  · refine .inr ⟨⟨xs, xs[i], q, by simp [hlt]⟩, Pv (i + 1), fun σ' H' p' => ⟨xs.length - (i + 1), by omega, rfl, hlt, p'⟩, fun x H' y => ?_⟩
    obtain ⟨pp, z, e1, e2, e3, e4⟩ := y
    subst e2 e4
    exact hs i z pp σ _ (e3 xs q) p e1
  · have e : i = xs.length := by omega
    subst e
    exact .inl ⟨⟨xs, q, Nat.le_refl _⟩, hd σ H p⟩
end L2

set_option Elab.async false
set_option linter.all false
set_option maxRecDepth 100000
set_option maxHeartbeats 4000000
/-! list(enumerate(a list)): every pair is a tuple of its own, since the list keeps it. -/
namespace EnL
open PySem PySem.Calls PyProof.Rows PySem.Spec
section
variable {prog : Program} {w : World} {A : Around} {E : Value → Shared → Prop} {s : Shared}
end
section
variable {prog : Program} {w : World} {A : Around} {s : Shared} {R : Result → Shared → Prop} {items : Array Value}
end
section
variable {prog : Program} {w : World} {A : Around} {E : Value → Shared → Prop} {s : Shared} {items : Array Value} {e it l : Addr} {old : Value}
end
end EnL
namespace L2
open PySem PySem.Spec PyProof.Rows
section
variable {X : Cx}
end
end L2

set_option linter.all false
/-! Last and next places of a row, as plain functions. -/
namespace My
def lastIx (ns : List Int) (x : Int) : Nat → Int
  | 0 => -1
  | k + 1 => if ns.getD k 0 = x then (k : Int) else lastIx ns x k
def lastsM (ns : List Int) : List Int := (List.range ns.length).map fun k => lastIx ns (ns.getD k 0) k
theorem len_lasts (ns : List Int) : (lastsM ns).length = ns.length := by simp [lastsM]
theorem get_lasts {ns : List Int} {k : Nat} (h : k < ns.length) : (lastsM ns)[k]? = some (lastIx ns (ns.getD k 0) k) := by
  simp [lastsM, h]
theorem lastIx_lt (ns : List Int) (x : Int) : ∀ k, -1 ≤ lastIx ns x k ∧ lastIx ns x k < k
  | 0 => ⟨by simp [lastIx], by simp [lastIx]⟩
  | k + 1 => by
    have ih := lastIx_lt ns x k
    unfold lastIx
    split <;> constructor <;> omega
theorem lastIx_at (ns : List Int) (x : Int) : ∀ k, 0 ≤ lastIx ns x k → ns.getD (lastIx ns x k).toNat 0 = x
  | 0, h => by simp [lastIx] at h
  | k + 1, h => by
    unfold lastIx at h ⊢
    split at h
    · rename_i e
      rw [if_pos e]
      simpa using e
    · rename_i e
      rw [if_neg e]
      exact lastIx_at ns x k h
theorem lastIx_max (ns : List Int) (x : Int) : ∀ k j, j < k → ns.getD j 0 = x → (j : Int) ≤ lastIx ns x k
  | 0, j, h, _ => by omega
  | k + 1, j, h, e => by
    unfold lastIx
    split
    · omega
    · rename_i ne
      by_cases hj : j = k
      · subst hj; exact absurd e ne
      · exact lastIx_max ns x k j (by omega) e
theorem lastIx_unique {ns : List Int} {x M : Int} {k : Nat} (h1 : M = -1 ∨ ∃ j : Nat, j < k ∧ ns.getD j 0 = x ∧ M = (j : Int)) (h2 : -1 ≤ M) (h3 : ∀ j : Nat, j < k → ns.getD j 0 = x → (j : Int) ≤ M) : M = lastIx ns x k := by
  have l1 := lastIx_lt ns x k
  have le : M ≤ lastIx ns x k := by
    rcases h1 with h | ⟨j, hj, e, rfl⟩
    · omega
    · exact lastIx_max ns x k j hj e
  by_cases h0 : 0 ≤ lastIx ns x k
  · have e := lastIx_at ns x k h0
    have := h3 (lastIx ns x k).toNat (by omega) e
    omega
  · omega
end My

set_option Elab.async false
set_option linter.all false
set_option maxRecDepth 100000
set_option maxHeartbeats 4000000
/-! Short words of our own: a def that is there, the built-ins that the text leaves alone, heaps that changed at one place. -/
namespace L2
open PySem PySem.Spec PyProof.Rows
/-- the check of a comprehension's names, to be run -/
def lcChk (sc osc : Scope) (oN own N : List Str) (ix : List Nat) : Bool :=
  sc.kind == .function && sc.names.all (fun y => match y.2 with
    | .cell => sc.names.lookup y.1 == some .cell
    | .local => sc.names.lookup y.1 == some .local
    | .free => osc.names.lookup y.1 == some .cell || osc.names.lookup y.1 == some .free
    | _ => true) && decide (N = own ++ ix.map fun i => oN.getD i "") && ix.all fun i => sc.names.lookup (oN.getD i "") == some .free
theorem LcOk.of {X : Cx} {sc : Scope} {N own : List Str} {ix : List Nat} (h : lcChk sc X.env.scope X.N own N ix = true) : LcOk X sc N own ix := by
  unfold lcChk at h
  simp only [Bool.and_eq_true, decide_eq_true_eq, List.all_eq_true] at h
  obtain ⟨⟨⟨h1, h2⟩, h3⟩, h4⟩ := h
  refine ⟨by simpa using h1, fun y hy e => ?_, fun y hy e => ?_, fun y hy e => ?_, h3, fun i hi => by simpa using h4 i hi⟩
  · have := h2 y hy; rw [e] at this; simpa using this
  · have := h2 y hy; rw [e] at this; simpa using this
  · have := h2 y hy; rw [e] at this
    simpa [Env.kindOf] using this
section
/-! the rules whose readings name the written part, with that part said by itself -/
variable {X : Cx} {K : PySem.W.Frag}
theorem ixK (e : X.K = K) : IxR X (rIxL K) := by subst e; exact ix_list
theorem slK (e : X.K = K) : SlR X (rSlL K) := by subst e; exact sl_list
theorem eqLK (e : X.K = K) (hu : X.A.units < cLine) : OpR X (compareOp .Eq) (rEqL K false) := by subst e; exact op_eqL hu
theorem neLK (e : X.K = K) (hu : X.A.units < cLine) : OpR X (compareOp .NotEq) (rEqL K true) := by subst e; exact op_neL hu
theorem lenK (e : X.K = K) : CallR X (.builtin "len") (fun xs H Q => ∃ p ys, xs = [.ref p] ∧ (SqL K H p ys ∨ SqT K H p ys) ∧ Q (.int ys.length) H) := by subst e; exact call_len_seq
theorem listK (e : X.K = K) : CallR X (.type "list") (fun xs H Q => ∃ p ys, xs = [.ref p] ∧ (SqL K H p ys ∨ SqT K H p ys) ∧ ∀ l, H l = none → Q (.ref l) (upd H l (.lst ys))) := by subst e; exact call_list_of
theorem isiK (e : X.K = K) : CallR X (.builtin "isinstance") (fun xs H Q => ∃ (x : V) (T : String) (t : Value) (b : Bool), xs = [x, .ty T] ∧ TyOf K H x t ∧ PySem.W.kitOne K t (.type T) = some b ∧ Q (.bl b) H) := by subst e; exact call_isinst
theorem piK {tg l : Expr} {tl : TE} (e : X.K = K) (hl : PE X l tl) : PI X tg l (iList K tl) := by subst e; exact pi_list hl
theorem pieK {a : Expr} {ta : TA} {p pos tp : Pos} {elts : List Expr} {x1 : Nat} (e : X.K = K) (hg : Gl X "enumerate") (hm : X.mg "enumerate" = none) (ha : PA X [a] ta) (hs : starEach [a] X.env = [(false, eval a X.env)] := by rfl) :
    PI X (.Tuple elts x1 tp) (.Call (.Name "enumerate" p) [a] [] pos) (iEnum K ta) := by subst e; exact pi_enum hg hm ha hs
theorem pgtK {es : List Expr} {k : Nat} {t : TGs} {n : Nat} {pos : Pos} (e : X.K = K) (hc : X.calm = true) (h : PGs X es t) (hn : (assignEach es X.env).length = n := by rfl) (hst : (assignEach es X.env).findIdx? (·.1) = none := by rfl) : PG X (.Tuple es k pos) (gTup K n t) := by subst e; exact pg_tup hc h hn hst
end
/-- the built-ins stand as Python has them -/
structure Blt (mg : Str → Option Value) : Prop where
  len : mg "len" = none
  range : mg "range" = none
  enumerate : mg "enumerate" = none
  list : mg "list" = none
  int : mg "int" = none
  bool : mg "bool" = none
  sum : mg "sum" = none
  max : mg "max" = none
  min : mg "min" = none
  isinstance : mg "isinstance" = none
  set : mg "set" = none
  sorted : mg "sorted" = none
  tuple : mg "tuple" = none
  dict : mg "dict" = none
  abs : mg "abs" = none
  reversed : mg "reversed" = none
  repr : mg "repr" = none
  all : mg "all" = none
  any : mg "any" = none
  zip : mg "zip" = none
/-- a def that is there and keeps its promise -/
structure Has (P : Program) (w : World) (K : PySem.W.Frag) (mg : Str → Option Value) (base : Heap) (x : Str) (k : Nat) (ps : List Str) (sp : Sp) : Prop where
  ex : ∃ f fd, FnOk P w K mg base CX0 k f fd ps sp ∧ mg x = some (.ref f) ∧ PySem.W.keepIn K (.ref f) = true ∧ Binds K fd ps []
theorem pe_callH {X : Cx} {k : Nat} {ps : List Str} {sp : Sp} {x : Str} {p pos : Pos} {e : Expr} {es : List Expr} {t : TA} (h : Has X.prog X.w X.K X.mg X.base x k ps sp) (hr : Room k X.A) (hg : Gl X x) (ha : PA X (e :: es) t)
    (hdb : (x == ("__debug__" : Str)) = false := by decide) (he : starEach (e :: es) X.env = (false, eval e X.env) :: starEach es X.env := by rfl) (hpl : (backTo pos (starEach es X.env)).any (·.1) = false := by rfl) :
    PE X (.Call (.Name x p) (e :: es) [] pos) (tCall sp [] E0 t) := by
  obtain ⟨f, fd, F, hm, hk, hb⟩ := h.ex
  exact pe_call F hr hg hm hk hb .nil pass0 ha hdb he hpl
/-- all but what stands at h is as it was -/
def SameX (h : Addr) (H H' : Hp) : Prop := ∀ b o, b ≠ h → H b = some o → H' b = some o
theorem SameX.trans {h : Addr} {H H1 H2 : Hp} (a : SameX h H H1) (b : SameX h H1 H2) : SameX h H H2 := fun c o n e => b c o n (a c o n e)
theorem Same.x {h : Addr} {H H1 : Hp} (a : Same H H1) : SameX h H H1 := fun c o _ e => a c o e
theorem Same.fresh {H H1 : Hp} {p : Addr} {o : HO} (a : Same H H1) (hp : H p = none) : Same H (upd H1 p o) := fun c u e => by
  rw [upd_ne (ne_of_none e hp)]; exact a c u e
theorem Same.new {H : Hp} {p : Addr} {o : HO} (hp : H p = none) : Same H (upd H p o) := (Same.refl H).fresh hp
theorem SameX.free {h : Addr} {H H' : Hp} (e : SameX h H H') {l : Addr} (n : l ≠ h) (q : H' l = none) : H l = none := by
  cases z : H l with
  | none => rfl
  | some o => rw [e l o n z] at q; cases q
theorem atI_int {ns : List Int} {r : Int} (h0 : 0 ≤ r) (h1 : r < ns.length) : atI (ns.map V.int) r = some (.int (ns.getD r.toNat 0)) := by
  have e : r = (r.toNat : Int) := by omega
  have hl : r.toNat < ns.length := by omega
  have : atI (ns.map V.int) (r.toNat : Int) = some (.int (ns.getD r.toNat 0)) := atI_nat (by rw [List.getElem?_map, List.getElem?_eq_getElem hl, List.getD_eq_getElem?_getD, List.getElem?_eq_getElem hl]; rfl)
  rw [← e] at this; exact this
theorem ixN_int {n : Nat} {r : Int} (h0 : 0 ≤ r) (h1 : r < n) : ixN n r = some r.toNat := by unfold ixN; rw [if_pos h0, if_pos h1]
theorem cutV_take (xs : List V) (m : Nat) : cutV xs none (some (m : Int)) = xs.take m := by
  unfold cutV
  rw [HT.sIx_nat, HT.sIx_none, List.drop_zero, Nat.sub_zero]
  by_cases h : m ≤ xs.length
  · rw [Nat.min_eq_left h]
  · rw [Nat.min_eq_right (by omega), List.take_of_length_le (Nat.le_refl _), List.take_of_length_le (by omega)]
theorem cutV_drop (xs : List V) (m : Nat) : cutV xs (some (m : Int)) none = xs.drop m := by
  unfold cutV
  rw [HT.sIx_nat, HT.sIx_none]
  by_cases h : m ≤ xs.length
  · rw [Nat.min_eq_left h, List.take_of_length_le (by rw [List.length_drop]; omega)]
  · rw [Nat.min_eq_right (by omega), Nat.sub_self, List.take_zero, List.drop_of_length_le (by omega)]
theorem SameX.put {h : Addr} {H H1 : Hp} {p : Addr} {o : HO} (a : SameX h H H1) (hp : H p = none) : SameX h H (upd H1 p o) := fun c u n e => by
  rw [upd_ne (ne_of_none e hp)]; exact a c u n e
theorem getD_all {α : Type} {l : List α} {i : Nat} {d : α} {R : α → Prop} (h : ∀ x ∈ l, R x) (hi : i < l.length) : R (l.getD i d) := by
  rw [List.getD_eq_getElem?_getD, List.getElem?_eq_getElem hi]; exact h _ (List.getElem_mem hi)
theorem SameX.of_upd {h : Addr} {H : Hp} {o : HO} : SameX h H (upd H h o) := fun c u n e => by rw [upd_ne n]; exact e
/-- a list of ints in, a new one out -/
def spList (K : PySem.W.Frag) (f : List Int → List Int) : Sp := fun vs H Q _ => ∃ (a : Addr) (ns : List Int), vs = [.ref a] ∧ SqL K H a (ns.map V.int) ∧ ns.length ≤ 1000 ∧ ∀ (l : Addr) (H' : Hp), H l = none → Same H H' → H' l = some (.lst ((f ns).map V.int)) → Q (.ref l) H'
theorem int_at {ns : List Int} {i : Nat} {x : V} (h : (ns.map V.int)[i]? = some x) : i < ns.length ∧ x = .int (ns.getD i 0) := by
  rw [List.getElem?_map] at h
  cases e : ns[i]? with
  | none => rw [e] at h; cases h
  | some z =>
    rw [e] at h
    refine ⟨(List.getElem?_eq_some_iff.mp e).1, ?_⟩
    rw [List.getD_eq_getElem?_getD, e]
    exact (Option.some.inj h).symm
theorem len_int {ns : List Int} : (ns.map V.int).length = ns.length := List.length_map _
theorem take_snoc {α : Type} {l : List α} {i : Nat} {x : α} (h : l[i]? = some x) : l.take (i + 1) = l.take i ++ [x] := by rw [List.take_add_one, h]; rfl
theorem atI_at {ns : List Int} {j : Nat} (h : j < ns.length) : atI (ns.map V.int) (j : Int) = some (.int (ns.getD j 0)) := atI_nat (by rw [List.getElem?_map, List.getElem?_eq_getElem h, List.getD_eq_getElem?_getD, List.getElem?_eq_getElem h]; rfl)
end L2

set_option Elab.async false
set_option linter.all false
set_option maxRecDepth 100000
set_option maxHeartbeats 4000000
/-! Sets of ints, list.index, is True, other slices. -/
namespace L2
open PySem PySem.Spec PyProof.Rows
/-- the unlike numbers of a list, in the order in which they are met -/
def dd (ns : List Int) : List Int := ns.foldl (fun acc x => if acc.any (· == x) then acc else acc ++ [x]) []
theorem dd_first (ns : List Int) : firstMet (fun i => ns.getD i 0) ns.length = dd ns := by
  unfold firstMet dd
  have : (List.range ns.length).map (fun i => ns.getD i 0) = ns := by
    refine List.ext_getElem (by simp) fun j h1 h2 => ?_
    rw [List.getElem_map, List.getElem_range, List.getD_eq_getElem?_getD, List.getElem?_eq_getElem h2]; rfl
  rw [this]; rfl
section
variable {X : Cx} {K : PySem.W.Frag}
theorem call_set_ints (e : X.K = K) (hc : X.calm = true) : CallR X (.type "set") (fun xs H Q => ∃ (a : Addr) (ns : List Int), xs = [.ref a] ∧ SqL K H a (ns.map V.int) ∧ ns.length ≤ 4000 ∧ ∀ p, H p = none → Q (.ref p) (upd H p (.set (fun k => (dd ns).any (· == k)) (dd ns).length))) := by
  subst e
  intro pins s σ H xs us Q I r h
  obtain ⟨a, ns, rfl, ha, hl, q⟩ := h
  obtain ⟨u, rfl, ru⟩ := vals1 r
  cases ru
  obtain ⟨its, rv, p, _⟩ := I.list ha
  have hlen : its.length = ns.length := by have := rv.length; rw [List.length_map] at this; exact this.symm
  refine PySem.call_set_list (ns := ns) (I.ok.hd hc) p.isList (by simpa using intsAre_of rv) (by rw [List.size_toArray, hlen]; unfold scanBound; omega) fun h' tk hS hk => ?_
  have hsz : its.toArray.size = ns.length := by rw [List.size_toArray, hlen]
  rw [hsz, dd_first] at hS
  exact ⟨.ref s.heap.objs.size, _, I.laid (o := .set (fun k => (dd ns).any (· == k)) (dd ns).length) (fun b o z => hk b o (Heap.lt_size z) z) (Nat.le_refl _) hS, rfl, q _ (I.hok.fresh (Nat.le_refl _))⟩
theorem call_len_setO : CallR X (.builtin "len") (fun xs H Q => ∃ (a : Addr) (S : Int → Bool) (n : Nat), xs = [.ref a] ∧ H a = some (.set S n) ∧ Q (.int n) H) := by
  intro pins s σ H xs us Q I r h
  obtain ⟨a, S, n, rfl, ha, q⟩ := h
  obtain ⟨u, rfl, ru⟩ := vals1 r
  cases ru
  obtain ⟨o, es, ep, t, ho, hex, hd, _, _, hsb, hf, hn⟩ := (show s.heap.SetOf (intKind X.prog X.w) a S n from I.hok a _ ha)
  subst hn
  exact call_len_set ho hex hd hf (by unfold scanBound at hsb; omega) ⟨.int _, H, I.tok _, ⟨_, rfl⟩, q⟩
theorem boot_set' : bootBuiltins "set" = some (.type "set") := by decide +kernel
theorem boot_tuple' : bootBuiltins "tuple" = some (.type "tuple") := by decide +kernel
theorem boot_str' : bootBuiltins "str" = some (.type "str") := by decide +kernel
end
end L2

set_option linter.all false
set_option maxHeartbeats 4000000
/-! Windows: first places, how many unlike numbers; and the wrappers for a class. -/
namespace My
open L2
theorem dd_snoc (l : List Int) (x : Int) : dd (l ++ [x]) = if (dd l).any (· == x) then dd l else dd l ++ [x] := by
  unfold dd; rw [List.foldl_append]; rfl
theorem dd_go (x : Int) : ∀ (l acc : List Int), x ∈ l.foldl (fun acc x => if acc.any (· == x) then acc else acc ++ [x]) acc ↔ x ∈ acc ∨ x ∈ l
  | [], acc => by simp
  | y :: r, acc => by
    rw [List.foldl_cons, dd_go x r]
    by_cases h : acc.any (· == y) = true
    · rw [if_pos h]
      obtain ⟨w, hw, e⟩ := List.any_eq_true.mp h
      have e : w = y := by simpa using e
      subst e
      constructor
      · rintro (z | z)
        · exact .inl z
        · exact .inr (List.mem_cons_of_mem _ z)
      · rintro (z | z)
        · exact .inl z
        · rcases List.mem_cons.mp z with q | q
          · subst q; exact .inl hw
          · exact .inr q
    · rw [if_neg h]
      simp only [List.mem_append, List.mem_cons, List.not_mem_nil, or_false]
      constructor
      · rintro ((z | z) | z)
        · exact .inl z
        · exact .inr (.inl z)
        · exact .inr (.inr z)
      · rintro (z | (z | z))
        · exact .inl (.inl z)
        · exact .inl (.inr z)
        · exact .inr z
theorem dd_mem (x : Int) (l : List Int) : x ∈ dd l ↔ x ∈ l := by
  unfold dd
  rw [dd_go]
  simp
theorem dd_any (x : Int) (l : List Int) : (dd l).any (· == x) = decide (x ∈ l) := by
  by_cases h : x ∈ l
  · rw [decide_eq_true h, List.any_eq_true]; exact ⟨x, (dd_mem x l).mpr h, by simp⟩
  · rw [decide_eq_false h, Bool.eq_false_iff]
    intro q
    obtain ⟨w, hw, e⟩ := List.any_eq_true.mp q
    have : w = x := by simpa using e
    rw [this] at hw
    exact h ((dd_mem x l).mp hw)
theorem dd_len_snoc (l : List Int) (x : Int) : (dd (l ++ [x])).length = (dd l).length + if x ∈ l then 0 else 1 := by
  rw [dd_snoc, dd_any]
  by_cases h : x ∈ l
  · rw [if_pos h, decide_eq_true h]; rfl
  · rw [if_neg h, decide_eq_false h]; simp
/-- the window's numbers -/
def win (ns : List Int) (f b : Nat) : List Int := (ns.drop f).take (b - f)
theorem win_self (ns : List Int) (f : Nat) : win ns f f = [] := by unfold win; rw [Nat.sub_self, List.take_zero]
theorem win_snoc {ns : List Int} {f b : Nat} (hf : f ≤ b) (hb : b < ns.length) : win ns f (b + 1) = win ns f b ++ [ns.getD b 0] := by
  unfold win
  rw [show b + 1 - f = (b - f) + 1 by omega, List.take_add_one, List.getElem?_drop, show f + (b - f) = b by omega, List.getElem?_eq_getElem hb, List.getD_eq_getElem?_getD, List.getElem?_eq_getElem hb]
  rfl
theorem win_mem {ns : List Int} {f b : Nat} {x : Int} (hb : b ≤ ns.length) : x ∈ win ns f b ↔ ∃ j, f ≤ j ∧ j < b ∧ ns.getD j 0 = x := by
  unfold win
  constructor
  · intro h
    obtain ⟨i, hi, e⟩ := List.mem_iff_getElem.mp h
    rw [List.getElem_take, List.getElem_drop] at e
    have hi' := hi
    rw [List.length_take, List.length_drop] at hi'
    refine ⟨f + i, by omega, by omega, ?_⟩
    rw [List.getD_eq_getElem?_getD, List.getElem?_eq_getElem (by omega)]
    exact e
  · rintro ⟨j, h1, h2, e⟩
    refine List.mem_iff_getElem.mpr ⟨j - f, by rw [List.length_take, List.length_drop]; omega, ?_⟩
    rw [List.getElem_take, List.getElem_drop]
    rw [List.getD_eq_getElem?_getD, List.getElem?_eq_getElem (by omega)] at e
    rw [← e]
    simp only [Option.getD_some]
    congr 1
    omega
theorem last_win {ns : List Int} {f b : Nat} (hb : b < ns.length) : lastIx ns (ns.getD b 0) b < (f : Int) ↔ ns.getD b 0 ∉ win ns f b := by
  rw [win_mem (Nat.le_of_lt hb)]
  constructor
  · rintro h ⟨j, h1, h2, e⟩
    have := lastIx_max ns (ns.getD b 0) b j h2 e
    omega
  · intro h
    by_cases h0 : 0 ≤ lastIx ns (ns.getD b 0) b
    · have e := lastIx_at ns (ns.getD b 0) b h0
      have l := lastIx_lt ns (ns.getD b 0) b
      by_cases hf : lastIx ns (ns.getD b 0) b < f
      · exact hf
      · exact absurd ⟨(lastIx ns (ns.getD b 0) b).toNat, by omega, by omega, e⟩ h
    · omega
/-- the first places of a window -/
def firstsM (ns : List Int) (f b : Nat) : List Int := ((List.range (b - f)).filter fun i => decide (lastIx ns (ns.getD (f + i) 0) (f + i) < (f : Int))).map fun i => ((f + i : Nat) : Int)
def cnt (ns : List Int) (f b : Nat) : Nat := (firstsM ns f b).length
theorem firsts_self (ns : List Int) (f : Nat) : firstsM ns f f = [] := by unfold firstsM; rw [Nat.sub_self]; rfl
theorem firsts_snoc {ns : List Int} {f b : Nat} (hf : f ≤ b) : firstsM ns f (b + 1) = firstsM ns f b ++ (if lastIx ns (ns.getD b 0) b < (f : Int) then [(b : Int)] else []) := by
  unfold firstsM
  rw [show b + 1 - f = (b - f) + 1 by omega, List.range_succ, filter_snoc, List.map_append, show f + (b - f) = b by omega]
  congr 1
  by_cases h : lastIx ns (ns.getD b 0) b < (f : Int)
  · rw [if_pos h, if_pos (decide_eq_true h)]
    show [((f + (b - f) : Nat) : Int)] = _
    rw [show f + (b - f) = b by omega]
  · rw [if_neg h, if_neg (by rw [decide_eq_false h]; exact Bool.false_ne_true)]; rfl
theorem cnt_self (ns : List Int) (f : Nat) : cnt ns f f = 0 := by unfold cnt; rw [firsts_self]; rfl
theorem cnt_snoc {ns : List Int} {f b : Nat} (hf : f ≤ b) : cnt ns f (b + 1) = cnt ns f b + if lastIx ns (ns.getD b 0) b < (f : Int) then 1 else 0 := by
  unfold cnt; rw [firsts_snoc hf, List.length_append]; split <;> rfl
theorem cnt_le (ns : List Int) (f b : Nat) : cnt ns f b ≤ b - f := by
  unfold cnt firstsM
  rw [List.length_map]
  have := List.length_filter_le (fun i => decide (lastIx ns (ns.getD (f + i) 0) (f + i) < (f : Int))) (List.range (b - f))
  rw [List.length_range] at this; exact this
end My
namespace L2
open PySem PySem.Spec PyProof.Rows
/-! ### a class's methods -/
section
variable {X : Cx} {K : PySem.W.Frag} {C : Addr} {k : Nat} {ps : List Str} {sp : Sp} {x m : Str} {p pos apos : Pos} {o e : Expr} {es : List Expr} {t : TA} {ta : TE}
theorem iteNB {c : Bool} {A B : Prop} (h : c = true) (k : B) : if (!c) = true then A else B := by subst h; exact k
end
/-! ### a row made ready -/
def spWhole : Sp := fun vs H Q _ => ∃ t : Int, vs = [.int t] ∧ Q (.bl true) H
end L2

set_option linter.all false
set_option maxHeartbeats 4000000
/-! Plain rows, and rows of last places. -/
namespace My
open L2
/-- a list of last places -/
def IsLs (ls : List Int) : Prop := ∀ i, i < ls.length → -1 ≤ ls.getD i 0 ∧ ls.getD i 0 < (i : Int) ∧ (ls.getD i 0 ≠ -1 → ∀ j, j < i → ls.getD j 0 ≠ ls.getD i 0)
theorem lasts_getD {ns : List Int} {i : Nat} (h : i < ns.length) : (lastsM ns).getD i 0 = lastIx ns (ns.getD i 0) i := by rw [List.getD_eq_getElem?_getD, get_lasts h]; rfl
theorem isLs_lasts (ns : List Int) : IsLs (lastsM ns) := by
  intro i hi
  rw [len_lasts] at hi
  rw [lasts_getD hi]
  have l := lastIx_lt ns (ns.getD i 0) i
  refine ⟨l.1, l.2, fun h j hj => ?_⟩
  rw [lasts_getD (by omega)]
  intro e
  have a1 := lastIx_at ns (ns.getD i 0) i (by omega)
  have a2 := lastIx_at ns (ns.getD j 0) j (by omega)
  rw [e] at a2
  have l2 := lastIx_lt ns (ns.getD j 0) j
  have := lastIx_max ns (ns.getD i 0) i j hj (by rw [← a1, ← a2])
  omega
def stepR (st : List Int × Int) (last : Int) : List Int × Int := if last = -1 then (st.1 ++ [st.2], st.2 + 1) else (st.1 ++ [st.1.getD last.toNat 0], st.2)
def preR (ls : List Int) (i : Nat) : List Int × Int := (ls.take i).foldl stepR ([], 0)
def rowOfM (ls : List Int) : List Int := (preR ls ls.length).1
def plainM (ns : List Int) : List Int := rowOfM (lastsM ns)
theorem getD_some {ls : List Int} {i : Nat} (h : i < ls.length) : ls[i]? = some (ls.getD i 0) := by rw [List.getD_eq_getElem?_getD, List.getElem?_eq_getElem h]; rfl
theorem preR_succ {ls : List Int} {i : Nat} (h : i < ls.length) : preR ls (i + 1) = stepR (preR ls i) (ls.getD i 0) := by
  unfold preR; rw [take_snoc (getD_some h), List.foldl_append]; rfl
theorem preR_len (ls : List Int) : ∀ i, i ≤ ls.length → (preR ls i).1.length = i
  | 0, _ => rfl
  | i + 1, h => by
    rw [preR_succ (by omega)]
    unfold stepR
    have := preR_len ls i (by omega)
    split <;> simp [this]
theorem rowOf_len (ls : List Int) : (rowOfM ls).length = ls.length := preR_len ls _ (Nat.le_refl _)
theorem plain_len (ns : List Int) : (plainM ns).length = ns.length := by unfold plainM; rw [rowOf_len, len_lasts]
/-- what the plain row has at a place, by the numbers -/
def plAt (ns : List Int) (k : Nat) : Int := (dd (ns.take (ns.idxOf (ns.getD k 0)))).length
theorem getD_app_l {l r : List Int} {j : Nat} (h : j < l.length) : (l ++ r).getD j 0 = l.getD j 0 := by
  rw [List.getD_eq_getElem?_getD, List.getElem?_append_left h, ← List.getD_eq_getElem?_getD]
theorem getD_app_at {l : List Int} {x : Int} {i : Nat} (h : l.length = i) : (l ++ [x]).getD i 0 = x := by
  subst h
  rw [List.getD_eq_getElem?_getD, List.getElem?_append_right (Nat.le_refl _), Nat.sub_self]; rfl
theorem idx_first {ns : List Int} {i : Nat} (hi : i < ns.length) (h : lastIx ns (ns.getD i 0) i = -1) : ns.idxOf (ns.getD i 0) = i := by
  have hm : ns.getD i 0 ∈ ns := List.mem_of_getElem? (getD_some hi)
  have hlt : ns.idxOf (ns.getD i 0) < ns.length := List.idxOf_lt_length_iff.mpr hm
  have e : ns.getD (ns.idxOf (ns.getD i 0)) 0 = ns.getD i 0 := by
    rw [List.getD_eq_getElem?_getD, List.getElem?_eq_getElem hlt]
    exact List.getElem_idxOf hlt
  have l1 : i ≤ ns.idxOf (ns.getD i 0) := by
    apply Decidable.byContradiction
    intro q
    have := lastIx_max ns (ns.getD i 0) i _ (by omega) e
    omega
  have l2 : ns.idxOf (ns.getD i 0) ≤ i := by
    apply Decidable.byContradiction
    intro q
    have := List.not_of_lt_findIdx (xs := ns) (p := (· == ns.getD i 0)) (i := i) (by unfold List.idxOf at q; omega)
    have e2 : ns[i] = ns.getD i 0 := by rw [List.getD_eq_getElem?_getD, List.getElem?_eq_getElem hi]; rfl
    exact absurd this (by simp [e2])
  omega
theorem take_mem {ns : List Int} {i : Nat} {x : Int} (hi : i ≤ ns.length) : x ∈ ns.take i ↔ ∃ j, j < i ∧ ns.getD j 0 = x := by
  have := win_mem (ns := ns) (f := 0) (b := i) (x := x) hi
  unfold win at this
  rw [List.drop_zero, Nat.sub_zero] at this
  rw [this]
  constructor
  · rintro ⟨j, _, h2, e⟩; exact ⟨j, h2, e⟩
  · rintro ⟨j, h2, e⟩; exact ⟨j, Nat.zero_le _, h2, e⟩
theorem last_none {ns : List Int} {i : Nat} (hi : i < ns.length) : lastIx ns (ns.getD i 0) i = -1 ↔ ns.getD i 0 ∉ ns.take i := by
  rw [take_mem (by omega)]
  constructor
  · rintro h ⟨j, h2, e⟩
    have := lastIx_max ns (ns.getD i 0) i j h2 e
    omega
  · intro h
    have l := lastIx_lt ns (ns.getD i 0) i
    apply Decidable.byContradiction
    intro q
    exact h ⟨(lastIx ns (ns.getD i 0) i).toNat, by omega, lastIx_at ns _ i (by omega)⟩
theorem preR_lasts (ns : List Int) : ∀ i, i ≤ ns.length → (preR (lastsM ns) i).2 = ((dd (ns.take i)).length : Int) ∧ ∀ j, j < i → (preR (lastsM ns) i).1.getD j 0 = plAt ns j
  | 0, _ => ⟨rfl, fun j h => by omega⟩
  | i + 1, h => by
    obtain ⟨h1, h2⟩ := preR_lasts ns i (by omega)
    have hl := preR_len (lastsM ns) i (by rw [len_lasts]; omega)
    have hi : i < ns.length := by omega
    rw [preR_succ (by rw [len_lasts]; omega), lasts_getD hi]
    unfold stepR
    have et : ns.take (i + 1) = ns.take i ++ [ns.getD i 0] := take_snoc (getD_some hi)
    by_cases hn : lastIx ns (ns.getD i 0) i = -1
    · rw [if_pos hn]
      refine ⟨?_, fun j hj => ?_⟩
      · show (preR (lastsM ns) i).2 + 1 = _
        rw [h1, et, dd_len_snoc, if_neg ((last_none hi).mp hn)]; omega
      · by_cases z : j < i
        · show ((preR (lastsM ns) i).1 ++ _).getD j 0 = _
          rw [getD_app_l (by omega)]; exact h2 j z
        · have : j = i := by omega
          subst this
          show ((preR (lastsM ns) j).1 ++ [_]).getD j 0 = _
          rw [getD_app_at hl, h1]
          unfold plAt
          rw [idx_first hi hn]
    · rw [if_neg hn]
      have l := lastIx_lt ns (ns.getD i 0) i
      have la := lastIx_at ns (ns.getD i 0) i (by omega)
      refine ⟨?_, fun j hj => ?_⟩
      · show (preR (lastsM ns) i).2 = _
        rw [h1, et, dd_len_snoc, if_pos (Decidable.byContradiction fun q => hn ((last_none hi).mpr q))]; rfl
      · by_cases z : j < i
        · show ((preR (lastsM ns) i).1 ++ _).getD j 0 = _
          rw [getD_app_l (by omega)]; exact h2 j z
        · have : j = i := by omega
          subst this
          show ((preR (lastsM ns) j).1 ++ [_]).getD j 0 = _
          rw [getD_app_at hl, h2 _ (by omega)]
          unfold plAt
          rw [la]
theorem plain_at {ns : List Int} {k : Nat} (h : k < ns.length) : (plainM ns).getD k 0 = plAt ns k := by
  unfold plainM rowOfM
  rw [len_lasts]
  exact (preR_lasts ns ns.length (Nat.le_refl _)).2 k h
theorem ext_getD {a b : List Int} (hl : a.length = b.length) (h : ∀ j, j < a.length → a.getD j 0 = b.getD j 0) : a = b := by
  refine List.ext_getElem hl fun j h1 h2 => ?_
  have := h j h1
  rw [List.getD_eq_getElem?_getD, List.getD_eq_getElem?_getD, List.getElem?_eq_getElem h1, List.getElem?_eq_getElem h2] at this
  exact this
theorem plain_law (ns : List Int) : ns.map (fun x => ((dd (ns.take (ns.idxOf x))).length : Int)) = plainM ns := by
  refine ext_getD (by rw [List.length_map, plain_len]) fun j h => ?_
  rw [List.length_map] at h
  rw [plain_at h, List.getD_eq_getElem?_getD, List.getElem?_map, getD_some h]; rfl
end My
namespace L2
open PySem
def spAre : Sp := fun vs H Q _ => ∃ (a : Addr) (ls : List Int), vs = [.ref a] ∧ H a = some (.lst (ls.map V.int)) ∧ My.IsLs ls ∧ ls.length ≤ 1000 ∧ ∀ H', Same H H' → Q (.bl true) H'
def spRowOf : Sp := fun vs H Q _ => ∃ (a : Addr) (ls : List Int), vs = [.ref a] ∧ H a = some (.lst (ls.map V.int)) ∧ My.IsLs ls ∧ ls.length ≤ 1000 ∧ ∀ l H', H l = none → Same H H' → H' l = some (.lst ((My.rowOfM ls).map V.int)) → Q (.ref l) H'
end L2

set_option linter.all false
set_option maxHeartbeats 4000000
/-! Sums over all windows. -/
namespace My
open L2
/-! from the left -/
end My

set_option Elab.async false
set_option linter.all false
set_option maxRecDepth 100000
set_option maxHeartbeats 4000000
/-! xs[::c] of a list, list(range(..)) -/
namespace L2
open PySem PySem.Spec PyProof.Rows
theorem vals_pick {xs : List V} {us : List Value} (r : Vals xs us) : ∀ is : List Nat, Vals (is.filterMap (xs[·]?)) (is.filterMap (us[·]?))
  | [] => .nil
  | i :: is => by
    rw [List.filterMap_cons, List.filterMap_cons]
    cases h : xs[i]? with
    | none => rw [r.none_of h]; exact vals_pick r is
    | some x =>
      obtain ⟨u, e, q⟩ := r.get h
      rw [e]
      exact .cons q (vals_pick r is)
section
variable {X : Cx} {K : PySem.W.Frag} {e es : Expr} {te ts : TE} {pos p2 : Pos}
end
end L2

set_option Elab.async false
set_option linter.all false
set_option maxRecDepth 100000
set_option maxHeartbeats 4000000
/-! A row made ready that outlasts changes elsewhere. -/
namespace L2
open PySem PySem.Spec PyProof.Rows
end L2

set_option Elab.async false
set_option linter.all false
set_option maxRecDepth 100000
set_option maxHeartbeats 4000000
/-! Ends and begins. -/
namespace My
open L2
end My
namespace L2
open PySem PySem.Spec PyProof.Rows
end L2

set_option Elab.async false
set_option linter.all false
set_option maxRecDepth 100000
set_option maxHeartbeats 4000000
/-! list(range(n)) -/
namespace L2
open PySem PySem.Spec PyProof.Rows
theorem vals_of_get : ∀ {xs : List V} {us : List Value}, xs.length = us.length → (∀ (i : Nat) (x : V) (u : Value), xs[i]? = some x → us[i]? = some u → RelV x u) → Vals xs us
  | [], [], _, _ => .nil
  | x :: xs, u :: us, h, k => .cons (k 0 x u rfl rfl) (vals_of_get (by simpa using h) fun i y v h1 h2 => k (i + 1) y v (by simpa using h1) (by simpa using h2))
  | [], _ :: _, h, _ => by simp at h
  | _ :: _, [], h, _ => by simp at h
section
variable {X : Cx}
end
end L2

set_option Elab.async false
set_option linter.all false
set_option maxRecDepth 100000
set_option maxHeartbeats 4000000
/-! in / not in of ints; a row turned about. -/
namespace L2
open PySem PySem.Spec PyProof.Rows
theorem any_mem (x : Int) (ns : List Int) : ns.any (· == x) = decide (x ∈ ns) := by
  by_cases h : x ∈ ns
  · rw [decide_eq_true h, List.any_eq_true]; exact ⟨x, h, by simp⟩
  · rw [decide_eq_false h, Bool.eq_false_iff]
    intro q
    obtain ⟨w, hw, e⟩ := List.any_eq_true.mp q
    have : w = x := by simpa using e
    exact h (this ▸ hw)
end L2
namespace My
open L2
end My

set_option Elab.async false
set_option linter.all false
set_option maxRecDepth 100000
set_option maxHeartbeats 4000000
/-! Lists of last places, there and back. -/
namespace My
open L2
theorem preR_stay (ls : List Int) {j : Nat} : ∀ k, j < j + 1 + k → j + 1 + k ≤ ls.length → (preR ls (j + 1 + k)).1.getD j 0 = (preR ls (j + 1)).1.getD j 0
  | 0, _, _ => rfl
  | k + 1, h1, h2 => by
    have ih := preR_stay ls (j := j) k (by omega) (by omega)
    have hl := preR_len ls (j + 1 + k) (by omega)
    rw [show j + 1 + (k + 1) = (j + 1 + k) + 1 by omega, preR_succ (by omega)]
    unfold stepR
    split
    · show ((preR ls (j + 1 + k)).1 ++ _).getD j 0 = _
      rw [getD_app_l (by omega), ih]
    · show ((preR ls (j + 1 + k)).1 ++ _).getD j 0 = _
      rw [getD_app_l (by omega), ih]
theorem preR_row {ls : List Int} {i j : Nat} (hj : j < i) (hi : i ≤ ls.length) : (preR ls i).1.getD j 0 = (rowOfM ls).getD j 0 := by
  have a := preR_stay ls (j := j) (i - (j + 1)) (by omega) (by omega)
  have b := preR_stay ls (j := j) (ls.length - (j + 1)) (by omega) (by omega)
  rw [show j + 1 + (i - (j + 1)) = i by omega] at a
  rw [show j + 1 + (ls.length - (j + 1)) = ls.length by omega] at b
  unfold rowOfM
  rw [a, b]
theorem row_new {ls : List Int} {i : Nat} (hi : i < ls.length) (h : ls.getD i 0 = -1) : (rowOfM ls).getD i 0 = (preR ls i).2 := by
  rw [← preR_row (show i < i + 1 by omega) (by omega), preR_succ hi]
  unfold stepR
  rw [if_pos h]
  exact getD_app_at (preR_len ls i (by omega))
theorem row_old {ls : List Int} {i : Nat} (hi : i < ls.length) (h : ls.getD i 0 ≠ -1) (hl : ls.getD i 0 < (i : Int)) (h0 : -1 ≤ ls.getD i 0) : (rowOfM ls).getD i 0 = (rowOfM ls).getD (ls.getD i 0).toNat 0 := by
  rw [← preR_row (show i < i + 1 by omega) (by omega), preR_succ hi]
  unfold stepR
  rw [if_neg h]
  show ((preR ls i).1 ++ [_]).getD i 0 = _
  rw [getD_app_at (preR_len ls i (by omega)), preR_row (by omega) (by omega)]
theorem row_lt {ls : List Int} (hls : IsLs ls) : ∀ i, i ≤ ls.length → ∀ j, j < i → (rowOfM ls).getD j 0 < (preR ls i).2
  | 0, _, j, hj => by omega
  | i + 1, hi, j, hj => by
    have ih := row_lt hls i (by omega)
    obtain ⟨g1, g2, g3⟩ := hls i (by omega)
    have up : (preR ls (i + 1)).2 = if ls.getD i 0 = -1 then (preR ls i).2 + 1 else (preR ls i).2 := by
      rw [preR_succ (by omega)]; unfold stepR; split <;> rfl
    rw [up]
    by_cases hji : j < i
    · have := ih j hji
      split <;> omega
    · have e : j = i := by omega
      subst e
      by_cases z : ls.getD j 0 = -1
      · rw [if_pos z, row_new (by omega) z]; omega
      · rw [if_neg z, row_old (by omega) z g2 g1]
        exact ih _ (by omega)
theorem row_last {ls : List Int} (hls : IsLs ls) : ∀ i, i < ls.length → ls.getD i 0 = lastIx (rowOfM ls) ((rowOfM ls).getD i 0) i := by
  intro i
  induction i using Nat.strongRecOn with
  | ind i ih =>
    intro hi
    obtain ⟨g1, g2, g3⟩ := hls i hi
    by_cases z : ls.getD i 0 = -1
    · refine lastIx_unique (.inl z) g1 fun j hj e => ?_
      have := row_lt hls i (by omega) j hj
      rw [e, row_new hi z] at this
      omega
    · have ro := row_old hi z g2 g1
      obtain ⟨l, hl⟩ : ∃ l : Nat, ls.getD i 0 = (l : Int) := ⟨(ls.getD i 0).toNat, by omega⟩
      rw [hl, Int.toNat_natCast] at ro
      have hli : l < i := by omega
      refine lastIx_unique (.inr ⟨l, hli, ro.symm, hl⟩) g1 ?_
      have key : ∀ j, l < j → j < i → (rowOfM ls).getD j 0 ≠ (rowOfM ls).getD l 0 := by
        intro j
        induction j using Nat.strongRecOn with
        | ind j ihj =>
          intro h1 h2 e
          have q := ih j h2 (by omega)
          have m := lastIx_max (rowOfM ls) ((rowOfM ls).getD j 0) j l h1 e.symm
          have lt := lastIx_lt (rowOfM ls) ((rowOfM ls).getD j 0) j
          by_cases y : ls.getD j 0 = (l : Int)
          · exact g3 z j h2 (by rw [y, hl])
          · have a := lastIx_at (rowOfM ls) ((rowOfM ls).getD j 0) j (by omega)
            rw [← q] at a m lt
            exact ihj (ls.getD j 0).toNat (by omega) (by omega) (by omega) (by rw [a, e])
      intro j hj e
      rw [hl]
      by_cases y : l < j
      · exact absurd (by rw [e, ro]) (key j y hj)
      · omega
theorem lasts_row {ls : List Int} (hls : IsLs ls) : lastsM (rowOfM ls) = ls := by
  refine ext_getD (by rw [len_lasts, rowOf_len]) fun k hk => ?_
  rw [len_lasts, rowOf_len] at hk
  rw [lasts_getD (by rw [rowOf_len]; exact hk)]
  exact (row_last hls k hk).symm
theorem drop_at (ns : List Int) (a j : Nat) : (ns.drop a).getD j 0 = ns.getD (a + j) 0 := by rw [List.getD_eq_getElem?_getD, List.getElem?_drop, ← List.getD_eq_getElem?_getD]
end My
namespace L2
open PySem PySem.Spec PyProof.Rows
section
variable {X : Cx}
theorem op_isB : OpR X (compareOp .Is) (fun x y H Q => ∃ c d, x = .bl c ∧ y = .bl d ∧ Q (.bl (c == d)) H) := by
  intro pins s σ H x y v u Q I rx ry h
  obtain ⟨c, d, rfl, rfl, q⟩ := h
  cases rx
  cases ry
  exact is_bool (fin_bl I q rfl)
end
end L2

set_option Elab.async false
set_option linter.all false
set_option maxRecDepth 100000
set_option maxHeartbeats 4000000
/-! l[:0] = w -/
namespace L2
open PySem PySem.Spec PyProof.Rows
section
variable {prog : Program} {w : World} {A : Around} {E : Value → Shared → Prop} {s : Shared}
end
section
variable {X : Cx} {o e0 : Expr} {to t0 : TE} {pos p2 : Pos}
end
end L2

set_option Elab.async false
set_option linter.all false
set_option maxRecDepth 100000
set_option maxHeartbeats 4000000
/-! lists put together, either of two readings, first and last of the places found. -/
namespace L2
open PySem PySem.Spec PyProof.Rows
section
variable {X : Cx} {K : PySem.W.Frag}
end
end L2
namespace My
open L2
end My

set_option Elab.async false
set_option linter.all false
set_option maxRecDepth 100000
set_option maxHeartbeats 4000000
/-! dict(enumerate(a list)): the places as keys. -/
namespace EnD
open PySem PySem.Calls PyProof.Rows PySem.Spec L2
section
variable {prog : Program} {w : World} {A : Around} {E : Value → Shared → Prop} {s : Shared}
end
end EnD
namespace L2
open PySem PySem.Spec PyProof.Rows
section
variable {X : Cx}
end
end L2

set_option Elab.async false
set_option linter.all false
set_option maxRecDepth 100000
set_option maxHeartbeats 4000000
/-! things of any kind; what are last places, of any list -/
namespace L2
open PySem PySem.Spec PyProof.Rows
section
variable {X : Cx} {k : Nat} {sp : Sp} {x : Str} {p pos : Pos}
end
/-! the judgements, closed: a long display is not opened again at each node -/
section
variable {X : Cx} {e c : Expr} {es : List Expr} {te : TE} {t : TA} {pos : Pos} {st : Stmt} {rest a b : List Stmt} {ts us : TS} {tc : TT}
@[irreducible] def QA (X : Cx) (es : List Expr) (t : TA) : Prop := PA X es t
@[irreducible] def QE (X : Cx) (e : Expr) (t : TE) : Prop := PE X e t
@[irreducible] def QS (X : Cx) (s : Stmt) (t : TS) : Prop := PS X s t
theorem QA.un (h : QA X es t) : PA X es t := by unfold QA at h; exact h
theorem QA.mk (h : PA X es t) : QA X es t := by unfold QA; exact h
theorem QE.un (h : QE X e te) : PE X e te := by unfold QE at h; exact h
theorem QE.mk (h : PE X e te) : QE X e te := by unfold QE; exact h
theorem QS.un (h : QS X st ts) : PS X st ts := by unfold QS at h; exact h
theorem QS.mk (h : PS X st ts) : QS X st ts := by unfold QS; exact h
theorem qa_nil : QA X [] tNil := .mk pa_nil
theorem qa_cons (ha : PE X e te) (hr : QA X es t) (hs : starEach (e :: es) X.env = (false, eval e X.env) :: starEach es X.env := by rfl) : QA X (e :: es) (tCons te t) := .mk (pa_cons ha hr.un hs)
theorem qe_lst (h : QA X es t) : QE X (.List es pos) (tLst t) := .mk (pe_lst h.un)
theorem qs_set {i : Nat} {x : Str} {pos' : Pos} (hN : X.N.Nodup) (hi : X.N[i]? = some x) (hx : Loc X.env.scope x) (he : QE X e te) (hs : swapsWith e (some (.Name x pos')) pos.line X.env = pure false := by rfl) (hf : X.fn x = true ∨ X.env.scope.names.lookup x = some .local := by first | exact .inl rfl | exact .inr rfl | assumption) :
    QS X (.Assign [.Name x pos'] e pos) (tAsg te (gName i)) := .mk (ps_set hN hi hx he.un hs hf)
end
end L2
namespace My
open PySem L2
/-- a value whose kind is known -/
inductive ThK (H : Hp) : V → Prop where
  | non : ThK H .non
  | bl (b : Bool) : ThK H (.bl b)
  | int (i : Int) : ThK H (.int i)
  | str (x : Str) : ThK H (.str x)
  | lst {a : Addr} {xs : List V} (e : H a = some (.lst xs)) : ThK H (.ref a)
  | tup {a : Addr} {xs : List V} (e : H a = some (.tup xs)) : ThK H (.ref a)
  | dK {a : Addr} {kvs : List (Key × V)} (e : H a = some (.dK kvs)) : ThK H (.ref a)
theorem ThK.same {H H' : Hp} {v : V} (t : ThK H v) (s : Same H H') : ThK H' v := by
  cases t with
  | non => exact .non
  | bl b => exact .bl b
  | int i => exact .int i
  | str x => exact .str x
  | lst e => exact .lst (s _ _ e)
  | tup e => exact .tup (s _ _ e)
  | dK e => exact .dK (s _ _ e)
/-- one that is not the hand -/
def Th (h : Addr) (H : Hp) (v : V) : Prop := ThK H v ∧ v ≠ .ref h
theorem Th.sx {h : Addr} {H H' : Hp} {v : V} (t : Th h H v) (s : SameX h H H') : Th h H' v := by
  refine ⟨?_, t.2⟩
  have n : ∀ a, v = .ref a → a ≠ h := fun a e z => t.2 (by rw [e, z])
  cases t.1 with
  | non => exact .non
  | bl b => exact .bl b
  | int i => exact .int i
  | str x => exact .str x
  | lst e => exact .lst (s _ _ (n _ rfl) e)
  | tup e => exact .tup (s _ _ (n _ rfl) e)
  | dK e => exact .dK (s _ _ (n _ rfl) e)
theorem Th.same {h : Addr} {H H' : Hp} {v : V} (t : Th h H v) (s : Same H H') : Th h H' v := ⟨t.1.same s, t.2⟩
/-- a thing; if it is a list, of things -/
def ThD (H : Hp) (v : V) : Prop := ThK H v ∧ ∀ a xs, v = .ref a → H a = some (.lst xs) → xs.length ≤ 1000 ∧ ∀ x ∈ xs, ThK H x
def ThH (h : Addr) (H : Hp) (v : V) (n : Nat) : Prop := Th h H v ∧ ∀ a xs, v = .ref a → H a = some (.lst xs) → xs.length ≤ n ∧ ∀ x ∈ xs, Th h H x
theorem ThH.d {h : Addr} {H : Hp} {v : V} {n : Nat} (t : ThH h H v n) (hn : n ≤ 1000) : ThD H v := ⟨t.1.1, fun a xs e q => ⟨Nat.le_trans (t.2 a xs e q).1 hn, fun x hx => ((t.2 a xs e q).2 x hx).1⟩⟩
theorem same_obj {H H' : Hp} {a : Addr} {v : V} {xs : List V} (t : ThK H v) (s : ∀ o, H a = some o → H' a = some o) (e : v = .ref a) (q : H' a = some (.lst xs)) : H a = some (.lst xs) := by
  subst e
  cases t with
  | lst e => rw [s _ e] at q; cases q; exact e
  | tup e => rw [s _ e] at q; cases q
  | dK e => rw [s _ e] at q; cases q
theorem ThD.same {H H' : Hp} {v : V} (t : ThD H v) (s : Same H H') : ThD H' v := ⟨t.1.same s, fun a xs e q => by
  obtain ⟨h1, h2⟩ := t.2 a xs e (same_obj t.1 (fun o z => s _ _ z) e q)
  exact ⟨h1, fun x hx => (h2 x hx).same s⟩⟩
theorem ThH.sx {h : Addr} {H H' : Hp} {v : V} {n : Nat} (t : ThH h H v n) (s : SameX h H H') : ThH h H' v n := ⟨t.1.sx s, fun a xs e q => by
  obtain ⟨h1, h2⟩ := t.2 a xs e (same_obj t.1.1 (fun o z => s _ _ (fun y => t.1.2 (by rw [e, y])) z) e q)
  exact ⟨h1, fun x hx => (h2 x hx).sx s⟩⟩
theorem ThH.flat {h : Addr} {H : Hp} {v : V} {n : Nat} (t : ThK H v) (nr : ∀ a, v ≠ .ref a) : ThH h H v n := ⟨⟨t, nr h⟩, fun a xs e => absurd e (nr a)⟩
theorem ThH.lst {h : Addr} {H : Hp} {a : Addr} {xs : List V} {n : Nat} (e : H a = some (.lst xs)) (ne : a ≠ h) (hn : xs.length ≤ n) (hx : ∀ x ∈ xs, Th h H x) : ThH h H (.ref a) n :=
  ⟨⟨.lst e, fun z => ne (by injection z)⟩, fun b ys z q => by cases z; rw [e] at q; cases q; exact ⟨hn, hx⟩⟩
theorem ThH.tup {h : Addr} {H : Hp} {a : Addr} {xs : List V} {n : Nat} (e : H a = some (.tup xs)) (ne : a ≠ h) : ThH h H (.ref a) n :=
  ⟨⟨.tup e, fun z => ne (by injection z)⟩, fun b ys z q => by cases z; rw [e] at q; cases q⟩
theorem ThH.dK {h : Addr} {H : Hp} {a : Addr} {kvs : List (Key × V)} {n : Nat} (e : H a = some (.dK kvs)) (ne : a ≠ h) : ThH h H (.ref a) n :=
  ⟨⟨.dK e, fun z => ne (by injection z)⟩, fun b ys z q => by cases z; rw [e] at q; cases q⟩
def wholeV : V → Bool
  | .int _ => true
  | _ => false
def intV : V → Bool
  | .int _ => true
  | .bl _ => true
  | _ => false
def boolV : V → Bool
  | .bl _ => true
  | _ => false
def listV (H : Hp) : V → Bool
  | .ref a => match H a with | some (.lst _) => true | _ => false
  | _ => false
theorem k_NoneType_int {K : PySem.W.Frag} : PySem.W.kitOne K (.type "NoneType") (.type "int") = some false := kit_ty (by decide +kernel) (by decide +kernel) (by decide +kernel)
theorem k_NoneType_bool {K : PySem.W.Frag} : PySem.W.kitOne K (.type "NoneType") (.type "bool") = some false := kit_ty (by decide +kernel) (by decide +kernel) (by decide +kernel)
theorem k_NoneType_list {K : PySem.W.Frag} : PySem.W.kitOne K (.type "NoneType") (.type "list") = some false := kit_ty (by decide +kernel) (by decide +kernel) (by decide +kernel)
theorem k_bool_int {K : PySem.W.Frag} : PySem.W.kitOne K (.type "bool") (.type "int") = some true := kit_ty (by decide +kernel) (by decide +kernel) (by decide +kernel)
theorem k_bool_list {K : PySem.W.Frag} : PySem.W.kitOne K (.type "bool") (.type "list") = some false := kit_ty (by decide +kernel) (by decide +kernel) (by decide +kernel)
theorem k_int_bool {K : PySem.W.Frag} : PySem.W.kitOne K (.type "int") (.type "bool") = some false := kit_ty (by decide +kernel) (by decide +kernel) (by decide +kernel)
theorem k_int_list {K : PySem.W.Frag} : PySem.W.kitOne K (.type "int") (.type "list") = some false := kit_ty (by decide +kernel) (by decide +kernel) (by decide +kernel)
theorem k_str_int {K : PySem.W.Frag} : PySem.W.kitOne K (.type "str") (.type "int") = some false := kit_ty (by decide +kernel) (by decide +kernel) (by decide +kernel)
theorem k_str_bool {K : PySem.W.Frag} : PySem.W.kitOne K (.type "str") (.type "bool") = some false := kit_ty (by decide +kernel) (by decide +kernel) (by decide +kernel)
theorem k_str_list {K : PySem.W.Frag} : PySem.W.kitOne K (.type "str") (.type "list") = some false := kit_ty (by decide +kernel) (by decide +kernel) (by decide +kernel)
theorem k_list_int {K : PySem.W.Frag} : PySem.W.kitOne K (.type "list") (.type "int") = some false := kit_ty (by decide +kernel) (by decide +kernel) (by decide +kernel)
theorem k_list_bool {K : PySem.W.Frag} : PySem.W.kitOne K (.type "list") (.type "bool") = some false := kit_ty (by decide +kernel) (by decide +kernel) (by decide +kernel)
theorem k_tuple_int {K : PySem.W.Frag} : PySem.W.kitOne K (.type "tuple") (.type "int") = some false := kit_ty (by decide +kernel) (by decide +kernel) (by decide +kernel)
theorem k_tuple_bool {K : PySem.W.Frag} : PySem.W.kitOne K (.type "tuple") (.type "bool") = some false := kit_ty (by decide +kernel) (by decide +kernel) (by decide +kernel)
theorem k_tuple_list {K : PySem.W.Frag} : PySem.W.kitOne K (.type "tuple") (.type "list") = some false := kit_ty (by decide +kernel) (by decide +kernel) (by decide +kernel)
theorem k_dict_int {K : PySem.W.Frag} : PySem.W.kitOne K (.type "dict") (.type "int") = some false := kit_ty (by decide +kernel) (by decide +kernel) (by decide +kernel)
theorem k_dict_bool {K : PySem.W.Frag} : PySem.W.kitOne K (.type "dict") (.type "bool") = some false := kit_ty (by decide +kernel) (by decide +kernel) (by decide +kernel)
theorem k_dict_list {K : PySem.W.Frag} : PySem.W.kitOne K (.type "dict") (.type "list") = some false := kit_ty (by decide +kernel) (by decide +kernel) (by decide +kernel)
theorem ThK.kinds {K : PySem.W.Frag} {H : Hp} {v : V} (t : ThK H v) : ∃ u, TyOf K H v u ∧ PySem.W.kitOne K u (.type "int") = some (intV v) ∧ PySem.W.kitOne K u (.type "bool") = some (boolV v) ∧ PySem.W.kitOne K u (.type "list") = some (listV H v) := by
  cases t with
  | non => exact ⟨_, .non, k_NoneType_int, k_NoneType_bool, k_NoneType_list⟩
  | bl b => exact ⟨_, .bl b, k_bool_int, kit_same, k_bool_list⟩
  | int i => exact ⟨_, .int i, kit_same, k_int_bool, k_int_list⟩
  | str x => exact ⟨_, .str x, k_str_int, k_str_bool, k_str_list⟩
  | lst e =>
    refine ⟨_, .lst e, k_list_int, k_list_bool, ?_⟩
    show _ = some (match H _ with | some (.lst _) => true | _ => false)
    rw [e]; exact kit_same
  | tup e =>
    refine ⟨_, .tup e, k_tuple_int, k_tuple_bool, ?_⟩
    show _ = some (match H _ with | some (.lst _) => true | _ => false)
    rw [e]; exact k_tuple_list
  | dK e =>
    refine ⟨_, .dK e, k_dict_int, k_dict_bool, ?_⟩
    show _ = some (match H _ with | some (.lst _) => true | _ => false)
    rw [e]; exact k_dict_list
/-- the place keeps to the words of point 6 -/
def okAt (xs : List V) (j : Nat) : Bool := match xs[j]? with
  | some (.int n) => decide (-1 ≤ n) && (decide (n < (j : Int)) && (decide (n = -1) || !((xs.take j).contains (V.int n))))
  | _ => false
def areB (xs : List V) : Bool := (List.range xs.length).all (okAt xs)
def areOf (H : Hp) : V → Bool
  | .ref a => match H a with | some (.lst xs) => areB xs | _ => false
  | _ => false
theorem areOf_lst {H : Hp} {a : Addr} {xs : List V} (e : H a = some (.lst xs)) : areOf H (.ref a) = areB xs := by
  show (match H a with | some (.lst xs) => areB xs | _ => false) = _
  rw [e]
theorem areOf_no {H : Hp} {v : V} (t : ThK H v) (h : listV H v = false) : areOf H v = false := by
  cases t with
  | non => rfl
  | bl b => rfl
  | int i => rfl
  | str x => rfl
  | lst e =>
    have h' : (match H _ with | some (.lst _) => true | _ => false) = false := h
    rw [e] at h'; cases h'
  | tup e =>
    show (match H _ with | some (.lst xs) => areB xs | _ => false) = _
    rw [e]
  | dK e =>
    show (match H _ with | some (.lst xs) => areB xs | _ => false) = _
    rw [e]
theorem listV_yes {H : Hp} {v : V} (h : listV H v = true) : ∃ a xs, v = .ref a ∧ H a = some (.lst xs) := by
  cases v with
  | ref a =>
    have h' : (match H a with | some (.lst _) => true | _ => false) = true := h
    cases e : H a with
    | none => rw [e] at h'; cases h'
    | some o =>
      rw [e] at h'
      cases o with
      | lst xs => exact ⟨a, xs, rfl, e⟩
      | _ => cases h'
  | _ => cases h
theorem areB_true {xs : List V} (h : ∀ j, j < xs.length → okAt xs j = true) : areB xs = true := List.all_eq_true.mpr fun j hj => h j (List.mem_range.mp hj)
theorem areB_false {xs : List V} {j : Nat} (hj : j < xs.length) (h : okAt xs j = false) : areB xs = false := by
  cases e : areB xs with
  | false => rfl
  | true => rw [List.all_eq_true.mp e j (List.mem_range.mpr hj)] at h; cases h
theorem okAt_int {xs : List V} {j : Nat} {n : Int} (e : xs[j]? = some (.int n)) : okAt xs j = (decide (-1 ≤ n) && (decide (n < (j : Int)) && (decide (n = -1) || !((xs.take j).contains (V.int n))))) := by unfold okAt; rw [e]
theorem okAt_other {xs : List V} {j : Nat} {v : V} (e : xs[j]? = some v) (h : wholeV v = false) : okAt xs j = false := by
  unfold okAt; rw [e]
  cases v with
  | int n => cases h
  | _ => rfl
theorem whole_int {v : V} (h : wholeV v = true) : ∃ n, v = .int n := by
  cases v with
  | int n => exact ⟨n, rfl⟩
  | _ => cases h
theorem areB_ints {ls : List Int} (h : IsLs ls) : areB (ls.map V.int) = true := by
  refine areB_true fun j hj => ?_
  rw [List.length_map] at hj
  obtain ⟨h1, h2, h3⟩ := h j hj
  have e : (ls.map V.int)[j]? = some (.int (ls.getD j 0)) := by rw [List.getElem?_map, List.getD_eq_getElem?_getD, List.getElem?_eq_getElem hj]; rfl
  rw [okAt_int e, decide_eq_true h1, decide_eq_true h2, Bool.true_and, Bool.true_and]
  by_cases hz : ls.getD j 0 = -1
  · rw [decide_eq_true hz]; rfl
  · rw [decide_eq_false hz, Bool.false_or]
    cases hc : ((ls.map V.int).take j).contains (V.int (ls.getD j 0)) with
    | false => rfl
    | true =>
      exfalso
      have hm := List.contains_iff_mem.mp hc
      obtain ⟨i, hi, ei⟩ := List.mem_iff_getElem.mp hm
      rw [List.length_take] at hi
      rw [List.getElem_take, List.getElem_map] at ei
      have hij : i < j := by omega
      refine h3 hz i hij ?_
      rw [List.getD_eq_getElem?_getD, List.getElem?_eq_getElem (by omega)]
      injection ei
theorem atI_mem {xs : List V} {r : Int} (h0 : 0 ≤ r) (h1 : r < (xs.length : Int)) : ∃ x, atI xs r = some x ∧ x ∈ xs := by
  obtain ⟨n, rfl⟩ : ∃ n : Nat, r = (n : Int) := ⟨r.toNat, by omega⟩
  have hn : n < xs.length := by omega
  exact ⟨xs[n], atI_nat (List.getElem?_eq_getElem hn), List.getElem_mem hn⟩
theorem ints_of : ∀ {ys : List V}, (∀ y ∈ ys, ∃ m, y = V.int m) → ∃ ms : List Int, ys = ms.map V.int
  | [], _ => ⟨[], rfl⟩
  | y :: r, h => by
    obtain ⟨m, rfl⟩ := h y (List.mem_cons_self ..)
    obtain ⟨ms, rfl⟩ := ints_of (ys := r) fun z hz => h z (List.mem_cons_of_mem _ hz)
    exact ⟨m :: ms, rfl⟩
theorem thd_lst {H : Hp} {a : Addr} {xs : List V} (e : H a = some (.lst xs)) (hn : xs.length ≤ 1000) (hx : ∀ x ∈ xs, ThK H x) : ThD H (.ref a) :=
  ⟨.lst e, fun b ys z q => by cases z; rw [e] at q; cases q; exact ⟨hn, hx⟩⟩
def spWholeV : Sp := fun vs H Q _ => ∃ v, vs = [v] ∧ ThK H v ∧ Q (.bl (wholeV v)) H
def spAreV : Sp := fun vs H Q _ => ∃ v, vs = [v] ∧ ThD H v ∧ ∀ H', Same H H' → Q (.bl (areOf H v)) H'
end My

set_option Elab.async false
set_option linter.all false
set_option maxRecDepth 100000
set_option maxHeartbeats 4000000
/-! list(reversed(l)), a[i:j:c], l.count(k), abs. -/
namespace RvL
open PySem PySem.Spec PyProof.Rows
theorem nolen : typeLookup (.type "list_reverseiterator") "__len__" = pure none := by rw [typeLookup_type, builtinLookup_eq_fast]; kernel_rfl
theorem hint : typeLookup (.type "list_reverseiterator") "__length_hint__" = pure (some (.builtin "list_reverseiterator.__length_hint__")) := by rw [typeLookup_type, builtinLookup_eq_fast]; kernel_rfl
section
variable {prog : Program} {w : World} {A : Around} {E : Value → Shared → Prop} {s : Shared} {items : Array Value} {it l : Addr}
theorem extend {R : Result → Shared → Prop} (hh : A.handled = none) (hit : s.heap.IsRevIter it l ((items.size : Int) - 1)) (hl : s.heap.IsList l items) (hne : l ≠ it) (S : Addr) (hSi : S ≠ it) (hSl : S ≠ l) (res : Value) (c0 : Nat)
    (hS : s.heap.get? S = some { cls := .type "list", data := .seq #[] c0 }) (hn : items.size ≤ sizeLine)
    (hR : ∀ h' tk acc c, (∀ b o, b ≠ S → b ≠ it → s.heap.get? b = some o → h'.get? b = some o) → h'.get? S = some { cls := .type "list", dict := none, data := .seq acc c, slots := #[] } → ItemsOf (fun i v => items[items.size - 1 - i]? = some v) acc items.size → R (.ok (.ret res)) { s with heap := h', toks := tk }) :
    wpAny (model prog w) A.in1 (Builtin.List.listExtendWith (.ref S) (.ref it) res)
      (fun fin s' => match fin with | .done f => R (.ok f) s' | .again c' => c'.quiet = true ∧ codeAny (model prog w) A c' R s') (fun x s' => R (.error x) s') s := by
  have hT := hit.typeIs
  have W := (Walks.listRev (prog := prog) (w := w) (A := A.in1) hh it l hne items).toS
  have h1 : Builtin.List.listSameRef (.ref S) (.ref it) = false := by simp [Builtin.List.listSameRef, hSi]
  have hSf : S ∉ [it, l] := fun h => by
    rcases List.mem_cons.mp h with z | z
    · exact hSi z
    · exact hSl (by simpa using z)
  unfold Builtin.List.listExtendWith
  refine wpAny_bind (wpAny_typeOf (T := "list_reverseiterator") hT ?_)
  rw [if_neg (by rw [h1]; decide)]
  refine wpAny_bind (wpAny_pyIter_revIter hit ?_)
  refine wpAny_bind (wpAny_holding ?_)
  unfold Builtin.List.listLengthHint
  refine wpAny_bind (wpAny_specialOf hT nolen ?_)
  show wpAny _ A.in1 (specialOf (Value.ref it) (Str.ofString "__length_hint__") >>= _) _ _ _
  refine wpAny_bind (wpAny_specialOf hT hint ?_)
  (generalize hid : ("list_reverseiterator.__length_hint__" : String) = id0; (fail_if_success (clear hid id0)); wp_delta; rw [show splitId id0 = some ("list_reverseiterator", "__length_hint__") from by subst hid; decide +kernel]; subst hid)
  refine wpAny_bind (wpAny_isInstance (b := true) hT (by rw [isSubtype_type]; kernel_rfl) ?_)
  refine wpAny_pure ?_
  rw [if_neg (by decide)]
  refine wpAny_pure ⟨plainId_quiet PySem.F.plain_extend_loop _, codeAny_extend_loopS W hn S hSf res items.size 0 _ #[] _ rfl (Nat.zero_le _) ⟨Nat.zero_le _, ?_, hl⟩ hS (ItemsOf.nil _) fun s' acc' c' hm hS' hacc => ?_⟩
  · have e : (items.size : Int) - 1 - ((0 : Nat) : Int) = (items.size : Int) - 1 := by omega
    rw [e]; exact hit
  · rw [Moved.eq_with hm]
    refine hR s'.heap s'.toks acc' c' (fun b o hb hi e => hm.heap b o (fun hmem => ?_) e) hS' hacc
    rcases List.mem_cons.mp hmem with e' | hmem
    · exact hb e'
    · exact hi (List.mem_singleton.mp hmem)
theorem call {Q : Value → Shared → Prop} (hh : A.handled = none) (hit : s.heap.IsRevIter it l ((items.size : Int) - 1)) (hl : s.heap.IsList l items) (hne : l ≠ it) (hn : items.size ≤ sizeLine)
    (hQ : ∀ h' tk acc c, (∀ b o, b ≠ it → s.heap.get? b = some o → h'.get? b = some o) → h'.get? s.heap.objs.size = some { cls := .type "list", dict := none, data := .seq acc c, slots := #[] } → ItemsOf (fun i v => items[items.size - 1 - i]? = some v) acc items.size → Q (.ref s.heap.objs.size) { s with heap := h', toks := tk }) :
    wpAny (model prog w) A (PySem.call (.type "list") [.ref it]) Q E s := by
  refine callType_codes (Q₁ := fun obj s₁ => obj = .ref s.heap.objs.size ∧ s₁ = { s with heap := s.heap.push { cls := .type "list", data := .seq #[] } }) PySem.F.called_list (PySem.F.typeCall_list_1 _) PySem.F.entry_list_init (code_list_new _ ⟨rfl, rfl⟩) fun obj s1 h1 => ?_
  obtain ⟨rfl, rfl⟩ := h1
  have hS : (s.heap.push { cls := .type "list", data := .seq #[] }).get? s.heap.objs.size = some { cls := .type "list", data := .seq #[] } := Heap.get?_push_size _ rfl
  have li : it < s.heap.objs.size := by obtain ⟨_, q, _⟩ := hit; exact Heap.lt_size q
  have ll : l < s.heap.objs.size := by obtain ⟨_, q, _⟩ := hl; exact Heap.lt_size q
  refine ⟨⟨_, hS, rfl⟩, PySem.F.args_list_init_2 _ _, ?_⟩
  show wpAny _ _ (do let old ← Builtin.List.listItems (.ref s.heap.objs.size); Builtin.List.listUpdate (.ref s.heap.objs.size) (fun _ => #[]); letGo old.toList.reverse; Builtin.List.listExtendWith (.ref s.heap.objs.size) (.ref it) .none) _ _ _
  refine wpAny_bind ?_
  unfold Builtin.List.listItems
  refine wpAny_bind (wpAny_seqItems hS rfl (wpAny_pure ?_))
  show wpAny _ _ (updateSeq s.heap.objs.size (fun _ => #[]) >>= fun _ => letGo (#[] : Array Value).toList.reverse >>= fun _ => Builtin.List.listExtendWith (.ref s.heap.objs.size) (.ref it) .none) _ _ _
  refine wpAny_bind (wpAny_updateSeq hS rfl ?_)
  have hS2 := Heap.get?_update_self (Obj.mapSeq (fun _ => (#[] : Array Value))) hS rfl
  have oth : ∀ b o, s.heap.get? b = some o → ((s.heap.push { cls := .type "list", data := .seq #[] }).update s.heap.objs.size (Obj.mapSeq (fun _ => (#[] : Array Value)))).get? b = some o :=
    fun b o q => (Heap.get?_update_other _ _ (Nat.ne_of_gt (Heap.lt_size q))).trans (Heap.get?_push_of_some _ q)
  refine wpAny_bind (wpAny_letGo ?_)
  refine extend (A := A.in1) (items := items) (l := l) (it := it) hh (hit.at fun o q => oth it o q) (hl.at fun o q => oth l o q) hne _ (Nat.ne_of_gt li) (Nat.ne_of_gt ll) .none _ hS2 hn fun h' tk acc c hk hS' hacc => ?_
  exact ⟨rfl, hQ h' tk acc c (fun b o h1 q => hk b o (Nat.ne_of_lt (Heap.lt_size q)) h1 (oth b o q)) hS' hacc⟩
end
end RvL
namespace L2
open PySem PySem.Spec PyProof.Rows
theorem boot_reversed' : bootBuiltins "reversed" = some (.type "reversed") := by decide +kernel
theorem boot_abs' : bootBuiltins "abs" = some (.builtin "abs") := by decide +kernel
section
variable {X : Cx} {K : PySem.W.Frag}
def tListRev (K : PySem.W.Frag) (ta : TA) : TE := fun σ H Q => ta σ H fun vs H1 => ∃ a xs, vs = [.ref a] ∧ SqL K H1 a xs ∧ ∀ l, H1 l = none → Q (.ref l) (upd H1 l (.lst xs.reverse))
theorem pe_listRev {e : Expr} {ta : TA} {p p2 pos pos2 : Pos} (eK : X.K = K) (hc : X.calm = true) (hg : Gl X "reversed") (hm : X.mg "reversed" = none) (hg2 : Gl X "list") (hm2 : X.mg "list" = none) (ha : PA X [e] ta) (hs : starEach [e] X.env = [(false, eval e X.env)] := by rfl)
    (hs2 : starEach [.Call (.Name "reversed" p2) [e] [] pos2] X.env = [(false, eval (.Call (.Name "reversed" p2) [e] [] pos2) X.env)] := by rfl) :
    PE X (.Call (.Name "list" p) [.Call (.Name "reversed" p2) [e] [] pos2] [] pos) (tListRev K ta) := by
  subst eK
  intro pins s σ H Q I h
  refine wpAny_Call_Name_kw (ld_blt I hg2 hm2 boot_list' ?_)
  refine PyProof.Rows.callWith_type1 (?_) hs2 rfl
  rw [hs2]
  refine Calls.spliced_cons ?_
  refine Call_ (ld_blt I hg hm boot_reversed' (PyProof.Rows.callWith_type1 (thn (ha pos2 pins s σ H _ I h) fun us s1 ⟨vs, H1, I1, r1, q1⟩ => ?_) hs rfl))
  obtain ⟨a, xs, e1, hq, q⟩ := q1
  subst e1
  obtain ⟨u, rfl, ru⟩ := vals1 r1
  cases ru
  obtain ⟨its, rv, pl, hz⟩ := I1.list hq
  refine call_reversed_list pl.isList ?_
  refine Calls.spliced_nil ?_
  have hlen := rv.length
  have I2 : Inv X pins σ H1 { s1 with heap := s1.heap.push (revObj a ((its.toArray.size : Int) - 1)) } := I1.kept (t' := s1.toks) fun b o e => Heap.get?_push_of_some _ e
  have hal : a < s1.heap.objs.size := by obtain ⟨o, q, _⟩ := pl.isList; exact Heap.lt_size q
  refine RvL.call (s := { s1 with heap := s1.heap.push (revObj a ((its.toArray.size : Int) - 1)) }) (items := its.toArray) (l := a) (it := s1.heap.objs.size) (I2.ok.hd hc) ⟨_, Heap.get?_push_size _ rfl, rfl, rfl⟩ (pl.isList.at fun o z => Heap.get?_push_of_some _ z) (Nat.ne_of_lt hal) (by rw [List.size_toArray, ← hlen]; exact hz) fun h2 tk acc c hk2 hS2 hI => ?_
  dsimp only at hk2 hS2 ⊢
  obtain ⟨hsz, hit⟩ := hI
  have hsp : (s1.heap.push (revObj a ((its.toArray.size : Int) - 1))).objs.size = s1.heap.objs.size + 1 := Heap.size_push ..
  have hle : s1.heap.objs.size ≤ (s1.heap.push (revObj a ((its.toArray.size : Int) - 1))).objs.size := by rw [hsp]; exact Nat.le_succ _
  refine ⟨.ref _, _, I1.laid (t' := tk) (o := .lst xs.reverse) (fun b o z => hk2 b o (Nat.ne_of_lt (Heap.lt_size z)) (Heap.get?_push_of_some _ z)) hle ?_, rfl, q _ (I1.hok.fresh hle)⟩
  refine ⟨by rw [List.length_reverse]; exact hz, acc.toList, c, vals_of_get (by rw [List.length_reverse, hlen]; exact ((Array.length_toList (xs := acc)).trans (hsz.trans List.size_toArray)).symm) fun i x u h1 h2 => ?_, hS2⟩
  have hi : i < xs.length := by
    have := (List.getElem?_eq_some_iff.mp h1).1
    rw [List.length_reverse] at this; exact this
  have e2 := hit i u (by rw [← Array.getElem?_toList]; exact h2)
  rw [List.getElem?_reverse hi] at h1
  obtain ⟨u', eu, ru⟩ := rv.get h1
  rw [List.getElem?_toArray, List.size_toArray, ← hlen, eu] at e2
  cases e2
  exact ru
/-- the items of xs[i:j:c] -/
def pick3 (xs : List V) (i j c : Int) : List V := (sliceRange (sliceBounds (some i) (some j) (some c) xs.length).1 (sliceBounds (some i) (some j) (some c) xs.length).2.1 (sliceBounds (some i) (some j) (some c) xs.length).2.2).filterMap (xs[·]?)
theorem pick3_le {xs : List V} {us : List Value} (r : Vals xs us) (i j c : Int) : (pick3 xs i j c).length ≤ xs.length := by
  have h1 := slicePick_size_le us.toArray (some i) (some j) (some c)
  have h2 := (vals_pick r (sliceRange (sliceBounds (some i) (some j) (some c) xs.length).1 (sliceBounds (some i) (some j) (some c) xs.length).2.1 (sliceBounds (some i) (some j) (some c) xs.length).2.2)).length
  unfold slicePick at h1
  rw [List.size_toArray, List.size_toArray, ← r.length] at h1
  unfold pick3
  rw [h2]
  refine Nat.le_trans (Nat.le_of_eq ?_) h1
  congr 2
  funext i
  rw [List.getElem?_toArray]
theorem pick3_mem {xs : List V} {i j c : Int} {x : V} (h : x ∈ pick3 xs i j c) : x ∈ xs := by
  unfold pick3 at h
  obtain ⟨i, _, e⟩ := List.mem_filterMap.mp h
  exact List.mem_of_getElem? e
variable {e el eh es : Expr} {te tl th ts : TE} {pos p2 : Pos}
def tSl3 (K : PySem.W.Frag) (te tl th ts : TE) : TE := fun σ H Q => te σ H fun x H1 => tl σ H1 fun y1 H2 => ∃ i, y1 = .int i ∧ th σ H2 fun y2 H3 => ∃ j, y2 = .int j ∧ ts σ H3 fun y H4 => ∃ c a xs, y = .int c ∧ c ≠ 0 ∧ x = .ref a ∧ SqL K H4 a xs ∧ ∀ p, H4 p = none → (pick3 xs i j c).length ≤ xs.length → Q (.ref p) (upd H4 p (.lst (pick3 xs i j c)))
/-- a[i:j:c] -/
theorem pe_slice3 (eK : X.K = K) (he : PE X e te) (hl : PE X el tl) (hh : PE X eh th) (hs : PE X es ts) : PE X (.Subscript e (.Slice (some el) (some eh) (some es) p2) pos) (tSl3 K te tl th ts) := by
  subst eK
  intro pins s σ H Q I h
  refine Subscript_ (thn (he pins s σ H _ I h) fun v s1 ⟨x, H1, I1, r1, q1⟩ => ?_)
  refine wpAny_Slice ?_
  rw [evalPart_some]
  refine thn (hl pins s1 σ H1 _ I1 q1) fun v1 s2 ⟨y1, H2, I2, ry1, q2⟩ => ?_
  obtain ⟨i, rfl, q2⟩ := q2
  obtain ⟨t1, rfl⟩ := ry1
  rw [evalPart_some]
  refine thn (hh pins s2 σ H2 _ I2 q2) fun v2 s3 ⟨y2, H3, I3, ry2, q3⟩ => ?_
  obtain ⟨j, rfl, q3⟩ := q3
  obtain ⟨t2, rfl⟩ := ry2
  rw [evalPart_some]
  refine thn (hs pins s3 σ H3 _ I3 q3) fun vs s4 ⟨y, H4, I4, ry, q4⟩ => ?_
  obtain ⟨c, a, xs, rfl, hc, rfl, hx, q⟩ := q4
  obtain ⟨t, rfl⟩ := ry
  cases r1
  have I5 : Inv X pins σ H4 { s4 with heap := s4.heap.push { cls := .type "slice", data := .fields #[.int i t1, .int j t2, .int c t] } } := I4.kept (t' := s4.toks) fun b ob q => Heap.get?_push_of_some _ q
  obtain ⟨its, r, ht, hz⟩ := I5.list hx
  have hlen := r.length
  show wpAny (model X.prog X.w) X.A (subscriptTail e (.Slice (some el) (some eh) (some es) p2) (.ref a) (.ref s4.heap.objs.size)) (EP X pins σ Q) X.xe { s4 with heap := s4.heap.push { cls := .type "slice", data := .fields #[.int i t1, .int j t2, .int c t] } }
  refine tail_any (ops := [.ref a, .ref s4.heap.objs.size]) ht.isList.typeIs slot_list_getitem.lookup ?_ (by with_unfolding_all rfl)
  refine wpAny_getItem_list_slice ht.isList (Heap.IsSliceOf.new ..) (.int i t1) (.int j t2) (.int c t) (by simpa using hc) ?_ (by rw [List.size_toArray] <;> omega)
  refine ⟨.ref _, _, I5.laid (t' := s4.toks) (o := .lst (pick3 xs i j c)) (fun b ob q => Heap.get?_push_of_some _ q) (Nat.le_refl _) ?_, rfl, q _ (I5.hok.fresh (Nat.le_refl _)) (pick3_le r i j c)⟩
  refine ⟨Nat.le_trans (pick3_le r i j c) hz, (slicePick its.toArray (some i) (some j) (some c)).toList, 0, ?_, Heap.get?_push_size _ rfl⟩
  have := vals_pick r (sliceRange (sliceBounds (some i) (some j) (some c) xs.length).1 (sliceBounds (some i) (some j) (some c) xs.length).2.1 (sliceBounds (some i) (some j) (some c) xs.length).2.2)
  unfold slicePick
  rw [List.size_toArray, ← hlen]
  unfold pick3
  rw [show (fun x : Nat => its.toArray[x]?) = (fun x => its[x]?) from funext fun i => List.getElem?_toArray ..]
  exact this
end
end L2

set_option Elab.async false
set_option linter.all false
set_option maxRecDepth 100000
set_option maxHeartbeats 4000000
/-! The windows of a width, their sums; a purse of numbers to draw from. -/
namespace My
open L2
def lineM (ns : List Int) (f : Nat) : List Int := (List.range (ns.length - f + 1)).map fun k => (cnt ns f (f + k) : Int)
theorem line_len (ns : List Int) (f : Nat) : (lineM ns f).length = ns.length - f + 1 := by unfold lineM; rw [List.length_map, List.length_range]
theorem line_at {ns : List Int} {f k : Nat} (h : k < ns.length - f + 1) : (lineM ns f).getD k 0 = (cnt ns f (f + k) : Int) := by
  unfold lineM; rw [List.getD_eq_getElem?_getD, List.getElem?_map, List.getElem?_range h]; rfl
end My
namespace L2
open PySem PySem.Spec PyProof.Rows
/-- a purse: numbers from 0, to be drawn from behind -/
def PurseAt (H : Hp) (p : Addr) : Prop := ∃ ps : List Int, H p = some (.lst (ps.map V.int)) ∧ ps.length ≤ 120 ∧ ∀ x ∈ ps, 0 ≤ x
theorem PurseAt.same {H H' : Hp} {h : Addr} (x : PurseAt H h) (s : Same H H') : PurseAt H' h := let ⟨a, e, r⟩ := x; ⟨a, s h _ e, r⟩
theorem PurseAt.obj {H : Hp} {h : Addr} (x : PurseAt H h) : ∃ o, H h = some o := let ⟨_, e, _⟩ := x; ⟨_, e⟩
theorem PurseAt.new {H : Hp} {h p : Addr} {o : HO} (x : PurseAt H h) (hp : H p = none) : PurseAt (upd H p o) h := x.same (Same.new hp)
theorem PurseAt.ne {H : Hp} {h p : Addr} (x : PurseAt H h) (hp : H p = none) : p ≠ h := fun e => by obtain ⟨o, q⟩ := x.obj; rw [e, q] at hp; cases hp
theorem PurseAt.put {H : Hp} {h p : Addr} {o : HO} (x : PurseAt H h) (hp : p ≠ h) : PurseAt (upd H p o) h := let ⟨a, e, r⟩ := x; ⟨a, by rw [upd_ne hp.symm]; exact e, r⟩
def spMixed : Sp := fun vs H Q _ => ∃ c k : Int, vs = [.int c, .int k] ∧ ∀ r : Int, 0 ≤ r → Q (.int r) H
def spPurse (K : PySem.W.Frag) : Sp := fun vs H Q _ => ∃ (a : Addr) (ns : List Int) (i c : Int) (m : Nat), vs = [.ref a, .int i, .int c, .int m] ∧ SqL K H a (ns.map V.int) ∧ ns.length ≤ 63 ∧ c ≠ 0 ∧ m ≤ 120 ∧ ∀ (l : Addr) (H' : Hp), H l = none → Same H H' → PurseAt H' l → Q (.ref l) H'
def spNext : Sp := fun vs H Q _ => ∃ p : Addr, vs = [.ref p] ∧ PurseAt H p ∧ ∀ (r : Int) (H' : Hp), 0 ≤ r → PurseAt H' p → SameX p H H' → Q (.int r) H'
def valM (w a : Int) : Int := if w = 0 then a else if w = 1 then 10 ^ 20 - a else if w = 2 then [-1, 1].getD (a % 2).toNat 0 * (10 ^ 18 + a) else if w = 3 then a - 20 else 977 * a - 10 ^ 20
def spValue : Sp := fun vs H Q _ => ∃ w a : Int, vs = [.int w, .int a] ∧ ∀ H', Same H H' → Q (.int (valM w a)) H'
theorem neNil {K : PySem.W.Frag} {H : Hp} {Q : VK} {a b : Addr} {xs : List V} (ha : SqL K H a xs) (hb : SqL K H b []) (q : Q (.bl (!decide (xs = []))) H) : rEqL K true (.ref a) (.ref b) H Q := by
  refine ⟨a, b, _, _, rfl, rfl, ha, hb, fun h => ?_, ?_⟩
  · have : xs = [] := List.length_eq_zero_iff.mp h
    subst this; exact ⟨rfl, rfl⟩
  · have e : eqVs xs [] = decide (xs = []) := by
      cases xs with
      | nil => rfl
      | cons x r => rfl
    rw [e]; exact q
def spLines (K : PySem.W.Frag) : Sp := fun vs H Q _ => ∃ (a : Addr) (ns : List Int), vs = [.ref a] ∧ SqL K H a (ns.map V.int) ∧ ns.length ≤ 310 ∧ ∀ (S : Addr) (as : List Addr) (H' : Hp), H S = none → Same H H' → H' S = some (.lst (as.map V.ref)) → as.length = ns.length + 1 → (∀ (f : Nat) (l : Addr), as[f]? = some l → H l = none ∧ H' l = some (.lst ((My.lineM ns f).map V.int))) → Q (.ref S) H'
theorem valV_len {kvs : List (Key × V)} {k : Key} (v : V) : (putK kvs k v).length = kvs.length + if (valV kvs k).isSome = true then 0 else 1 := by
  cases h : valV kvs k with
  | none => rw [putK_new v h, List.length_append]; rfl
  | some y =>
    have q : (kvs.any fun kv => decide (kv.1 = k)) = true := by rw [valV_any, h]; rfl
    unfold putK
    rw [if_pos q, List.length_map]; rfl
end L2

set_option Elab.async false
set_option linter.all false
set_option maxRecDepth 100000
set_option maxHeartbeats 4000000
/-! Windows with so many: gains, reaches, stretches, counts. -/
namespace My
open L2
end My
namespace L2
open PySem PySem.Spec PyProof.Rows
end L2

set_option Elab.async false
set_option linter.all false
set_option maxRecDepth 100000
set_option maxHeartbeats 4000000
/-! max and min of a list by a key and with a default. -/
namespace L2
open PySem PySem.Spec PyProof.Rows
section
variable {X : Cx} {pins : List (Addr × Obj)} {σ : St} {H : Hp} {s : Shared}
/-- between two turns: j items are seen, the i-th is the best -/
def MxAt (X : Cx) (pins : List (Addr × Obj)) (σ : St) (H2 : Hp) (l S It : Addr) (xs : List V) (ge gt : Int → Int → Prop) (kf : Nat → Int) (j : Nat) (s : Shared) : Prop :=
  ∃ (H : Hp) (i : Nat) (vb : Value) (x : V) (tb : Tok) (c : Nat), Inv X pins σ H s ∧ Same H2 H ∧ SqL X.K H l xs ∧ s.heap.IsListIter It l j ∧ s.heap.get? S = some (seqObj "list" #[vb, .int (kf i) tb] c) ∧ FpOk X pins H S ∧ FpOk X pins H It ∧ S ≠ It ∧
    xs[i]? = some x ∧ RelV x vb ∧ i < j ∧ ∀ j', j' < j → ge (kf i) (kf j') ∧ (j' < i → gt (kf i) (kf j'))
end

section
variable {X : Cx} {pins : List (Addr × Obj)} {σ : St} {H2 : Hp} {k : Nat} {f l S It : Addr} {fd : FuncData} {ps : List Str} {sp : Sp} {xs : List V} {kf : Nat → Int}
end

section
variable {X : Cx} {pins : List (Addr × Obj)} {σ : St} {H2 : Hp} {k : Nat} {f l S It : Addr} {fd : FuncData} {ps : List Str} {sp : Sp} {xs : List V} {kf : Nat → Int}
end

section
variable {X : Cx} {K : PySem.W.Frag} {x : Str} {k : Nat} {ps : List Str} {sp : Sp} {e d : Expr} {te td : TE} {p pk pos k1 k2 : Pos}
end
end L2

set_option Elab.async false
set_option linter.all false
set_option maxRecDepth 100000
set_option maxHeartbeats 4000000
/-! repr of a tuple of small ints, of a list of such. -/
namespace L2
open PySem PySem.Spec PyProof.Rows
theorem boot_repr' : bootBuiltins "repr" = some (.builtin "repr") := by decide +kernel
/-- a number that is told in few figures -/
def smallI (n : Int) : Prop := 0 ≤ n ∧ n ≤ 1000
theorem small_shown : ∀ n : Nat, n < 1001 → (PyData.shown (.int (n : Int))).length ≤ 8 := by decide +kernel
theorem small_log {n : Int} (h : smallI n) : n.natAbs.log2 < 1920 ∧ n.natAbs.log2 < 10 := by
  obtain ⟨h0, h1⟩ := h
  by_cases z : n.natAbs = 0
  · rw [z]; decide
  · have : n.natAbs.log2 < 10 := (Nat.log2_lt z).mpr (by omega)
    omega
theorem int_facts {n : Int} (h : smallI n) : (PyData.int n).showable = true ∧ (PyData.int n).leavesShort 8 = true ∧ (PyData.int n).weight ≤ 10 := by
  obtain ⟨l1, l2⟩ := small_log h
  refine ⟨decide_eq_true l1, ?_, ?_⟩
  · have e : n = ((n.toNat : Nat) : Int) := by have := h.1; omega
    have hs := small_shown n.toNat (by have := h.1; have := h.2; omega)
    rw [← e] at hs
    exact decide_eq_true hs
  · show (if n == 0 then 0 else n.natAbs.log2 + 1) ≤ 10
    split <;> omega
theorem ints_facts : ∀ {ns : List Int}, (∀ n ∈ ns, smallI n) → PyData.showableAll (ns.map PyData.int) = true ∧ PyData.leavesShortAll 8 (ns.map PyData.int) = true ∧ PyData.weightAll (ns.map PyData.int) ≤ 11 * ns.length ∧ PyData.hasDictAll (ns.map PyData.int) = false ∧ PyData.depthAll (ns.map PyData.int) = 0
  | [], _ => ⟨rfl, rfl, Nat.le_refl _, rfl, rfl⟩
  | n :: r, h => by
    obtain ⟨a1, a2, a3⟩ := int_facts (h n List.mem_cons_self)
    obtain ⟨b1, b2, b3, b4, b5⟩ := ints_facts (ns := r) fun m hm => h m (List.mem_cons_of_mem _ hm)
    refine ⟨?_, ?_, ?_, ?_, ?_⟩
    · show (PyData.showable (.int n) && PyData.showableAll (r.map PyData.int)) = true
      rw [a1, b1]; rfl
    · show (PyData.leavesShort 8 (.int n) && PyData.leavesShortAll 8 (r.map PyData.int)) = true
      rw [a2, b2]; rfl
    · show PyData.weight (.int n) + 1 + PyData.weightAll (r.map PyData.int) ≤ 11 * (r.length + 1)
      omega
    · show (PyData.hasDict (.int n) || PyData.hasDictAll (r.map PyData.int)) = false
      rw [b4]; rfl
    · show max (PyData.depth (.int n)) (PyData.depthAll (r.map PyData.int)) = 0
      rw [b5]; rfl
section
variable {X : Cx} {pins : List (Addr × Obj)} {σ : St} {H : Hp} {s : Shared}
theorem reads_ints {h : Heap} : ∀ {ns : List Int} {us : List Value}, Vals (ns.map V.int) us → ReadsAll h us (ns.map PyData.int) []
  | [], us, r => by cases r; exact .nil
  | n :: ns, us, r => by
    rw [List.map_cons] at r
    cases r with
    | cons r1 r2 =>
      obtain ⟨t, e⟩ := r1
      subst e
      exact .cons (as := []) (bs := []) (.int n t) (reads_ints r2)
end
end L2

set_option Elab.async false
set_option linter.all false
set_option maxRecDepth 100000
set_option maxHeartbeats 4000000
/-! == of tuples of ints, of None, of lists of tuples. -/
namespace L2
open PySem PySem.Spec PyProof.Rows
theorem all_eq {ns ms : List Int} : ((List.range (min ns.length ms.length)).all (fun j => ns.getD j 0 == ms.getD j 0) && ns.length == ms.length) = decide (ns = ms) := by
  by_cases h : ns = ms
  · subst h
    rw [decide_eq_true rfl]
    simp
  · rw [decide_eq_false h]
    by_cases hl : ns.length = ms.length
    · have : ¬ ∀ j, j < ns.length → ns.getD j 0 = ms.getD j 0 := fun z => h (My.ext_getD hl z)
      rw [Bool.and_eq_false_iff]
      refine .inl ?_
      rw [← Bool.not_eq_true, List.all_eq_true]
      intro z
      refine this fun j hj => ?_
      have := z j (List.mem_range.mpr (by omega))
      simpa using this
    · rw [Bool.and_eq_false_iff]
      exact .inr (by simpa using hl)
section
variable {X : Cx} {K : PySem.W.Frag} {pins : List (Addr × Obj)} {σ : St} {H : Hp} {s : Shared}
theorem ints_eqAt {A : Around} {ns ms : List Int} {us ws : List Value} (r : Vals (ns.map V.int) us) (q : Vals (ms.map V.int) ws) (j : Nat) (h1 : j < us.toArray.size) (h2 : j < ws.toArray.size) : SeqAt.EqAt A s us.toArray[j] ws.toArray[j] (ns.getD j 0 == ms.getD j 0) := by
  have := eqL_go (A := A) (s := s) r q (flat_ints ns) (flat_ints ms) j h1 h2
  have hx : j < ns.length := by have := r.length; rw [List.length_map] at this; simp at h1; omega
  have hy : j < ms.length := by have := q.length; rw [List.length_map] at this; simp at h2; omega
  have e1 : (ns.map V.int).getD j .non = .int (ns.getD j 0) := by rw [List.getD_eq_getElem?_getD, List.getElem?_map, List.getElem?_eq_getElem hx, List.getD_eq_getElem?_getD, List.getElem?_eq_getElem hx]; rfl
  have e2 : (ms.map V.int).getD j .non = .int (ms.getD j 0) := by rw [List.getD_eq_getElem?_getD, List.getElem?_map, List.getElem?_eq_getElem hy, List.getD_eq_getElem?_getD, List.getElem?_eq_getElem hy]; rfl
  rw [e1, e2] at this
  exact this
theorem refs_at {ts : List Addr} {us : List Value} (r : Vals (ts.map V.ref) us) {j : Nat} (h : j < us.toArray.size) : ∃ t, ts[j]? = some t ∧ us.toArray[j] = .ref t := by
  have hl := r.length
  rw [List.length_map] at hl
  have hj : j < ts.length := by simp at h; omega
  obtain ⟨u, eu, ru⟩ := r.get (i := j) (x := .ref ts[j]) (by rw [List.getElem?_map, List.getElem?_eq_getElem hj]; rfl)
  cases ru
  refine ⟨ts[j], List.getElem?_eq_getElem hj, ?_⟩
  have := List.getElem?_eq_getElem (l := us) (i := j) (by simpa using h)
  rw [eu] at this
  simpa using (Option.some.inj this).symm
theorem all_eqL {xss yss : List (List Int)} (hl : xss.length = yss.length) : (List.range xss.length).all (fun j => xss.getD j [] == yss.getD j []) = decide (xss = yss) := by
  by_cases h : xss = yss
  · subst h; simp
  · rw [decide_eq_false h, ← Bool.not_eq_true, List.all_eq_true]
    intro z
    refine h (List.ext_getElem hl fun j h1 h2 => ?_)
    have := z j (List.mem_range.mpr h1)
    rw [List.getD_eq_getElem?_getD, List.getElem?_eq_getElem h1, List.getD_eq_getElem?_getD, List.getElem?_eq_getElem h2] at this
    simpa using this
end
end L2

set_option Elab.async false
set_option linter.all false
set_option maxRecDepth 100000
set_option maxHeartbeats 4000000
/-! Widths of like rows, of rows from behind; totals; the longest window within. -/
namespace My
open L2
theorem cnt_congr {as bs : List Int} (hl : as.length = bs.length) (h : lastsM as = lastsM bs) {f b : Nat} (hb : b ≤ as.length) : cnt as f b = cnt bs f b := by
  unfold cnt firstsM
  rw [List.length_map, List.length_map]
  congr 1
  refine List.filter_congr fun i hi => ?_
  have hi' : i < b - f := List.mem_range.mp hi
  rw [← lasts_getD (show f + i < as.length by omega), ← lasts_getD (show f + i < bs.length by omega), h]
end My
namespace L2
open PySem PySem.Spec PyProof.Rows
end L2

set_option Elab.async false
set_option linter.all false
set_option maxRecDepth 100000
set_option maxHeartbeats 4000000
/-! The longest and the shortest window with just so many. -/
namespace My
open L2
end My
namespace L2
open PySem PySem.Spec PyProof.Rows
end L2

set_option Elab.async false
set_option linter.all false
set_option maxRecDepth 100000
set_option maxHeartbeats 4000000
/-! Tuples or None; a comprehension of tuples. -/
namespace My
open L2
/-- the names so far: by the order in which numbers come -/
theorem dd_take_succ {ns : List Int} {i : Nat} (h : i < ns.length) : dd (ns.take (i + 1)) = if ns.getD i 0 ∈ dd (ns.take i) then dd (ns.take i) else dd (ns.take i) ++ [ns.getD i 0] := by
  rw [take_snoc (getD_some h), dd_snoc]
  by_cases z : ns.getD i 0 ∈ dd (ns.take i)
  · rw [if_pos z, if_pos (by rw [any_mem]; exact decide_eq_true z)]
  · rw [if_neg z, if_neg (by rw [any_mem, decide_eq_false z]; exact Bool.false_ne_true)]
theorem dd_take_le {ns : List Int} : ∀ {i : Nat}, i ≤ ns.length → (dd (ns.take i)).length ≤ i
  | 0, _ => Nat.le_refl _
  | i + 1, h => by
    have := dd_take_le (ns := ns) (i := i) (by omega)
    rw [dd_take_succ (by omega)]
    split
    · omega
    · rw [List.length_append]; show _ + 1 ≤ _; omega
end My
namespace L2
open PySem PySem.Spec PyProof.Rows My
end L2

set_option Elab.async false
set_option linter.all false
set_option maxRecDepth 100000
set_option maxHeartbeats 4000000
namespace My
open L2
end My
namespace L2
open PySem PySem.Spec PyProof.Rows My
end L2

set_option Elab.async false
set_option linter.all false
set_option maxRecDepth 100000
set_option maxHeartbeats 4000000
/-! Rows by a rule: round and round, and each number so many times. -/
namespace My
open L2
-- round
-- stood
end My
namespace L2
open PySem PySem.Spec PyProof.Rows My
end L2

set_option Elab.async false
set_option linter.all false
set_option maxRecDepth 100000
set_option maxHeartbeats 4000000
/-! A row otherwise: other names, from behind, one more number. -/
namespace My
open L2
-- from behind
-- one more behind
-- one more ahead
-- all counts together
end My
namespace L2
open PySem PySem.Spec PyProof.Rows My
end L2

set_option Elab.async false
set_option linter.all false
set_option maxRecDepth 100000
set_option maxHeartbeats 4000000
/-! Draws: numbers to be taken from the front; the fewest windows of a row. -/
namespace L2
open PySem PySem.Spec PyProof.Rows
end L2
namespace My
open L2
end My
namespace L2
open PySem PySem.Spec PyProof.Rows
end L2

set_option Elab.async false
set_option linter.all false
set_option maxRecDepth 100000
set_option maxHeartbeats 4000000
/-! Tables. -/
namespace L2
open PySem PySem.Spec PyProof.Rows
def spLineOf (K : PySem.W.Frag) : Sp := fun vs H Q _ => ∃ (a : Addr) (ns : List Int) (f : Nat), vs = [.ref a, .int f] ∧ SqL K H a ((My.lastsM ns).map V.int) ∧ f ≤ ns.length ∧ ns.length ≤ 900 ∧ ∀ (l : Addr) (H' : Hp), H l = none → Same H H' → H' l = some (.lst ((My.lineM ns f).map V.int)) → Q (.ref l) H'
theorem ref_at {as : List Addr} {f : Nat} {y : V} (h : (as.map V.ref)[f]? = some y) : ∃ l, as[f]? = some l ∧ y = .ref l ∧ f < as.length := by
  rw [List.getElem?_map] at h
  cases z : as[f]? with
  | none => rw [z] at h; cases h
  | some l => rw [z] at h; exact ⟨l, rfl, (Option.some.inj h).symm, (List.getElem?_eq_some_iff.mp z).1⟩
theorem atI_ref {as : List Addr} {f : Nat} {l : Addr} (h : as[f]? = some l) : atI (as.map V.ref) (f : Int) = some (.ref l) := atI_nat (by rw [List.getElem?_map, h]; rfl)
theorem get_of {α : Type} {as : List α} {f : Nat} (h : f < as.length) : ∃ l, as[f]? = some l := ⟨as[f], List.getElem?_eq_getElem h⟩
end L2

set_option Elab.async false
set_option linter.all false
set_option maxRecDepth 100000
set_option maxHeartbeats 4000000
/-! == of lists of lists of ints. -/
namespace L2
open PySem PySem.Spec PyProof.Rows
def LstsAt (H : Hp) (ts : List Addr) (xss : List (List Int)) : Prop := ts.length = xss.length ∧ ∀ (i : Nat) (t : Addr) (xs : List Int), ts[i]? = some t → xss[i]? = some xs → H t = some (.lst (xs.map V.int))
theorem LstsAt.same {H H' : Hp} {ts : List Addr} {xss : List (List Int)} (x : LstsAt H ts xss) (s : Same H H') : LstsAt H' ts xss := ⟨x.1, fun i t xs h1 h2 => s _ _ (x.2 i t xs h1 h2)⟩
section
variable {X : Cx} {K : PySem.W.Frag} {pins : List (Addr × Obj)} {σ : St} {H : Hp} {s : Shared}
theorem rc_list {A : Around} {t t' : Addr} {ns ms : List Int} (I : Inv X pins σ H s) (e1 : SqL X.K H t (ns.map V.int)) (e2 : SqL X.K H t' (ms.map V.int)) (hu : A.units < cLine) : SeqAt.RcAt A s (.ref t) (.ref t') (decide (ns = ms)) := by
  obtain ⟨us, r1, p1, _⟩ := I.list e1
  obtain ⟨ws, r2, p2, _⟩ := I.list e2
  have l1 := r1.length
  have l2 := r2.length
  rw [List.length_map] at l1 l2
  by_cases hl : ns.length = ms.length
  · have := SeqAt.RcAt.lists (A := A) p1.isList p2.isList (by simp only [List.size_toArray]; omega) hu (e := fun j => ns.getD j 0 == ms.getD j 0) fun j h1 h2 => ints_eqAt r1 r2 j h1 h2
    have e : (List.range us.toArray.size).all (fun j => ns.getD j 0 == ms.getD j 0) = decide (ns = ms) := by
      rw [List.size_toArray, ← l1, ← all_eq (ns := ns) (ms := ms), ← hl, Nat.min_self, beq_self_eq_true, Bool.and_true]
    rw [e] at this
    exact this
  · rw [decide_eq_false (fun z => hl (by rw [z]))]
    exact SeqAt.RcAt.lists_lengths p1.isList p2.isList (by simp only [List.size_toArray, bne_iff_ne, ne_eq]; omega) hu
def rEqLL (K : PySem.W.Frag) (neg : Bool) : R2 := fun x y H Q => ∃ a b ts us xss yss, x = .ref a ∧ y = .ref b ∧ SqL K H a (ts.map V.ref) ∧ SqL K H b (us.map V.ref) ∧ LstsAt H ts xss ∧ LstsAt H us yss ∧ Q (.bl (if neg then !decide (xss = yss) else decide (xss = yss))) H
theorem lsts_eqAt {A : Around} {ts us : List Addr} {xss yss : List (List Int)} {vs ws : List Value} (I : Inv X pins σ H s) (r : Vals (ts.map V.ref) vs) (q : Vals (us.map V.ref) ws) (hx : LstsAt H ts xss) (hy : LstsAt H us yss) (hu : A.units < cLine) (j : Nat) (h1 : j < vs.toArray.size) (h2 : j < ws.toArray.size) :
    SeqAt.EqAt A s vs.toArray[j] ws.toArray[j] (xss.getD j [] == yss.getD j []) := by
  obtain ⟨t, et, ev⟩ := refs_at r h1
  obtain ⟨t', et', ev'⟩ := refs_at q h2
  have hjx : j < xss.length := by rw [← hx.1]; exact (List.getElem?_eq_some_iff.mp et).1
  have hjy : j < yss.length := by rw [← hy.1]; exact (List.getElem?_eq_some_iff.mp et').1
  have ex := hx.2 j t _ et (List.getElem?_eq_getElem hjx)
  have ey := hy.2 j t' _ et' (List.getElem?_eq_getElem hjy)
  rw [ev, ev', List.getD_eq_getElem?_getD, List.getElem?_eq_getElem hjx, List.getD_eq_getElem?_getD, List.getElem?_eq_getElem hjy, Option.getD_some, Option.getD_some]
  by_cases z : t = t'
  · subst z
    rw [ex] at ey
    have : xss[j].map V.int = yss[j].map V.int := by injection ey with y; injection y
    have e : xss[j] = yss[j] := (List.map_inj_right (fun a b h => by injection h)).mp this
    rw [e, beq_self_eq_true]
    exact SeqAt.EqAt.same _
  · have := SeqAt.EqAt.of_refs z (rc_list (A := A) I (SqL.of ex) (SqL.of ey) hu)
    have e : decide (xss[j] = yss[j]) = (xss[j] == yss[j]) := by
      by_cases y : xss[j] = yss[j]
      · rw [decide_eq_true y, y, beq_self_eq_true]
      · rw [decide_eq_false y]; exact (beq_eq_false_iff_ne.mpr y).symm
    rw [← e]; exact this
theorem op_eqLL (e : X.K = K) (hu : X.A.units + 1 < cLine) : OpR X (compareOp .Eq) (rEqLL K false) := by
  subst e
  intro pins s σ H x y v u Q I rx ry h
  obtain ⟨a, b, ts, us, xss, yss, rfl, rfl, ha, hb, hx, hy, q⟩ := h
  cases rx
  cases ry
  obtain ⟨vs, r1, p1, _⟩ := I.list ha
  obtain ⟨ws, r2, p2, _⟩ := I.list hb
  have l1 := r1.length
  have l2 := r2.length
  rw [List.length_map, hx.1] at l1
  rw [List.length_map, hy.1] at l2
  by_cases hl : xss.length = yss.length
  · refine SeqAt.eq_listAt (e := fun j => xss.getD j [] == yss.getD j []) p1.isList p2.isList (by simp only [List.size_toArray]; omega) (by omega) (fun j h1 h2 => lsts_eqAt (A := X.A.in1) I r1 r2 hx hy hu j h1 h2) ⟨.bl _, H, I, rfl, ?_⟩
    rw [List.size_toArray, ← l1, all_eqL hl]; exact q
  · refine SeqAt.eq_list_lengthsAt p1.isList p2.isList (by simp only [List.size_toArray, bne_iff_ne, ne_eq]; omega) (by omega) ⟨.bl _, H, I, rfl, ?_⟩
    have e : decide (xss = yss) = false := decide_eq_false fun z => hl (by rw [z])
    rw [e] at q; exact q
theorem op_neLL (e : X.K = K) (hu : X.A.units + 1 < cLine) : OpR X (compareOp .NotEq) (rEqLL K true) := by
  subst e
  intro pins s σ H x y v u Q I rx ry h
  obtain ⟨a, b, ts, us, xss, yss, rfl, rfl, ha, hb, hx, hy, q⟩ := h
  cases rx
  cases ry
  obtain ⟨vs, r1, p1, _⟩ := I.list ha
  obtain ⟨ws, r2, p2, _⟩ := I.list hb
  have l1 := r1.length
  have l2 := r2.length
  rw [List.length_map, hx.1] at l1
  rw [List.length_map, hy.1] at l2
  by_cases hl : xss.length = yss.length
  · refine SeqAt.RcNeAt.lists (e := fun j => xss.getD j [] == yss.getD j []) p1.isList p2.isList (by simp only [List.size_toArray]; omega) (by omega) (fun j h1 h2 => lsts_eqAt (A := X.A.in1) I r1 r2 hx hy hu j h1 h2) _ _ _ _ ⟨.bl _, H, I, rfl, ?_⟩
    rw [List.size_toArray, ← l1, all_eqL hl]; exact q
  · refine SeqAt.RcNeAt.lists_lengths p1.isList p2.isList (by simp only [List.size_toArray, bne_iff_ne, ne_eq]; omega) (by omega) _ _ _ _ ⟨.bl _, H, I, rfl, ?_⟩
    have e : decide (xss = yss) = false := decide_eq_false fun z => hl (by rw [z])
    rw [e] at q; exact q
end
/-- the table's lines -/
def tabM (ns : List Int) : List (List Int) := (List.range (ns.length + 1)).map (My.lineM ns)
theorem tab_len (ns : List Int) : (tabM ns).length = ns.length + 1 := by unfold tabM; rw [List.length_map, List.length_range]
theorem tab_get {ns : List Int} {f : Nat} (h : f ≤ ns.length) : (tabM ns)[f]? = some (My.lineM ns f) := by
  unfold tabM; rw [List.getElem?_map, List.getElem?_range (by omega)]; rfl
theorem LstsAt.tab {H : Hp} {as : List Addr} {ns : List Int} (hl : as.length = ns.length + 1) (h : ∀ (f : Nat) (l : Addr), as[f]? = some l → H l = some (.lst ((My.lineM ns f).map V.int))) : LstsAt H as (tabM ns) := by
  refine ⟨by rw [tab_len, hl], fun i t xs h1 h2 => ?_⟩
  have hi := (List.getElem?_eq_some_iff.mp h1).1
  rw [tab_get (by omega)] at h2
  rw [← Option.some.inj h2]
  exact h i t h1
theorem eqLL {K : PySem.W.Frag} {H : Hp} {Q : VK} {a b : Addr} {ts us : List Addr} {xss yss : List (List Int)} (ha : H a = some (.lst (ts.map V.ref))) (hb : H b = some (.lst (us.map V.ref))) (hx : LstsAt H ts xss) (hy : LstsAt H us yss) (q : Q (.bl (decide (xss = yss))) H) : rEqLL K false (.ref a) (.ref b) H Q :=
  ⟨a, b, ts, us, xss, yss, rfl, rfl, SqL.of ha, SqL.of hb, hx, hy, q⟩
theorem neLL {K : PySem.W.Frag} {H : Hp} {Q : VK} {a b : Addr} {ts us : List Addr} {xss yss : List (List Int)} (ha : H a = some (.lst (ts.map V.ref))) (hb : H b = some (.lst (us.map V.ref))) (hx : LstsAt H ts xss) (hy : LstsAt H us yss) (q : Q (.bl (!decide (xss = yss))) H) : rEqLL K true (.ref a) (.ref b) H Q :=
  ⟨a, b, ts, us, xss, yss, rfl, rfl, SqL.of ha, SqL.of hb, hx, hy, q⟩
end L2
namespace L2
open PySem PySem.Spec PyProof.Rows
/-- a heap without one object -/
def off (h : Addr) (H : Hp) : Hp := fun b => if b = h then none else H b
theorem off_same (h : Addr) (H : Hp) : Same (off h H) H := fun b o e => by
  unfold off at e
  split at e
  · cases e
  · exact e
theorem off_at {h : Addr} {H : Hp} {b : Addr} {o : HO} (n : b ≠ h) (e : H b = some o) : off h H b = some o := by unfold off; rw [if_neg n]; exact e
theorem off_of {A B : Hp} {h : Addr} (s : Same A B) (n : A h = none) : Same A (off h B) := fun b o e => off_at (ne_of_none e n) (s b o e)
theorem off_x {h : Addr} {H H' : Hp} (s : SameX h H H') : Same (off h H) (off h H') := fun b o e => by
  unfold off at e
  split at e
  · cases e
  · rename_i n; exact off_at n (s b o n e)
/-- a def without a promise of its own: how long a row may be -/
def spMostP (K : PySem.W.Frag) : Sp := fun vs H Q _ => ∃ (a : Addr) (ns : List Int) (k : Int), vs = [.ref a, .int k] ∧ SqL K H a (ns.map V.int) ∧ ns.length ≤ 63 ∧ 0 ≤ k ∧ k < 3 ∧ ∀ (m : Nat) (H' : Hp), 1 ≤ m → m ≤ 150 → Same H H' → Q (.int m) H'
end L2

set_option Elab.async false
set_option linter.all false
set_option maxRecDepth 100000
set_option maxHeartbeats 4000000
/-! Taking a list apart into names; methods without arguments; live rows. -/
namespace L2
open PySem PySem.Spec PyProof.Rows
section
variable {prog : Program} {w : World} {A : Around} {E : Value → Shared → Prop} {s : Shared}
end
section
variable {X : Cx} {K : PySem.W.Frag} {pos : Pos}
end
end L2
namespace My
open L2
end My
namespace L2
open PySem PySem.Spec PyProof.Rows
end L2
namespace L2
open PySem PySem.Spec PyProof.Rows
end L2
namespace L2
open PySem PySem.Spec PyProof.Rows
end L2

set_option Elab.async false
set_option linter.all false
set_option maxRecDepth 100000
set_option maxHeartbeats 4000000
/-! A live row and what the law keeps of it. -/
namespace L2
open PySem PySem.Spec PyProof.Rows
end L2
namespace L2
open PySem PySem.Spec PyProof.Rows
end L2
namespace L2
open PySem PySem.Spec PyProof.Rows
end L2
namespace L2
open PySem PySem.Spec PyProof.Rows
end L2
namespace L2
open PySem PySem.Spec PyProof.Rows
end L2

set_option Elab.async false
set_option linter.all false
set_option maxRecDepth 100000
set_option maxHeartbeats 4000000
/-! == of tuples of ints and lists of ints. -/
namespace L2
open PySem PySem.Spec PyProof.Rows
section
variable {X : Cx} {K : PySem.W.Frag} {pins : List (Addr × Obj)} {σ : St} {H : Hp} {s : Shared}
end
end L2
namespace My
open L2
end My
namespace L2
open PySem PySem.Spec PyProof.Rows
end L2
namespace L2
open PySem PySem.Spec PyProof.Rows
end L2
namespace L2
open PySem PySem.Spec PyProof.Rows
end L2
namespace My
open L2
end My
namespace L2
open PySem PySem.Spec PyProof.Rows
end L2
namespace L2
open PySem PySem.Spec PyProof.Rows
end L2

set_option Elab.async false
set_option linter.all false
set_option maxRecDepth 100000
set_option maxHeartbeats 4000000
/-! A live row and a list of all its rows, the last one that of now. -/
namespace L2
open PySem PySem.Spec PyProof.Rows
end L2

set_option Elab.async false
set_option linter.all false
set_option maxRecDepth 100000
set_option maxHeartbeats 4000000
/-! Exceptions of the program's own classes: raised, passing through defs, caught. -/
namespace L2
open PySem PySem.Spec PyProof.Rows
section
variable {P : Program} {w : World} {fs : List Addr} {H H' : Hp} {h0 h1 h2 B : Heap}
theorem fly_un (U : Un fs [] H H' h0 h1) (cov : ∀ b o0 o, h0.get? b = some o0 → h1.get? b = some o → b ∉ fs → B.get? b = some o) (st : B.StaysIn h2) (up : ∀ b o, b ∈ fs → h1.get? b = some o → ∃ sl, h2.get? b = some { o with slots := sl }) : Un fs [] H H' h0 h2 :=
  ⟨fun b o e n hb hx => st _ _ (cov b o o e (U.keep b o e n hb hx) hb),
   fun b o e n hb hx => by
     obtain ⟨sl, e1⟩ := U.slot b o e n hb hx
     obtain ⟨sl', e2⟩ := up b _ hb e1
     exact ⟨sl', e2⟩,
   U.free,
   fun b o e hx => by
     obtain ⟨o1, e1⟩ := U.there b o e hx
     by_cases hb : b ∈ fs
     · obtain ⟨sl, e2⟩ := up b _ hb e1
       exact ⟨_, e2⟩
     · exact ⟨o1, st _ _ (cov b o o1 e e1 hb)⟩,
   U.tups, U.frzs, U.tbls⟩
theorem fly_hok (hok : HOk P w H' h1) (cov : ∀ b u o, H' b = some u → h1.get? b = some o → B.get? b = some o) (st : B.StaysIn h2) : HOk P w H' h2 := fun a o e =>
  (hok a o e).stay (fun b u hb q => st _ _ (by
    rcases hb with z | z
    · exact cov b o u (by rw [z]; exact e) q
    · exact cov b _ u z q)) (fun _ q => q) fun _ _ q => q
end
theorem ObjOk.obj {P : Program} {w : World} {H : Hp} {h : Heap} {a : Addr} {o : HO} (x : ObjOk P w H h a o) : ∃ ob, h.get? a = some ob := by
  cases o with
  | lst xs => obtain ⟨_, _, _, _, e⟩ := x; exact ⟨_, e⟩
  | tup xs => obtain ⟨_, _, _, p⟩ := x; obtain ⟨o, e, _⟩ := p; exact ⟨o, e⟩
  | dK kvs => obtain ⟨_, _, _, _, o, _, _, e, _⟩ := x; exact ⟨_, e⟩
  | dT kvs => obtain ⟨_, _, _, _, o, _, _, e, _⟩ := x; exact ⟨_, e⟩
  | set S n => obtain ⟨o, _, _, _, e, _⟩ := x; exact ⟨_, e⟩
  | ins C dx fs => obtain ⟨_, _, _, e, _⟩ := x; exact ⟨_, e⟩
  | own y => obtain ⟨_, e⟩ := x; exact ⟨_, e⟩
  | xd fs => obtain ⟨_, ⟨_, _, _, e, _⟩, _⟩ := x; exact ⟨_, e⟩
  | rng lo hi => obtain ⟨_, _, _, e⟩ := x; exact ⟨_, e⟩
  | frz ob u => obtain ⟨e, _⟩ := x; exact ⟨_, e⟩
  | tbl ps => exact ⟨_, show h.get? a = some _ from x⟩
  | met f y => exact ⟨_, show h.get? a = some _ from x⟩
  | ext φ => obtain ⟨_, ⟨_, e⟩, _⟩ := x; exact ⟨_, e⟩
/-- an exception of an own class behind a call: what is tracked and what was there ahead of the call stays while it flies -/
def CXe (P : Program) (w : World) : CXT := fun outer H s E e s' => ∃ (ea C t : Addr) (B : Heap) (H' : Hp), e = .ref ea ∧ s'.os = s.os ∧ AllBare s'.gens ∧ Un (frs outer) [] H H' s.heap s'.heap ∧ HOk P w H' s'.heap ∧ H' ea = none ∧ s.heap.get? ea = none ∧
  Heap.FlyingW B outer ea (.ref C) (.ref t) s'.heap ∧ (∀ b u o, H' b = some u → s'.heap.get? b = some o → B.get? b = some o) ∧ (∀ b o0 o, s.heap.get? b = some o0 → s'.heap.get? b = some o → b ∉ frs outer → B.get? b = some o) ∧ E (.ref C) none H'
theorem frs_of_mem {h base : Heap} {l : List Env} (F : h.FunFrames base l) {b : Addr} (hb : b ∈ frs l) : ∃ o, h.get? b = some o ∧ ∀ vs, o.data ≠ .fields vs := (F.mem hb).2
section
variable {P : Program} {w : World} {K : PySem.W.Frag} {mg : Str → Option Value} {base : Heap} {N : List Str} {qual : Str} {scope : Scope} {f : Addr} {cd : Value} {A : Around} {outer : List Env} {s0 : Shared} {H0 : Hp} {E : XK}
abbrev cxE (P : Program) (w : World) (K : PySem.W.Frag) (mg : Str → Option Value) (base : Heap) (N : List Str) (qual : Str) (scope : Scope) (f : Addr) (cd : Value) (A : Around) (outer : List Env) (s0 : Shared) (H0 : Hp) (E : XK) : Cx := cxOf (CXe P w) P w K mg base N qual scope f cd A outer s0 H0 E
/-- made here, it leaves the frame -/
theorem raised {pins : List (Addr × Obj)} {σ : St} {H : Hp} {s : Shared} {h' : Heap} {ea C : Addr} {vs : List Value} (I : Inv (cxE P w K mg base N qual scope f cd A outer s0 H0 E) pins σ H s) (hx : Heap.MadeExcOf s.heap h' ea (.ref C) vs) (e : E (.ref C) none H) :
    (cxE P w K mg base N qual scope f cd A outer s0 H0 E).xe (.ref ea) { s with heap := h' } := by
  have hstk := I.stack
  have hin : ∀ env ∈ (cxE P w K mg base N qual scope f cd A outer s0 H0 E).stack, ∀ b, env.frame = some b → b ∈ frs (cxE P w K mg base N qual scope f cd A outer s0 H0 E).stack := fun env he b hb => List.mem_filterMap.mpr ⟨env, he, hb⟩
  refine wpAny_leaves_madeW (base := PySem.W.hideAll s.heap (frs (cxE P w K mg base N qual scope f cd A outer s0 H0 E).stack)) (h := s.heap) I.ok.frames rfl (fun b o q => PySem.W.of_hideAll _ q) (PySem.W.funFrames_hide hstk hin) hx fun h2 t fl tup hn up => ?_
  have hsz : ∀ b o0, s0.heap.get? b = some o0 → b ∉ frs outer → b ∉ frs (cxE P w K mg base N qual scope f cd A outer s0 H0 E).stack := fun b o0 e1 nb m => by
    rcases List.mem_cons.mp m with z | z
    · rw [z] at e1; exact absurd (Heap.lt_size e1) (Nat.lt_irrefl _)
    · exact nb z
  have cov2 : ∀ b o0 o, s0.heap.get? b = some o0 → s.heap.get? b = some o → b ∉ frs outer → (PySem.W.hideAll s.heap (frs (cxE P w K mg base N qual scope f cd A outer s0 H0 E).stack)).get? b = some o := fun b o0 o e1 e2 nb => PySem.W.hideAll_get _ e2 (hsz b o0 e1 nb)
  have cov1 : ∀ b u o, H b = some u → s.heap.get? b = some o → (PySem.W.hideAll s.heap (frs (cxE P w K mg base N qual scope f cd A outer s0 H0 E).stack)).get? b = some o := fun b u o e1 e2 => PySem.W.hideAll_get _ e2 fun m => by
    rw [I.stkFree b m] at e1; cases e1
  have st := fl.1
  have U : Un (frs outer) [] H0 H s0.heap h2 := fly_un I.base cov2 st fun b o hb e1 => by
    obtain ⟨o', e2, nd⟩ := frs_of_mem I.funs hb
    rw [e1] at e2; cases e2
    exact up b o (hx.keeps _ _ e1) nd
  have bk : ∀ b o, (∃ o1, s.heap.get? b = some o1 ∧ (PySem.W.hideAll s.heap (frs (cxE P w K mg base N qual scope f cd A outer s0 H0 E).stack)).get? b = some o1) → h2.get? b = some o → (PySem.W.hideAll s.heap (frs (cxE P w K mg base N qual scope f cd A outer s0 H0 E).stack)).get? b = some o := fun b o ⟨o1, _, e2⟩ e3 => by
    have := st _ _ e2
    rw [e3] at this; cases this; exact e2
  have hea : H ea = none := by
    cases q : H ea with
    | none => rfl
    | some u => obtain ⟨o1, e3⟩ := (I.hok ea u q).obj; rw [hx.new] at e3; cases e3
  have hea0 : s0.heap.get? ea = none := by
    cases q : s0.heap.get? ea with
    | none => rfl
    | some u =>
      obtain ⟨o', e1⟩ := I.base.there ea u q (by simp [cxE, cxOf])
      rw [hx.new] at e1; cases e1
  refine ⟨ea, C, t, _, H, rfl, I.os, I.bare, U, fly_hok I.hok cov1 st, hea, hea0, fl, fun b u o e1 e2 => bk b o ?_ e2, fun b o0 o e1 e2 nb => bk b o ?_ e2, e⟩
  · obtain ⟨o1, e3⟩ := (I.hok b u e1).obj
    exact ⟨o1, e3, cov1 b u o1 e1 e3⟩
  · obtain ⟨o1, e3⟩ := I.base.there b o0 e1 (by simp [cxE, cxOf])
    exact ⟨o1, e3, cov2 b o0 o1 e1 e3 nb⟩
/-- an exception of a callee passes through -/
theorem passed : Passes (CXe P w) (cxE P w K mg base N qual scope f cd A outer s0 H0 E) E := by
  rintro pins σ H s e s' I ⟨ea, C, t, B, H', rfl, os, bare, U, hok, hea, hea0, fl, c1, c2, he⟩
  obtain ⟨h1, g1, d1, t1, os1⟩ := s'
  obtain rfl : os1 = s.os := os
  have I' : Inv (cxE P w K mg base N qual scope f cd A outer s0 H0 E) pins σ H' { s with heap := h1, gens := g1, drawn := d1, toks := t1 } := I.call (ch := []) U hok bare (fun b z => absurd z (by simp))
  refine wpAny_leaves_onW I.ok.frames rfl fl fun h2 fl2 up => ?_
  have st := fl2.1
  have hsz : ∀ b o0, s0.heap.get? b = some o0 → b ∉ frs outer → b ∉ frs (cxE P w K mg base N qual scope f cd A outer s0 H0 E).stack := fun b o0 e1 nb m => by
    rcases List.mem_cons.mp m with z | z
    · rw [z] at e1; exact absurd (Heap.lt_size e1) (Nat.lt_irrefl _)
    · exact nb z
  have cov2 : ∀ b o0 o, s0.heap.get? b = some o0 → h1.get? b = some o → b ∉ frs outer → B.get? b = some o := fun b o0 o e1 e2 nb => by
    obtain ⟨o1, e3⟩ := I.base.there b o0 e1 (by simp [cxE, cxOf])
    exact c2 b o1 o e3 e2 (hsz b o0 e1 nb)
  have U2 : Un (frs outer) [] H0 H' s0.heap h2 := fly_un I'.base cov2 st fun b o hb e1 => by
    obtain ⟨o', e2, nd⟩ := frs_of_mem I'.funs hb
    have e2' : h1.get? b = some o' := e2
    rw [e1] at e2'; cases e2'
    exact up b o e1 nd
  have hea2 : s0.heap.get? ea = none := by
    cases q : s0.heap.get? ea with
    | none => rfl
    | some u =>
      obtain ⟨o', e1⟩ := I.base.there ea u q (by simp [cxE, cxOf])
      rw [hea0] at e1; cases e1
  have bk : ∀ b o, (∃ o1, B.get? b = some o1) → h2.get? b = some o → B.get? b = some o := fun b o ⟨o1, e2⟩ e3 => by
    have := st _ _ e2
    rw [e3] at this; cases this; exact e2
  refine ⟨ea, C, t, B, H', rfl, I.os, bare, U2, fly_hok hok c1 st, hea, hea2, fl2, fun b u o e1 e2 => bk b o ?_ e2, fun b o0 o e1 e2 nb => bk b o ?_ e2, he⟩
  · obtain ⟨o1, e3⟩ := (hok b u e1).obj
    exact ⟨o1, c1 b u o1 e1 e3⟩
  · obtain ⟨o1, e3⟩ := I'.base.there b o0 e1 (by simp [cxE, cxOf])
    exact ⟨o1, cov2 b o0 o1 e1 e3 nb⟩
end
end L2
namespace L2
open PySem PySem.Spec PyProof.Rows
abbrev mroV : List Value := [.type "ValueError", .type "Exception", .type "BaseException", .type "object"]
/-- an own class below ValueError, as it stands in the text -/
structure XCl (K : PySem.W.Frag) (mg : Str → Option Value) (x : Str) (C : Addr) : Prop where
  bound : mg x = some (.ref C)
  exc : PySem.W.excIn K C mroV "ValueError.__new__" = true
theorem exc_obj {K : PySem.W.Frag} {h : Heap} {C : Addr} {bmB : List Value} {newId : String} (X : K.In h) (q : PySem.W.excIn K C bmB newId = true) :
    ∃ bm N nm qn bs hdct sn sub ab col dd k0 k1 k2 k3 k5 mN, h.get? C = some (excClassObj nm qn C N bs bm hdct sn sub ab col dd k0 k1 k2 k3 k5 newId) ∧ h.Ns N mN ∧ mN "__init__" = none ∧ OwnTail h bmB bm := by
  unfold PySem.W.excIn at q
  split at q
  · rename_i di cdat slo look
    split at q
    · rename_i Cs tl s0 s1 s2 s3 nid s5 em es
      simp only [Bool.and_eq_true, Bool.not_eq_true', beq_iff_eq] at q
      obtain ⟨⟨⟨⟨⟨e1, e2⟩, e3⟩, e4⟩, e5⟩, e6⟩ := q
      subst e1 e2
      obtain ⟨na, bas, mr, nsp, qua, hdi, slN, subs, abst, coll, dele⟩ := cdat
      dsimp only at em e3 e5 e6
      subst em e3
      obtain ⟨sll⟩ := slo
      dsimp only at es
      subst es
      exact ⟨tl, nsp, na, qua, bas, hdi, slN, subs, abst, coll, di, s0, s1, s2, s3, s5, _, X _ _ look, .of_isNs (PySem.W.isNs_of_in X e5), PySem.W.nsMap_none_of_in X e5 e6, PySem.W.tail_of_in X e4⟩
    · cases q
  · cases q
def tRaise (C : Addr) (E : XK) (t : TA) : TS := fun _ σ H => t σ H fun vs H1 => vs.length ≤ sizeLine ∧ E (.ref C) none H1
section
variable {P : Program} {w : World} {K : PySem.W.Frag} {mg : Str → Option Value} {base : Heap} {N : List Str} {qual : Str} {scope : Scope} {f : Addr} {cd : Value} {A : Around} {outer : List Env} {s0 : Shared} {H0 : Hp} {E : XK}
theorem ps_raise {x : Str} {C : Addr} {np cpos pos : Pos} {e : Expr} {es : List Expr} {t : TA} (c : XCl K mg x C) (hg : Gl (cxE P w K mg base N qual scope f cd A outer s0 H0 E) x) (ha : PA (cxE P w K mg base N qual scope f cd A outer s0 H0 E) (e :: es) t)
    (hdb : (x == ("__debug__" : Str)) = false := by decide) (he : starEach (e :: es) (cxE P w K mg base N qual scope f cd A outer s0 H0 E).env = (false, eval e (cxE P w K mg base N qual scope f cd A outer s0 H0 E).env) :: starEach es (cxE P w K mg base N qual scope f cd A outer s0 H0 E).env := by rfl)
    (hpl : (backTo cpos (starEach es (cxE P w K mg base N qual scope f cd A outer s0 H0 E).env)).any (·.1) = false := by rfl) :
    PS (cxE P w K mg base N qual scope f cd A outer s0 H0 E) (.Raise (some (.Call (.Name x np) (e :: es) [] cpos)) none pos) (tRaise C E t) := by
  intro pins s σ H D I hq
  obtain ⟨bm, NN, nm, qn, bs, hdct, sn, sub, ab, col, dd, k0, k1, k2, k3, k5, mN, hC, hN, hni, T⟩ := exc_obj I.mod.kin c.exc
  refine wpAny_Raise_call_subT (C := C) (nm := nm) (q := qn) (N := NN) (bs := bs) (bm := bm) (hdct := hdct) (sn := sn) (sub := sub) (ab := ab) (col := col) (dd := dd) (k0 := k0) (k1 := k1) (k2 := k2) (k3 := k3) (k5 := k5) PySem.F.excBase_ValueError (mN := mN)
    (T.hasType PySem.F.excBase_ValueError.hasBase) (I.ok.hd rfl) (by rw [he]; show (false || (backTo cpos (starEach es (cxE P w K mg base N qual scope f cd A outer s0 H0 E).env)).any (·.1)) = false; rw [hpl]; rfl) hni (ld_glob I hg c.bound ⟨rfl, ?_⟩ hdb)
  have h2 := ha cpos pins s σ H _ I hq
  rw [he] at h2 ⊢
  refine Calls.evalArgs_plain (wpAny_mono h2 (fun vs s2 h3 => ?_) fun _ _ y => y)
  obtain ⟨xs, H1, I1, r, z, e1⟩ := h3
  exact ⟨rfl, by rw [← r.length]; exact z, I1.bk _ _ hC, hN.keeps I1.bk, T.keeps I1.bk, fun h' ea hm => raised I1 hm e1⟩
end
section
variable {P : Program} {w : World} {K : PySem.W.Frag} {mg : Str → Option Value} {base : Heap}
theorem Fun.okE {x qual : Str} {st : Stmt} {f : Addr} {fd : FuncData} {N ps : List Str} {k : Nat} {sp : Sp} (F : Fun K x qual st f fd) (S : FnScope N ps (defScope st)) (len : ∀ vs H Q E, sp vs H Q E → vs.length = ps.length)
    (hbody : ∀ (cdv : Value) (A : Around) (outer : List Env) (s : Shared) (H : Hp) (vs : List V) (Q : VK) (E : XK), Room k (A.deeper (envOfC qual (defScope st) s.heap.objs.size f cdv)) → sp vs H Q E →
      ∃ t, PSs (cxE P w K mg base N qual (defScope st) f cdv A outer s H E) (defBody st) t ∧ t { nx := fun _ H' => Q .non H', rt := Q } (start N vs) H) : FnOk P w K mg base (CXe P w) (k + 1) f fd ps sp := by
  obtain ⟨oc, od, kV, doc, pm, an, cdv, ct, osl, rfl, lk, hcd⟩ := F.ex
  exact fn_of lk hcd S len fun A outer s H vs Q E hr hsp => hbody cdv A outer s H vs Q E hr hsp
end
structure HasE (P : Program) (w : World) (K : PySem.W.Frag) (mg : Str → Option Value) (base : Heap) (x : Str) (k : Nat) (ps : List Str) (sp : Sp) : Prop where
  ex : ∃ f fd, FnOk P w K mg base (CXe P w) k f fd ps sp ∧ mg x = some (.ref f) ∧ PySem.W.keepIn K (.ref f) = true ∧ Binds K fd ps []
theorem pe_callE {X : Cx} {k : Nat} {ps : List Str} {sp : Sp} {x : Str} {p pos : Pos} {e : Expr} {es : List Expr} {t : TA} {E : XK} (h : HasE X.prog X.w X.K X.mg X.base x k ps sp) (hx : Passes (CXe X.prog X.w) X E) (hr : Room k X.A) (hg : Gl X x) (ha : PA X (e :: es) t)
    (hdb : (x == ("__debug__" : Str)) = false := by decide) (he : starEach (e :: es) X.env = (false, eval e X.env) :: starEach es X.env := by rfl) (hpl : (backTo pos (starEach es X.env)).any (·.1) = false := by rfl) :
    PE X (.Call (.Name x p) (e :: es) [] pos) (tCall sp [] E t) := by
  obtain ⟨f, fd, F, hm, hk, hb⟩ := h.ex
  exact pe_call F hr hg hm hk hb .nil hx ha hdb he hpl
section
variable {X : Cx} {C : Addr} {m : Str} {k : Nat} {ps : List Str} {sp : Sp} {o e : Expr} {es : List Expr} {ta : TE} {t : TA} {apos pos : Pos} {E : XK}
theorem PS.nox {X : Cx} {st : Stmt} {t : TS} (h : PS X.nox st t) : PS X st t := fun pins s σ H D I hw =>
  wpAny_mono (h pins s σ H D (I.wish _) hw) (fun _ _ q => q.unwish) fun _ _ z => False.elim z
end
end L2
namespace L2
open PySem PySem.Spec PyProof.Rows
/-- within a try: what is wanted of an exception, the pins kept -/
abbrev Cx.flt (X : Cx) (pn : List (Addr × Obj)) (W : Value → Shared → Prop) : Cx := { X with pn := X.pn ++ pn, xe := W }
/-- within an except suite; no exception leaves -/
abbrev Cx.hnd (X : Cx) (e : Value) : Cx := { X with A := X.A.mark (some e), calm := false, xe := fun _ _ => False }
section
variable {X : Cx} {pins ps : List (Addr × Obj)} {σ : St} {H : Hp} {s : Shared} {W : Value → Shared → Prop} {e : Value}
theorem Cx.Ok.flt (ok : X.Ok) : (X.flt ps W).Ok :=
  ⟨ok.mod, ok.kind, ok.glob, ok.blt, ok.above, ok.inj, ok.has, ok.cab, ok.hd, ok.frames, ok.stk, ok.exf, ok.bs, ok.bsz, ok.noex, ok.exfs, ok.funs, ok.frf⟩
theorem Cx.Ok.unflt (ok : (X.flt ps W).Ok) : X.Ok :=
  ⟨ok.mod, ok.kind, ok.glob, ok.blt, ok.above, ok.inj, ok.has, ok.cab, ok.hd, ok.frames, ok.stk, ok.exf, ok.bs, ok.bsz, ok.noex, ok.exfs, ok.funs, ok.frf⟩
theorem Cx.Ok.hnd (ok : X.Ok) : (X.hnd e).Ok :=
  ⟨ok.mod, ok.kind, ok.glob, ok.blt, ok.above, ok.inj, ok.has, ok.cab, fun z => (Bool.false_ne_true z).elim, ok.frames, ok.stk, ok.exf, ok.bs, ok.bsz, ok.noex, ok.exfs, ok.funs, ok.frf⟩
theorem Inv.flt (I : Inv X pins σ H s) : Inv (X.flt pins W) [] σ H s := ⟨I.ok.flt, I.os, I.bare, I.base, I.loc, I.cell, I.free, I.freeC, fun p hp => I.pin p (by rw [List.append_nil] at hp; exact hp), I.hok, I.len⟩
theorem Inv.unflt (I : Inv (X.flt pins W) ps σ H s) : Inv X pins σ H s := ⟨I.ok.unflt, I.os, I.bare, I.base, I.loc, I.cell, I.free, I.freeC, fun p hp => I.pin p (List.mem_append_left _ hp), I.hok, I.len⟩
theorem Inv.hnd (I : Inv X pins σ H s) : Inv (X.hnd e) pins σ H s := ⟨I.ok.hnd, I.os, I.bare, I.base, I.loc, I.cell, I.free, I.freeC, I.pin, I.hok, I.len⟩
theorem Inv.unhnd (I : Inv (X.hnd e) pins σ H s) (ok : X.Ok) : Inv X pins σ H s := ⟨ok, I.os, I.bare, I.base, I.loc, I.cell, I.free, I.freeC, I.pin, I.hok, I.len⟩
theorem SP.unflt {D : Ends} {f : Flow} {s' : Shared} (h : SP (X.flt pins W) ps D f s') : SP X pins D f s' := by
  cases f with
  | next => obtain ⟨σ', H', I, q⟩ := h; exact ⟨σ', H', I.unflt, q⟩
  | brk => obtain ⟨σ', H', I, q⟩ := h; exact ⟨σ', H', I.unflt, q⟩
  | cont => obtain ⟨σ', H', I, q⟩ := h; exact ⟨σ', H', I.unflt, q⟩
  | ret u => obtain ⟨v, σ', H', I, r, q⟩ := h; exact ⟨v, σ', H', I.unflt, r, q⟩
end
section
variable {M : Model} {E : Value → Shared → Prop} {A : Around}
/-- the exception's class lies below the clause's -/
theorem excMatches_below {h : Heap} {g : Array GenState} {d : Drawn} {t : Nat} {os : OsState} {e C D : Addr} {oe : Obj} {Q : Bool → Shared → Prop} {K : PySem.W.Frag} (X : K.In h) (qC : PySem.W.excIn K C mroV "ValueError.__new__" = true) (qD : PySem.W.excIn K D mroV "ValueError.__new__" = true)
    (hm : PySem.W.mroIn K C (.ref D) = some true) (he : h.get? e = some oe) (hcls : oe.cls = .ref C) (hq : Q true ⟨h, g, d, t, os⟩) : wpAny M A (excMatches (.ref e) (.ref D)) Q E ⟨h, g, d, t, os⟩ := by
  obtain ⟨bm, NN, nm, qn, bs, hdct, sn, sub, ab, col, dd, k0, k1, k2, k3, k5, mN, hC, hN, hni, T⟩ := exc_obj X qC
  obtain ⟨bm', NN', nm', qn', bs', hdct', sn', sub', ab', col', dd', k0', k1', k2', k3', k5', mN', hD, hN', hni', T'⟩ := exc_obj X qD
  have hcB : (Value.ref D :: bm').contains (.type "BaseException") = true := by rw [List.contains_cons, T'.hasType PySem.F.excBase_ValueError.hasBase, Bool.or_true]
  have hcC : (Value.ref C :: bm).contains (.ref D) = true := by
    obtain ⟨cd, a, b⟩ := Option.bind_eq_some_iff.mp hm
    unfold PySem.W.clsIn at a
    split at a
    · rename_i ho
      cases a
      have hh := X _ _ ho
      rw [hC] at hh
      injection hh with hh
      have hd := congrArg (fun o => o.data) hh
      injection hd with hd
      subst hd
      split at b
      · cases b
      · exact Option.some.inj b
    · cases a
  have f := tc_notTuple
  unfold excMatches
  repeat (first | (with_reducible refine wpAny_loadPart_at he ?_; rw [hcls]) | with_reducible refine wpAny_loadPart_at hD ?_ | (with_reducible refine wpAny_isSubtype_exc hD ?_; rw [hcB]) | (with_reducible refine wpAny_isSubtype_exc hC ?_; rw [hcC]) | wp_step)
  exact hq
end
end L2
namespace L2
open PySem PySem.Spec PyProof.Rows
section
variable {X : Cx} {pins : List (Addr × Obj)} {σ : St} {H : Hp} {s : Shared}
/-- how it lies in wait: the state ahead of the call that raised -/
def Fl (X : Cx) (pins : List (Addr × Obj)) (E : XK) (e : Value) (s' : Shared) : Prop := ∃ σ H s, Inv X pins σ H s ∧ CXe X.prog X.w X.stack H s E e s'
theorem Fl.passes {E : XK} : Passes (CXe X.prog X.w) (X.flt pins (Fl X pins E)) E := fun ps σ H s e s' I h => ⟨σ, H, s, I.unflt, h⟩
end
end L2

set_option Elab.async false
set_option linter.all false
set_option maxRecDepth 100000
set_option maxHeartbeats 4000000
/-! isinstance of an exception of an own class. -/
namespace L2
open PySem PySem.Spec PyProof.Rows PySem.W
structure XAt (K : PySem.W.Frag) (C : Addr) : Prop where
  ga : findIn K (.ref C) "__getattribute__" = some (some (.builtin "BaseException.__getattribute__"))
  gt : findIn K (.ref C) "__getattr__" = some none
  cl : findIn K (.ref C) "__class__" = some (some (.builtin "object.__class__"))
  ob : mroIn K C (.type "object") = some true
  be : mroIn K C (.type "BaseException") = some true
section
variable {prog : Program} {w : World} {A : Around} {E : Value → Shared → Prop} {h : Heap} {g : Array GenState} {d : Drawn} {t : Nat} {os : OsState} {a C : Addr} {K : PySem.W.Frag}
def CAt (h : Heap) (a C : Addr) : Prop := ∃ ob, h.get? a = some ob ∧ ob.cls = .ref C
theorem CAt.ty {M : Model} (I : CAt h a C) : Looks M h (typeOf (.ref a)) (.ref C) := by
  obtain ⟨ob, e1, e2⟩ := I
  rw [← e2]
  exact (Looks.ld e1).andThen .now
theorem xc_get {tp : Value} {R : Result → Shared → Prop} (Z : XAt K C) (X : K.In h) (I : CAt h a C) (q : R (.ok (.ret (.ref C))) ⟨h, g, d, t, os⟩) :
    codeAny (model prog w) A (.call (.builtin "getset_descriptor.__get__") ⟨[.builtin "object.__class__", .ref a, tp], []⟩) R ⟨h, g, d, t, os⟩ := by
  have Ly := I.ty (M := model prog w)
  have Lm := looks_mroIn (M := model prog w) X Z.ob
  refine codeAny_call_builtin KF.slot_gs.plain KF.entry_gs ?_
  refine KF.slot_gs.check _ _ _ _ _ _ _ _ KF.type_class (KF.args_gs _ _ _) ?_
  unfold Builtin.«getset_descriptor.__get__» Builtin.Getset_descriptor.descrGet
  rw [dga_obj]
  refine wpAny_bind (wpAny_pure ?_)
  unfold Builtin.Getset_descriptor.descrGetter Builtin.Getset_descriptor.descrCheckInstance Builtin.Getset_descriptor.descrNameAndClass isInstance
  simp only [KF.owner_class]
  repeat lk
  refine ⟨Code.quiet_builtin _ (by decide +kernel), ?_⟩
  refine codeAny_builtin KF.entry_class ?_
  unfold Builtin.«object.__class__»
  unfold shownTypeOf
  repeat lk
  exact q
theorem xc_entry {tk : Tok} {Q : Fin → Shared → Prop} (Z : XAt K C) (X : K.In h) (I : CAt h a C) (hq : Q (.done (.ret (.ref C))) ⟨h, g, d, t, os⟩) :
    wpAny (model prog w) A (Builtin.«object.__getattribute__» ⟨[Value.ref a, Value.str "__class__" tk], []⟩) Q E ⟨h, g, d, t, os⟩ := by
  have L0 := I.ty (M := model prog w)
  have L1 := looks_findIn (M := model prog w) X Z.cl
  have f5 := KF.type_class
  have ll := And.intro F.slot_gs_get.lookup F.slot_gs_set.lookup
  obtain ⟨l6, l7⟩ := ll
  repeat (any_goals (first | assumption | (with_reducible refine L0.at ?_) | (with_reducible refine L1.at ?_) | wp_step))
  exact xc_get Z X I (wpAny_pure hq)
theorem xc_check {M : Model} {nameV : Value} {Q : Unit → Shared → Prop} (Z : XAt K C) (X : K.In h) (I : CAt h a C) (hq : Q () ⟨h, g, d, t, os⟩) :
    wpAny M A (checkBuiltinCall "BaseException.__getattribute__" ⟨[.ref a, nameV], []⟩) Q E ⟨h, g, d, t, os⟩ := by
  have b1 : builtinKind "BaseException.__getattribute__" = some .slot := by decide +kernel
  have b2 : splitId "BaseException.__getattribute__" = some ("BaseException", "__getattribute__") := by decide +kernel
  have L0 := I.ty (M := M)
  have L1 := looks_mroIn (M := M) X Z.be
  have b3 := F.args_bexc_ga (.ref a) nameV
  simp only [checkBuiltinCall, b1, b2]
  refine wpAny_bind ?_
  · unfold isInstance
    repeat (first | (with_reducible refine L0.at ?_) | (with_reducible refine L1.at ?_) | wp_step)
    exact hq
theorem xc_call {tk : Tok} {R : Result → Shared → Prop} (Z : XAt K C) (X : K.In h) (I : CAt h a C) (hq : R (.ok (.ret (.ref C))) ⟨h, g, d, t, os⟩) :
    codeAny (model prog w) A (.call (.builtin "BaseException.__getattribute__") ⟨[.ref a, .str "__class__" tk], []⟩) R ⟨h, g, d, t, os⟩ :=
  codeAny_call_builtin F.excAttr_ValueError.ga.plain F.entry_bexc_ga (xc_check Z X I (xc_entry Z X I hq))
theorem xc_by {tk : Tok} {fill expr : Bool} {Q : Value → Shared → Prop} (Z : XAt K C) (X : K.In h) (I : CAt h a C) (hq : Q (.ref C) ⟨h, g, d, t, os⟩) :
    wpAny (model prog w) A (getAttrBy (.ref a) (.str "__class__" tk) fill expr) Q E ⟨h, g, d, t, os⟩ := by
  have f3 := F.excAttr_ValueError.ga.bind (.ref a)
  have y0 : (expr && onTheHeap (Value.builtin "BaseException.__getattribute__")) = false := by cases expr <;> rfl
  have y2 : (Value.builtin "BaseException.__getattribute__" == Value.builtin "object.__getattribute__") = false := by decide +kernel
  have y1 : (onTheHeap (Value.ref C) && Value.builtin "BaseException.__getattribute__" == Value.builtin "object.__getattribute__") = false := by rw [y2]; rfl
  have L0 := I.ty (M := model prog w)
  have L1 := looks_findIn (M := model prog w) X Z.ga
  have L2 := looks_findIn (M := model prog w) X Z.gt
  repeat (any_goals (first | assumption | (with_reducible refine L0.at ?_) | (with_reducible refine L1.at ?_) | (with_reducible refine L2.at ?_) | wp_step))
  refine xc_call Z X I ?_
  repeat (any_goals first | assumption | wp_step)
theorem xc_attr {Q : Option Value → Shared → Prop} (Z : XAt K C) (X : K.In h) (I : CAt h a C) (hq : Q (some (.ref C)) ⟨h, g, d, t + 1, os⟩) :
    wpAny (model prog w) A (getAttr? (.ref a) "__class__") Q E ⟨h, g, d, t, os⟩ := by
  unfold getAttr? getAttrBy?
  refine wpAny_bind (wpAny_mkText (wpAny_bind (wpAny_attempt (xc_by Z X I ?_))))
  exact wpAny_pure hq
theorem isCls (Z : XAt K C) : ∃ oc od cdd osl, K.lookup C = some ⟨oc, od, .cls cdd, osl⟩ := by
  obtain ⟨cdd, e, _⟩ := Option.bind_eq_some_iff.mp Z.ob
  unfold clsIn at e
  split at e
  · rename_i oc od cc osl look
    exact ⟨oc, od, cc, osl, look⟩
  · cases e
theorem kitx_exc (Z : XAt K C) : KitX K (.ref a) (.ref C) (fun h => CAt h a C) where
  ty := fun _ _ _ I => I.ty
  it := fun _ _ X _ => by
    obtain ⟨oc, od, cc, osl, look⟩ := isCls Z
    intro _ _ _ _ kp qq
    unfold isType loadHead
    refine wpAny_bind ?_
    exact wpAny_loadPart (kp _ _ (X _ _ look)) (wpAny_pure qq)
  ne := fun _ tp _ _ _ _ X e => by
    obtain ⟨oc, od, cc, osl, look⟩ := isCls Z
    cases q : ((Value.ref C) == Value.ref tp) with
    | false => rfl
    | true =>
      obtain rfl : C = tp := Value.ref.inj (beq_iff_eq.mp q)
      have := X _ _ look
      rw [e] at this; cases this
  ca := fun {_ _ _ _ _ s} X I k => by obtain ⟨h, g, d, t, os⟩ := s; exact xc_attr Z X I k
end
end L2
namespace L2
open PySem PySem.Spec PyProof.Rows
/-- an exception that was caught -/
def excO (ea C : Addr) : HO := .ext fun h => CAt h ea C
theorem excO_ok {P : Program} {w : World} {H : Hp} {h : Heap} {ea C : Addr} (x : CAt h ea C) : ObjOk P w H h ea (excO ea C) :=
  ⟨x, let ⟨o, e, _⟩ := x; ⟨o, e⟩, fun _ _ ⟨o, e, c⟩ k => ⟨o, k o e, c⟩⟩
theorem HOk.add {P : Program} {w : World} {H : Hp} {h : Heap} {a : Addr} {o : HO} (x : HOk P w H h) (n : H a = none) (new : ObjOk P w (upd H a o) h a o) : HOk P w (upd H a o) h := fun b u e => by
  by_cases hb : b = a
  · subst hb; rw [upd_same] at e; cases e; exact new
  · rw [upd_ne hb] at e
    exact (x b u e).stay (fun _ _ _ q => q) (fun c q => by rw [upd_ne (ne_of_none q n)]; exact q) fun c xs q => by rw [upd_ne (ne_of_none q n)]; exact q
section
variable {X : Cx} {pins : List (Addr × Obj)} {σ : St} {H H' : Hp} {s : Shared}
/-- a thing that was not there ahead of the call is tracked from now on -/
theorem Inv.track {s1 : Shared} {a : Addr} {o : HO} (Ic : Inv X pins σ H s) (hex : X.ex = []) (na : s.heap.get? a = none) (I : Inv X pins σ H' s1) (n : H' a = none) (new : ObjOk X.prog X.w (upd H' a o) s1.heap a o) : Inv X pins σ (upd H' a o) s1 := by
  have ne : ∀ {b : Addr} {ob : Obj}, s.heap.get? b = some ob → b ≠ a := fun e z => by rw [z, na] at e; cases e
  have ne0 : ∀ {b : Addr} {ob : Obj}, X.s₀.heap.get? b = some ob → b ≠ a := fun {b ob} e => by
    obtain ⟨o', e'⟩ := Ic.base.there b ob e (by rw [hex]; simp)
    exact ne e'
  have neH : ∀ {b : Addr} {u : HO}, H' b = some u → b ≠ a := fun e z => by rw [z, n] at e; cases e
  refine ⟨I.ok, I.os, I.bare, ⟨I.base.keep, I.base.slot, fun b ob e z hx => by rw [upd_ne (ne0 e)]; exact I.base.free b ob e z hx, I.base.there, fun b xs e => ?_, fun b ob u e => ?_, fun b ps e => ?_⟩, I.loc, I.cell, ?_, fun x c e => ?_, fun p hp => ?_, I.hok.add n new, I.len⟩
  · have := I.base.tups b xs e
    rw [upd_ne (neH this)]; exact this
  · have := I.base.frzs b ob u e
    rw [upd_ne (neH this)]; exact this
  · obtain ⟨more, e'⟩ := I.base.tbls b ps e
    exact ⟨more, by rw [upd_ne (neH e')]; exact e'⟩
  · obtain ⟨m, ⟨ob, _, _, e, _⟩, _⟩ := Ic.loc
    rw [upd_ne (ne e)]; exact I.free
  · obtain ⟨v, ob, e', _⟩ := Ic.cell x c e
    rw [upd_ne (ne e')]; exact I.freeC x c e
  · obtain ⟨e, z, r⟩ := I.pin p hp
    exact ⟨e, by rw [upd_ne (ne (Ic.pin p hp).1)]; exact z, r⟩
/-- a name goes -/
theorem gone_ok {M : Model} {A : Around} {E : Value → Shared → Prop} {i : Nat} {x : Str} {pos : Pos} {Q : Unit → Shared → Prop} (I : Inv X pins σ H s) (hN : X.N.Nodup) (hi : X.N[i]? = some x) (hk : X.env.scope.names.lookup x = some .local)
    (h : ∀ s', Inv X pins (σ.set i none) H s' → Q () s') : wpAny M A (do bindName X.env x .none; unbindBehindTheSuite X.env x pos) Q E s := by
  obtain ⟨m, hn, hl⟩ := id I.loc
  have hcls : (X.env.scope.kind == .class || (X.env.scope.kind == .module && X.env.locals != X.env.globals)) = false := by rw [I.ok.kind]; rfl
  refine wpAny_nameGoes_keeps hk hn hcls fun h' v hn' hs => ?_
  obtain ⟨oL, _, _, hoL, _⟩ := id hn
  have cne := I.cne
  have lo : ∀ {b : Addr} {o : Obj}, X.s₀.heap.get? b = some o → b ≠ X.env.locals := fun e => Nat.ne_of_lt (Nat.lt_of_lt_of_le (Heap.lt_size e) I.ok.above)
  refine h _ ⟨I.ok, I.os, I.bare, ⟨fun b o e n hb hx => (hs.2 b (lo e)).trans (I.base.keep b o e n hb hx), fun b o e n hb hx => ?_, I.base.free, fun b o e hx => ?_, I.base.tups, I.base.frzs, I.base.tbls⟩, ⟨_, hn', fun j y v' e1 e2 e3 => ?_⟩, fun y c e => ?_, I.free, I.freeC, fun p hp => ?_, fun b ob e => ?_, by simpa using I.len⟩
  · obtain ⟨sl, e1⟩ := I.base.slot b o e n hb hx
    exact ⟨sl, (hs.2 b (lo e)).trans e1⟩
  · obtain ⟨o', e1⟩ := I.base.there b o e hx
    exact ⟨o', (hs.2 b (lo e)).trans e1⟩
  · by_cases hj : j = i
    · subst hj
      by_cases hlt : j < σ.length
      · rw [List.getElem?_set_self hlt] at e2; cases e2
      · rw [List.getElem?_eq_none (by rw [List.length_set]; omega)] at e2; cases e2
    · rw [List.getElem?_set_ne (Ne.symm hj)] at e2
      obtain ⟨u', r', q⟩ := hl j y v' e1 e2 e3
      refine ⟨u', r', ?_⟩
      rcases q with ⟨k, e⟩ | ⟨k, c, e, z⟩
      · have ne : y ≠ x := fun e => hj (nodup_ix hN e1 (e ▸ hi))
        exact .inl ⟨k, by show (if y = x then v else m y) = _; rw [if_neg ne]; exact e⟩
      · exact .inr ⟨k, c, e, z.sameBut hs (cne y c e)⟩
  · obtain ⟨w', z⟩ := I.cell y c e
    exact ⟨w', z.sameBut hs (cne y c e)⟩
  · obtain ⟨e, n, ne, nf, dd⟩ := I.pin p hp
    exact ⟨(hs.2 p.1 ne).trans e, n, ne, nf, dd⟩
  · refine (I.hok b ob e).stay (fun c w' hc q => (hs.2 c ?_).trans q) (fun _ q => q) fun _ _ q => q
    rintro rfl
    rcases hc with z | z
    · rw [← z, I.free] at e; cases e
    · rw [I.free] at z; cases z
def tTryB (K : PySem.W.Frag) (n i : Nat) (D : Addr) (tb : XK → TS) (ts : TS) : TS := fun Dn σ H => tb (fun c _ H' => ∃ C, c = .ref C ∧ PySem.W.excIn K C mroV "ValueError.__new__" = true ∧ PySem.W.mroIn K C (.ref D) = some true ∧
  ∀ (σ' : St) (ea : Addr), σ'.length = n → H' ea = none → ts { nx := fun σ2 H2 => Dn.nx (σ2.set i none) H2, rt := Dn.rt, bk := fun σ2 H2 => Dn.bk (σ2.set i none) H2, ct := fun σ2 H2 => Dn.ct (σ2.set i none) H2 } (σ'.set i (some (.ref ea))) (upd H' ea (excO ea C))) Dn σ H
theorem ps_tryB {x n : Str} {i : Nat} {D : Addr} {body suite : List Stmt} {b0 : Stmt} {np hpos pos : Pos} {tb : XK → TS} {ts : TS} (c : XCl X.K X.mg x D) (hg : Gl X x) (hst : X.stack = X.env :: X.outer) (hfr : X.env.frame = some X.env.locals)
    (hN : X.N.Nodup) (hi : X.N[i]? = some n) (hk : X.env.scope.names.lookup n = some .local) (hex : X.ex = [])
    (hb : ∀ (pn : List (Addr × Obj)) (W : Value → Shared → Prop) (E : XK), Passes (CXe X.prog X.w) (X.flt pn W) E → PSs (X.flt pn W) body (tb E)) (hs : ∀ e : Value, PSs (X.hnd e) (b0 :: suite) ts) (hdb : (x == ("__debug__" : Str)) = false := by decide) :
    PS X (.Try body [.ExceptHandler (some (.Name x np)) (some n) (b0 :: suite) hpos] [] [] pos) (tTryB X.K X.N.length i D tb ts) := by
  intro pins s σ H Dn I hq
  refine wpAny_Try_except (wpAny_mono (hb pins (Fl X pins _) _ Fl.passes [] s σ H Dn I.flt hq) (fun f s1 h1 => ?_) (fun e s1 h1 => ?_))
  · have h2 := h1.unflt
    cases f with
    | next => exact wpAny_execs_nil h2
    | brk => exact h2
    | cont => exact h2
    | ret u => exact h2
  · obtain ⟨σ', Hc, sc, Ic, ea, C, t, B, H', rfl, os, bare, U, hok, hea, hea0, fl, c1, c2, C', hCC, qC, hm, ht⟩ := h1
    cases hCC
    obtain ⟨h1, g1, d1, t1, os1⟩ := s1
    obtain rfl : os1 = sc.os := os
    have back : ∀ {h2 : Heap} {tk : Nat}, B.StaysIn h2 → h1.UpToSlots h2 → Inv X pins σ' H' { sc with heap := h2, gens := g1, drawn := d1, toks := tk } := fun {h2 tk} st up => by
      refine Ic.call (ch := []) (fly_un U c2 st fun b o hb e1 => ?_) (fly_hok hok c1 st) bare (fun b z => absurd z (by simp))
      obtain ⟨o', e2, nd⟩ := frs_of_mem (Ic.call (h' := h1) (g' := g1) (t' := t1) (d' := d1) (ch := []) U hok bare (fun b z => absurd z (by simp))).stack hb
      have e2' : h1.get? b = some o' := e2
      rw [e1] at e2'; cases e2'
      exact up b o e1 nd
    rw [hst] at fl
    refine wpAny_looks_onW (by rw [I.ok.frames, hst]) hfr fl fun h4 held4 up4 => ?_
    refine wpAny_landsW held4 fun h5 fl5 up5 => ?_
    have I5 : Inv X pins σ' H' { sc with heap := h5, gens := g1, drawn := d1, toks := t1 } := back fl5.1 (up4.trans up5)
    obtain ⟨ob, hob, hobc⟩ := fl5.there
    refine wpAny_handleBy_cons (codeAny_handlers_test (ld_glob (X := X.hnd (.ref ea)) (I5.hnd) hg c.bound ?_ hdb)) (by intro q; cases q)
    refine excMatches_below I5.kIn qC c.exc hm hob hobc (codeAny_handlers_suite_as ?_)
    refine lands_againW fl5 fun h6 fl6 up6 => ?_
    have I6 : Inv X pins σ' H' { sc with heap := h6, gens := g1, drawn := d1, toks := t1 } := back fl6.1 ((up4.trans up5).trans up6)
    have I7 : Inv X pins σ' (upd H' ea (excO ea C)) { sc with heap := h6, gens := g1, drawn := d1, toks := t1 } := by
      obtain ⟨o6, e6, e6c⟩ := fl6.there
      exact Inv.track Ic hex hea0 I6 hea (excO_ok ⟨o6, e6, e6c⟩)
    refine store_ok (X := X.hnd (.ref ea)) I7.hnd hN hi (.inl hk) (v := .ref ea) rfl (fun s8 I8 => ?_) (.inr hk)
    refine wpAny_mono (hs (.ref ea) pins s8 _ _ _ I8 (ht σ' ea I6.len hea)) (fun f s2 h2 => ?_) fun _ _ z => z.elim
    cases f with
    | next => obtain ⟨σ2, H2, J, q⟩ := h2; exact gone_ok (J.unhnd I.ok) hN hi hk fun s9 J9 => ⟨_, H2, J9, q⟩
    | brk => obtain ⟨σ2, H2, J, q⟩ := h2; exact gone_ok (J.unhnd I.ok) hN hi hk fun s9 J9 => ⟨_, H2, J9, q⟩
    | cont => obtain ⟨σ2, H2, J, q⟩ := h2; exact gone_ok (J.unhnd I.ok) hN hi hk fun s9 J9 => ⟨_, H2, J9, q⟩
    | ret u => obtain ⟨v, σ2, H2, J, r, q⟩ := h2; exact gone_ok (J.unhnd I.ok) hN hi hk fun s9 J9 => ⟨v, _, H2, J9, r, q⟩
end
end L2

set_option Elab.async false
set_option linter.all false
set_option maxRecDepth 100000
set_option maxHeartbeats 4000000
/-! More about exceptions: isinstance, what the text's classes are; == of lists of flat things and lists. -/
namespace L2
open PySem PySem.Spec PyProof.Rows
/-- isinstance of a caught exception: one class, a built-in one, a tuple of classes -/
def rIsX (K : PySem.W.Frag) : List V → Hp → VK → Prop := fun xs H Q => ∃ (ea C : Addr) (c : V) (b : Bool), xs = [.ref ea, c] ∧ H ea = some (excO ea C) ∧ XAt K C ∧
  ((∃ D, c = .ref D ∧ PySem.W.kitOne K (.ref C) (.ref D) = some b) ∨ (∃ T, c = .ty T ∧ PySem.W.kitOne K (.ref C) (.type T) = some b) ∨ (∃ (t : Addr) (ds : List Addr), c = .ref t ∧ H t = some (.tup (ds.map V.ref)) ∧ PySem.W.kitAny K (.ref C) (ds.map Value.ref) = some b)) ∧ Q (.bl b) H
section
variable {X : Cx} {K : PySem.W.Frag}
theorem vals_refs : ∀ {ds : List Addr} {us : List Value}, Vals (ds.map V.ref) us → us = ds.map Value.ref
  | [], _, .nil => rfl
  | _ :: _, _, .cons r t => by cases r; rw [vals_refs t]; rfl
theorem isiX (e : X.K = K) : CallR X (.builtin "isinstance") (rIsX K) := by
  subst e
  intro pins s σ H xs us Q I r h
  obtain ⟨ea, C, c, b, rfl, eo, Z, hc, q⟩ := h
  obtain ⟨u, v, rfl, ru, rv⟩ := vals2 r
  cases (show u = Value.ref ea from ru)
  have ca : CAt s.heap ea C := (I.hok ea _ eo).1
  have fin : ∀ tk, EP X pins σ Q (.bool b) { s with toks := tk } := fun tk => ⟨.bl b, H, I.tok tk, rfl, q⟩
  rcases hc with ⟨D, rfl, e1⟩ | ⟨T, rfl, e1⟩ | ⟨t, ds, rfl, et, e1⟩
  · cases (show v = Value.ref D from rv)
    exact PySem.W.kia_one (kitx_exc Z) I.kIn ca e1 (fun z => nomatch z) fin
  · cases (show v = Value.type T from rv)
    exact PySem.W.kia_one (kitx_exc Z) I.kIn ca e1 (fun z => nomatch z) fin
  · cases (show v = Value.ref t from rv)
    obtain ⟨_, its, rr, ob, h1, h2, n, h3⟩ := (show ObjOk X.prog X.w H s.heap t (.tup (ds.map V.ref)) from I.hok t _ et)
    obtain ⟨oc, od, dt, sl⟩ := ob
    cases h2
    cases h3
    rw [vals_refs rr] at h1
    exact PySem.W.kia_tup (kitx_exc Z) I.kIn ca h1 e1 (fun z => nomatch z) fin
end
/-- a class of the text that is raised: C, called x, below RowError (r); ds: the others -/
structure XOwn (K : PySem.W.Frag) (mg : Str → Option Value) (x : Str) (C r : Addr) (ds : List Addr) : Prop where
  cl : XCl K mg x C
  at_ : XAt K C
  up : PySem.W.mroIn K C (.ref r) = some true
  me : PySem.W.mroIn K C (.ref C) = some true
  ve : PySem.W.mroIn K C (.type "ValueError") = some true
  no : ∀ d ∈ ds, PySem.W.isClsIn K d = true ∧ PySem.W.typeIn K (.ref d) = some (.type "type") ∧ PySem.W.mroIn K C (.ref d) = some false
section
variable {K : PySem.W.Frag} {mg : Str → Option Value} {x : Str} {C r : Addr} {ds : List Addr}
theorem XOwn.self (Z : XOwn K mg x C r ds) : PySem.W.kitOne K (.ref C) (.ref C) = some true := kit_same
theorem XOwn.val (Z : XOwn K mg x C r ds) : PySem.W.kitOne K (.ref C) (.type "ValueError") = some true := by
  unfold PySem.W.kitOne
  rw [if_neg (by simp)]
  unfold PySem.W.kitCls
  dsimp only
  rw [if_pos (by decide +kernel)]
  exact Z.ve
theorem XOwn.one {d : Addr} (Z : XOwn K mg x C r ds) (hd : d ∈ ds) : PySem.W.kitOne K (.ref C) (.ref d) = some false := by
  obtain ⟨h1, h2, h3⟩ := Z.no d hd
  have ne : C ≠ d := fun e => by
    subst e
    rw [Z.me] at h3; cases h3
  unfold PySem.W.kitOne
  rw [if_neg (by rw [beq_iff_eq]; exact fun e => ne (Value.ref.inj e))]
  unfold PySem.W.kitCls
  dsimp only
  rw [if_pos (by rw [Bool.and_eq_true]; exact ⟨h1, beq_iff_eq.mpr h2⟩)]
  exact h3
theorem XOwn.any (Z : XOwn K mg x C r ds) : ∀ {es : List Addr}, (∀ d ∈ es, d ∈ ds) → PySem.W.kitAny K (.ref C) (es.map Value.ref) = some false
  | [], _ => rfl
  | d :: es, h => by
    show (match PySem.W.kitOne K (.ref C) (.ref d) with | some true => some true | some false => PySem.W.kitAny K (.ref C) (es.map Value.ref) | none => none) = _
    rw [Z.one (h d (List.mem_cons_self ..))]
    exact Z.any fun e he => h e (List.mem_cons_of_mem _ he)
end
theorem Has.imp {P : Program} {w : World} {K : PySem.W.Frag} {mg : Str → Option Value} {base : Heap} {x : Str} {k : Nat} {ps : List Str} {sp sp' : Sp} (h : Has P w K mg base x k ps sp) (i : ∀ vs H Q E, sp' vs H Q E → sp vs H Q E) : Has P w K mg base x k ps sp' :=
  let ⟨f, fd, F, r⟩ := h.ex; ⟨f, fd, F.imp i, r⟩
section
variable {X : Cx} {K : PySem.W.Frag} {pins : List (Addr × Obj)} {σ : St} {H : Hp} {s : Shared}
end
end L2
namespace My
open L2 PySem
end My
namespace L2
open PySem PySem.Spec PyProof.Rows My
theorem boot_ValueError' : bootBuiltins "ValueError" = some (.type "ValueError") := by decide +kernel
end L2
namespace L2
open PySem PySem.Spec PyProof.Rows
theorem tTryB_of {K : PySem.W.Frag} {n i : Nat} {D : Addr} {tb : XK → TS} {ts : TS} {Dn : Ends} {σ : St} {H : Hp}
    (h : ∀ EX : XK, (∀ c d H', (∃ C, c = .ref C ∧ PySem.W.excIn K C mroV "ValueError.__new__" = true ∧ PySem.W.mroIn K C (.ref D) = some true ∧ ∀ (σ' : St) (ea : Addr), σ'.length = n → H' ea = none →
      ts { nx := fun σ2 H2 => Dn.nx (σ2.set i none) H2, rt := Dn.rt, bk := fun σ2 H2 => Dn.bk (σ2.set i none) H2, ct := fun σ2 H2 => Dn.ct (σ2.set i none) H2 } (σ'.set i (some (.ref ea))) (upd H' ea (excO ea C))) → EX c d H') → tb EX Dn σ H) : tTryB K n i D tb ts Dn σ H := h _ fun _ _ _ z => z
end L2
namespace L2
open PySem PySem.Spec PyProof.Rows My
section
variable {X : Cx}
end
end L2

set_option Elab.async false
set_option linter.all false
set_option maxRecDepth 100000
set_option maxHeartbeats 4000000
/-! for over range(0, n, c). -/
namespace L2
open PySem PySem.Spec PyProof.Rows
section
variable {X : Cx} {tg : Expr}
end
end L2
namespace L2
open PySem PySem.Spec PyProof.Rows
section
variable {X : Cx} {K : PySem.W.Frag} {o e : Expr} {es : List Expr} {to : TE} {t : TA} {name : Str} {apos cpos : Pos} {T id : String} {r : V → List V → Hp → VK → Prop}
/-- o.m(e, ..) of a built-in type, the fragment named -/
theorem pe_bmK (eK : X.K = K) (pa : PlainAttrs T) (slot : Slot T name id) (hty : typeOf (.builtin id) = pure (.type "method_descriptor")) (hm : MtR X id r) (ho : PE X o to) (ha : PA X (e :: es) t)
    (hbase : attributeBase o name X.env (eval o X.env) = eval o X.env := by rfl)
    (hfew : ((backTo cpos (starEach (e :: es) X.env)).all (fun x => !x.1) && (backToKw cpos (keywordEach [] X.env)).all (fun x => x.1.isSome) && decide ((e :: es).length + ([] : List Keyword).length + (if ([] : List Keyword).isEmpty then 0 else 1) < 30)) = true := by rfl)
    (hline : (apos.endLine == cpos.line) = true := by rfl) (hs : starEach (e :: es) X.env = (false, eval e X.env) :: starEach es X.env := by rfl) (hplain : (backTo cpos (starEach es X.env)).any (·.1) = false := by rfl) :
    PE X (.Call (.Attribute o name apos) (e :: es) [] cpos) (tBM K T r to t) := by
  subst eK
  exact pe_bm pa slot hty hm ho ha hbase hfew hline hs hplain
end
end L2
namespace L2
open PySem PySem.Spec PyProof.Rows
section
variable {X : Cx} {e sl : Expr} {te ts : TE} {r : R2}
end
end L2
namespace L2
open PySem PySem.Spec PyProof.Rows
section
variable {X : Cx} {a b : Expr} {es : List Expr} {ta tb : TE} {t : TA} {r : R2} {op : Operator} {pos : Pos} {x1 : Nat}
theorem qe_tup (h : QA X es t) : QE X (.Tuple es x1 pos) (tTup t) := .mk (pe_tup h.un)
theorem qe_op (ho : OpR X (binaryOp op) r) (ha : PE X a ta) (hb : QE X b tb) : QE X (.BinOp a op b pos) (tOp r ta tb) := .mk (pe_op ho ha hb.un)
end
end L2

set_option Elab.async false
set_option linter.all false
set_option maxRecDepth 100000
set_option maxHeartbeats 4000000
/-! zip of two lists. -/
namespace L2
open PySem PySem.Spec PyProof.Rows
section
variable {X : Cx}
end
end L2

set_option Elab.async false
set_option linter.all false
set_option maxRecDepth 100000
set_option maxHeartbeats 4000000
/-! a op b op c op d as a test; papers of the fewest windows. -/
namespace L2
open PySem PySem.Spec PyProof.Rows
section
variable {X : Cx} {a b c d : Expr} {ta tb tc td : TE} {pos : Pos}
end
end L2
namespace My
open L2
end My
namespace L2
open PySem PySem.Spec PyProof.Rows
end L2

set_option Elab.async false
set_option linter.all false
set_option maxRecDepth 100000
set_option maxHeartbeats 4000000
/-! Partings: none has fewer windows than the one that makes each as long as can be. -/
namespace My
open L2
end My
namespace L2
open PySem PySem.Spec PyProof.Rows
end L2

set_option Elab.async false
set_option linter.all false
set_option maxRecDepth 100000
set_option maxHeartbeats 4000000
/-! all of a list of truths; max of a list of whole numbers with a default. -/
namespace L2
open PySem PySem.Spec PyProof.Rows
section
variable {X : Cx} {pins : List (Addr × Obj)} {σ : St} {H2 : Hp} {l S It : Addr} {xs : List V} {kf : Nat → Int} {K : PySem.W.Frag}
theorem boot_all' : bootBuiltins "all" = some (.builtin "all") := by decide +kernel
theorem bools_at : ∀ {bs : List Bool} {us : List Value}, Vals (bs.map V.bl) us → us = bs.map Value.bool
  | [], us, r => by cases r; rfl
  | b :: bs, us, r => by
    cases r with
    | cons r1 r2 =>
      cases r1
      rw [bools_at r2]; rfl
theorem allK (e : X.K = K) (hc : X.calm = true) : CallR X (.builtin "all") (fun xs H Q => ∃ (a : Addr) (bs : List Bool), xs = [.ref a] ∧ SqL K H a (bs.map V.bl) ∧ Q (.bl (bs.all id)) H) := by
  subst e
  intro pins s σ H xs us Q I r h
  obtain ⟨a, bs, rfl, ha, q⟩ := h
  obtain ⟨u, rfl, ru⟩ := vals1 r
  cases ru
  obtain ⟨its, rv, p, _⟩ := I.list ha
  have hb := bools_at rv
  subst hb
  have hl := p.isList
  have hlt : a < s.heap.objs.size := by obtain ⟨_, e, _⟩ := hl; exact Heap.lt_size e
  refine call_all_walk (wpAny_pyIter_list hl ?_)
  refine ⟨s.heap.objs.size, [s.heap.objs.size, a], [s.heap.objs.size], _, _, _, fun i => (bs[i]?).getD true, rfl, Walks.list (A := X.A.in1) (show X.A.in1.handled = none from I.ok.hd hc) _ a (Nat.ne_of_lt hlt) (bs.map Value.bool).toArray,
    ⟨⟨_, Heap.get?_push_size _ rfl, rfl, rfl⟩, hl.push _⟩, fun i v s' Q' E' hP hQ => ?_, fun h' tk hk => ?_⟩
  · have hP' : (bs.map Value.bool)[i]? = some v := by simpa using hP
    rw [List.getElem?_map] at hP'
    cases z : bs[i]? with
    | none => rw [z] at hP'; cases hP'
    | some b =>
      rw [z] at hP'
      have hQ' : Q' ((bs[i]?).getD true) s' := hQ
      rw [z] at hQ'
      have e : v = .bool b := (Option.some.inj hP').symm
      subst e
      exact wpAny_truthy_bool hQ'
  · have e : ((List.range (bs.map Value.bool).toArray.size).all fun i => (bs[i]?).getD true) = bs.all id := by
      rw [List.size_toArray, List.length_map]; exact LSm.range_all bs
    rw [e]
    refine ⟨.bl (bs.all id), H, I.kept (t' := tk) (h' := h') fun b o eb => hk b o (fun hm => ?_) (Heap.get?_push_of_some _ eb), rfl, q⟩
    rw [List.mem_singleton.mp hm] at eb
    exact absurd (Heap.lt_size eb) (Nat.lt_irrefl _)
/-- the same loop as with a key, each item its own key -/
theorem maxN_loop (hc : X.calm = true) (hk : ∀ i (x : V), xs[i]? = some x → x = V.int (kf i)) (dk : List (Str × Value)) (R : Result → Shared → Prop)
    (hR : ∀ (i : Nat) (u : Value) (s' : Shared) (H' : Hp), xs[i]? = some (V.int (kf i)) → RelV (.int (kf i)) u → (∀ j, j < xs.length → kf i ≥ kf j ∧ (j < i → kf i > kf j)) → Inv X pins σ H' s' → Same H2 H' → R (.ok (.ret u)) s') :
    ∀ (r j : Nat) (s : Shared), xs.length - j = r → j ≤ xs.length → MxAt X pins σ H2 l S It xs (fun a b => a ≥ b) (fun a b => a > b) kf j s → codeAny (model X.prog X.w) X.A (.builtin "max.loop" ⟨[.ref It, .none, .ref S], dk⟩) R s := by
  have hname : (toString "max" ++ toString ".loop" : String) = "max.loop" := by decide
  intro r
  induction r with
  | zero =>
    intro j s hr' hj ⟨H, i, vb, x, tb, c, I, sm, hl, hit, hS, fS, fI, nSI, hx, rx, hij, hbest⟩
    obtain rfl := hk i x hx
    obtain ⟨its, rv, p, hz⟩ := I.list hl
    have hlen := rv.length
    refine codeAny_builtin PySem.F.entry_max_loop ?_
    rw [Around.under_plainId PySem.F.plain_max_loop _]
    show wpAny _ X.A.in1 (seqItems? (.ref S) >>= _) _ _ _
    refine wpAny_bind (wpAny_seqItems hS rfl ?_)
    show wpAny _ X.A.in1 (tryCatch (pyNext (.ref It)) _ >>= _) _ _ _
    refine wpAny_bind (wpAny_tryCatch (wpAny_pyNext_list_end (show X.A.in1.handled = none from I.ok.hd hc) hit p.isList (by simp; omega) fun h' eb => ?_))
    obtain ⟨f0, f1, f2, f3, f4, f5⟩ := fI
    have I1 : Inv X pins σ H { s with heap := h' } := I.turned (t' := s.toks) (fun b o hb e => eb b o hb e) f0 f1 f3 f4 f5
    have hS' : h'.get? S = some (seqObj "list" #[vb, .int (kf i) tb] c) := eb S _ nSI hS
    have sb := Heap.SameBut.update h' S (Obj.mapSeq fun _ => (#[] : Array Value))
    obtain ⟨g0, g1, g2, g3, g4, g5⟩ := fS
    show wpAny _ X.A.in1 (updateSeq S (fun _ => #[]) >>= _) _ _ _
    refine wpAny_bind ?_
    refine wpAny_updateSeq hS' rfl (wpAny_bind (wpAny_letGo (wpAny_pure ?_)))
    exact hR i vb _ H hx rx (fun j' hj' => hbest j' (by omega)) (I1.turned (t' := s.toks) (fun b o hb e => (sb.2 b hb).trans e) g0 g1 g3 g4 g5) sm
  | succ r ih =>
    intro j s hr' hj ⟨H, i, vb, x, tb, c, I, sm, hl, hit, hS, fS, fI, nSI, hx, rx, hij, hbest⟩
    have hjl : j < xs.length := by omega
    obtain ⟨its, rv, p, hz⟩ := I.list hl
    have hxj : xs[j]? = some (.int (kf j)) := by rw [List.getElem?_eq_getElem hjl, hk j _ (List.getElem?_eq_getElem hjl)]
    obtain ⟨u, hu, ru⟩ := rv.get hxj
    obtain ⟨t2, rfl⟩ := id ru
    refine codeAny_builtin PySem.F.entry_max_loop ?_
    rw [Around.under_plainId PySem.F.plain_max_loop _]
    show wpAny _ X.A.in1 (seqItems? (.ref S) >>= _) _ _ _
    refine wpAny_bind (wpAny_seqItems hS rfl ?_)
    show wpAny _ X.A.in1 (tryCatch (pyNext (.ref It)) _ >>= _) _ _ _
    refine wpAny_bind (wpAny_tryCatch (wpAny_pyNext_list_item hit p.isList (x := .int (kf j) t2) (by simpa using hu) fun h' hit' sb => ?_))
    obtain ⟨f0, f1, f2, f3, f4, f5⟩ := id fI
    have I1 : Inv X pins σ H { s with heap := h' } := I.turned (t' := s.toks) (fun b o hb e => (sb.2 b hb).trans e) f0 f1 f3 f4 f5
    have hS1 : h'.get? S = some (seqObj "list" #[vb, .int (kf i) tb] c) := (sb.2 S nSI).trans hS
    show wpAny _ X.A.in1 (tryCatch (holding [.int (kf j) t2, .int (kf j) t2] (richCompare .Gt (.int (kf j) t2) (.int (kf i) tb) >>= _)) _ >>= _) _ _ _
    refine wpAny_bind (wpAny_tryCatch (wpAny_holding (wpAny_bind (CmpOf.ints_gt (prog := X.prog) (w := X.w) (A := X.A.in1) (P := fun i v => ∃ t, v = .int (kf i) t) kf (fun i v h => h) j i _ _ _ _ _ ⟨t2, rfl⟩ ⟨tb, rfl⟩ ?_))))
    refine wpAny_bind (wpAny_holding (wpAny_truthy_bool ?_))
    refine wpAny_bind (wpAny_letGo (wpAny_pure ?_))
    by_cases hb' : kf j > kf i
    · have s1 := Heap.SameBut.update h' S (Obj.mapSeq fun _ => #[Value.int (kf j) t2, .int (kf j) t2])
      obtain ⟨c2, hc2⟩ : ∃ c2, (h'.update S (Obj.mapSeq fun _ => #[Value.int (kf j) t2, .int (kf j) t2])).get? S = some (seqObj "list" #[.int (kf j) t2, .int (kf j) t2] c2) := ⟨_, get?_update_seq hS1 fun _ => #[Value.int (kf j) t2, .int (kf j) t2]⟩
      simp only [hb', decide_true, if_true]
      refine wpAny_bind ?_
      refine wpAny_updateSeq hS1 rfl (wpAny_bind (wpAny_letGo ?_))
      rw [hname]
      obtain ⟨g0, g1, g2, g3, g4, g5⟩ := id fS
      refine wpAny_pure ⟨plainId_quiet PySem.F.plain_max_loop _, ih (j + 1) _ (by omega) hjl ⟨H, j, _, _, t2, c2, I1.turned (t' := s.toks) (fun b o hb e => (s1.2 b hb).trans e) g0 g1 g3 g4 g5, sm, hl, hit'.at fun o e => (s1.2 It nSI.symm).trans e, hc2, fS, fI, nSI, hxj, ru, Nat.lt_succ_self _, fun j' hj' => ?_⟩⟩
      by_cases e : j' = j
      · subst e
        exact ⟨by omega, fun z => by omega⟩
      · obtain ⟨h1, h2⟩ := hbest j' (by omega)
        exact ⟨by omega, fun z => by omega⟩
    · simp only [hb', decide_false, Bool.false_eq_true, if_false]
      refine wpAny_bind (wpAny_letGo ?_)
      rw [hname]
      refine wpAny_pure ⟨plainId_quiet PySem.F.plain_max_loop _, ih (j + 1) _ (by omega) hjl ⟨H, i, vb, x, tb, c, I1, sm, hl, hit', hS1, fS, fI, nSI, hx, rx, by omega, fun j' hj' => ?_⟩⟩
      by_cases e : j' = j
      · subst e
        exact ⟨by omega, fun z => by omega⟩
      · exact hbest j' (by omega)
theorem max_dflt1 (a d : Value) : argsOk "max" ⟨[a], [(Str.ofString "default", d)]⟩ := by unfold argsOk; kernel_rfl
theorem max_none (hc : X.calm = true) {s : Shared} {Q : Value → Shared → Prop} {E : Value → Shared → Prop} (d : Value) (I : Inv X pins σ H2 s) (hl : SqL X.K H2 l xs) (hk : ∀ i (x : V), xs[i]? = some x → x = V.int (kf i))
    (h0 : xs = [] → ∀ s' H', Inv X pins σ H' s' → Same H2 H' → Q d s')
    (hQ : ∀ (i : Nat) (u : Value) (s' : Shared) (H' : Hp), xs[i]? = some (V.int (kf i)) → RelV (.int (kf i)) u → (∀ j, j < xs.length → kf i ≥ kf j ∧ (j < i → kf i > kf j)) → Inv X pins σ H' s' → Same H2 H' → Q u s') :
    wpAny (model X.prog X.w) X.A (call (.builtin "max") [.ref l] [(Str.ofString "default", d)]) Q E s := by
  have hname : (toString "max" ++ toString ".loop" : String) = "max.loop" := by decide
  obtain ⟨its, rv, p, hz⟩ := I.list hl
  have hlen := rv.length
  refine kmk_tree PySem.F.kind_max PySem.F.plain_max PySem.F.entry_max (max_dflt1 _ _) ?_
  show wpAny _ X.A.in1 (Builtin.Builtins.bindParams "max" ["key", "default"] 0 ⟨[], [(Str.ofString "default", d)]⟩ >>= _) _ _ s
  refine wpAny_bind (wpAny_of_eq (show Builtin.Builtins.bindParams "max" ["key", "default"] 0 ⟨[], [(Str.ofString "default", d)]⟩ = pure [none, some d] from rfl) ?_)
  refine wpAny_bind (wpAny_pure ?_)
  refine wpAny_bind (wpAny_pyIter_list p.isList ?_)
  refine wpAny_bind (wpAny_newList ?_ (Nat.zero_le _))
  rw [hname]
  have hS : (s.heap.push { cls := .type "list_iterator", data := .fields #[.ref l, .int 0 0] }).objs.size = s.heap.objs.size + 1 := Heap.size_push ..
  refine wpAny_pure ⟨plainId_quiet PySem.F.plain_max_loop _, ?_⟩
  have gI : ((s.heap.push { cls := .type "list_iterator", data := .fields #[.ref l, .int 0 0] }).push (seqObj "list" #[] 0)).get? s.heap.objs.size = some { cls := .type "list_iterator", data := .fields #[.ref l, .int 0 0] } :=
    Heap.get?_push_of_some _ (Heap.get?_push_size _ rfl)
  have gS : ((s.heap.push { cls := .type "list_iterator", data := .fields #[.ref l, .int 0 0] }).push (seqObj "list" #[] 0)).get? (s.heap.push { cls := .type "list_iterator", data := .fields #[.ref l, .int 0 0] }).objs.size = some (seqObj "list" #[] 0) := Heap.get?_push_size _ rfl
  have I0 : Inv X pins σ H2 { s with heap := (s.heap.push { cls := .type "list_iterator", data := .fields #[.ref l, .int 0 0] }).push (seqObj "list" #[] 0) } := I.kept (t' := s.toks) fun b o e => Heap.get?_push_of_some _ (Heap.get?_push_of_some _ e)
  have fI : FpOk X pins H2 s.heap.objs.size := I.fpOk (Nat.le_refl _) (I.hok.fresh (Nat.le_refl _))
  have fS : FpOk X pins H2 (s.heap.push { cls := .type "list_iterator", data := .fields #[.ref l, .int 0 0] }).objs.size := I.fpOk (by rw [hS]; exact Nat.le_succ _) (I.hok.fresh (by rw [hS]; exact Nat.le_succ _))
  have nSI : (s.heap.push { cls := .type "list_iterator", data := .fields #[.ref l, .int 0 0] }).objs.size ≠ s.heap.objs.size := by rw [hS]; exact Nat.succ_ne_self _
  have hit : ((s.heap.push { cls := .type "list_iterator", data := .fields #[.ref l, .int 0 0] }).push (seqObj "list" #[] 0)).IsListIter s.heap.objs.size l 0 := ⟨_, gI, rfl, rfl⟩
  have pl0 : ((s.heap.push { cls := .type "list_iterator", data := .fields #[.ref l, .int 0 0] }).push (seqObj "list" #[] 0)).IsList l its.toArray := p.isList.at fun o e => Heap.get?_push_of_some _ (Heap.get?_push_of_some _ e)
  generalize (s.heap.push { cls := .type "list_iterator", data := .fields #[.ref l, .int 0 0] }).objs.size = S at gS fS nSI ⊢
  generalize (s.heap.push { cls := .type "list_iterator", data := .fields #[.ref l, .int 0 0] }).push (seqObj "list" #[] 0) = h0' at gI gS I0 hit pl0 ⊢
  generalize s.heap.objs.size = It at gI fI nSI hit ⊢
  refine codeAny_builtin PySem.F.entry_max_loop ?_
  rw [Around.under_plainId PySem.F.plain_max_loop _]
  show wpAny _ X.A.in1 (seqItems? (.ref S) >>= _) _ _ _
  refine wpAny_bind (wpAny_seqItems gS rfl ?_)
  show wpAny _ X.A.in1 (tryCatch (pyNext (.ref It)) _ >>= _) _ _ _
  by_cases he : xs = []
  · refine wpAny_bind (wpAny_tryCatch (wpAny_pyNext_list_end (show X.A.in1.handled = none from I.ok.hd hc) hit pl0 (by subst he; simp at hlen; simp [hlen]) fun h' eb => ?_))
    obtain ⟨f0, f1, f2, f3, f4, f5⟩ := fI
    show wpAny _ X.A.in1 (rule _ >>= _) _ _ _
    refine wpAny_bind (wpAny_rule (wpAny_pure ?_))
    exact h0 he _ H2 (I0.turned (t' := s.toks) (fun b o hb e => eb b o hb e) f0 f1 f3 f4 f5) (Same.refl _)
  · have hpos : 0 < xs.length := List.length_pos_iff.mpr he
    have hx0 : xs[0]? = some (.int (kf 0)) := by rw [List.getElem?_eq_getElem hpos, hk 0 _ (List.getElem?_eq_getElem hpos)]
    obtain ⟨u, hu, ru⟩ := rv.get hx0
    obtain ⟨t2, rfl⟩ := id ru
    refine wpAny_bind (wpAny_tryCatch (wpAny_pyNext_list_item hit pl0 (x := .int (kf 0) t2) (by simpa using hu) fun h' hit' sb => ?_))
    obtain ⟨f0, f1, f2, f3, f4, f5⟩ := id fI
    have I1 : Inv X pins σ H2 { s with heap := h' } := I0.turned (t' := s.toks) (fun b o hb e => (sb.2 b hb).trans e) f0 f1 f3 f4 f5
    have hS1 : h'.get? S = some (seqObj "list" #[] 0) := (sb.2 S nSI).trans gS
    have s1 := Heap.SameBut.update h' S (Obj.mapSeq fun _ => #[Value.int (kf 0) t2, .int (kf 0) t2])
    obtain ⟨c2, hc2⟩ : ∃ c2, (h'.update S (Obj.mapSeq fun _ => #[Value.int (kf 0) t2, .int (kf 0) t2])).get? S = some (seqObj "list" #[.int (kf 0) t2, .int (kf 0) t2] c2) := ⟨_, get?_update_seq hS1 fun _ => #[Value.int (kf 0) t2, .int (kf 0) t2]⟩
    show wpAny _ X.A.in1 (updateSeq S (fun _ => #[Value.int (kf 0) t2, .int (kf 0) t2]) >>= _) _ _ _
    refine wpAny_bind ?_
    refine wpAny_updateSeq hS1 rfl ?_
    rw [hname]
    obtain ⟨g0, g1, g2, g3, g4, g5⟩ := id fS
    refine wpAny_pure ⟨plainId_quiet PySem.F.plain_max_loop _, maxN_loop hc hk _ _ (fun i u s' H' a b c d e => hQ i u s' H' a b c d e) _ 1 _ rfl hpos ⟨H2, 0, _, _, t2, c2, I1.turned (t' := s.toks) (fun b o hb e => (s1.2 b hb).trans e) g0 g1 g3 g4 g5, Same.refl _, hl, hit'.at fun o e => (s1.2 It nSI.symm).trans e, hc2, fS, fI, nSI, hx0, ru, Nat.zero_lt_one, fun j' hj' => ?_⟩⟩
    have e : j' = 0 := by omega
    subst e
    exact ⟨by omega, fun z => by omega⟩
def tMaxD (K : PySem.W.Frag) (te td : TE) : TE := fun σ H Q => te σ H fun x H1 => td σ H1 fun y H2 => ∃ (a : Addr) (ns : List Int), x = .ref a ∧ SqL K H2 a (ns.map V.int) ∧ (ns = [] → ∀ H', Same H2 H' → Q y H') ∧ ∀ M, M ∈ ns → (∀ b ∈ ns, b ≤ M) → ∀ H', Same H2 H' → Q (.int M) H'
theorem pe_maxD {p pos k2 : Pos} {e d : Expr} {te td : TE} (eK : X.K = K) (hc : X.calm = true) (hgm : Gl X "max") (hm : X.mg "max" = none) (he : PE X e te) (hd : PE X d td) (hs : starEach [e] X.env = [(false, eval e X.env)] := by rfl) :
    PE X (.Call (.Name "max" p) [e] [⟨some "default", d, k2⟩] pos) (tMaxD K te td) := by
  subst eK
  intro pins s σ H Q I q
  refine wpAny_Call_Name_kw (ld_blt I hgm hm boot_max' ?_)
  refine callWith_kw ?_ (he := by rw [hs]; rfl) (hplain := by rw [hs]; rfl)
  rw [hs]
  refine Calls.spliced_cons (thn (he pins s σ H _ I q) fun v s1 ⟨y1, H1, I1, r1, q1⟩ => ?_)
  refine Calls.spliced_nil ?_
  refine kws_cons (thn (hd pins s1 σ H1 _ I1 q1) fun dv s2 ⟨y2, H2, I2, r2, q2⟩ => ?_)
  refine kws_nil ?_
  obtain ⟨a, ns, rfl, hl, h0, hQ⟩ := q2
  cases r1
  refine max_none (kf := fun i => ns.getD i 0) hc dv I2 hl (fun i x hx => (int_at hx).2) (fun e s' H' I' sm => ⟨y2, H', I', r2, h0 (List.map_eq_nil_iff.mp e) H' sm⟩) fun i u s' H' hx ru hb I' sm => ?_
  have hi := (int_at hx).1
  refine ⟨.int (ns.getD i 0), H', I', ru, hQ _ (getD_mem hi) (fun b hb' => ?_) H' sm⟩
  obtain ⟨j, hj, rfl⟩ := mem_getD hb'
  exact (hb j (by rw [List.length_map]; exact hj)).1
end
end L2

set_option Elab.async false
set_option linter.all false
set_option maxRecDepth 100000
set_option maxHeartbeats 4000000
/-! Tables and the way back; a comprehension over enumerate. -/
namespace L2
open PySem PySem.Spec PyProof.Rows
theorem lc_enum {K : PySem.W.Frag} {D a : Addr} {xs : List V} {g : TG} {tc : TT} {te : TE} {Q : VK} {σ : St} {H : Hp} (Pv : Nat → St → Hp → Prop) (h0 : Pv 0 σ H) (hl : ∀ i σ H, i ≤ xs.length → Pv i σ H → SqL K H a xs)
    (hs : ∀ i x p σ H, xs[i]? = some x → Pv i σ H → H p = none → g (.ref p) σ (upd H p (.tup [.int i, x])) fun σ2 H2 => tc σ2 H2 fun b H3 => if b = true then te σ2 H3 fun v H4 => ∃ ys, H4 D = some (.lst ys) ∧ ys.length < sizeLine ∧ Pv (i + 1) σ2 (upd H4 D (.lst (ys ++ [v]))) else Pv (i + 1) σ2 H3)
    (hd : ∀ σ H, Pv xs.length σ H → Q (.ref D) H) : ∃ W : Nat → Nat → St → Hp → Prop, (∃ m, W 0 m σ H) ∧ LcW D (Ite K a) g tc te Q W := by
  refine ⟨fun i m σ H => m = xs.length - i ∧ i ≤ xs.length ∧ Pv i σ H, ⟨xs.length, by simp, Nat.zero_le _, h0⟩, ?_⟩
  rintro i m σ H ⟨rfl, hi, p⟩
  have q := hl i σ H hi p
  by_cases hlt : i < xs.length
  · refine .inr ⟨⟨xs, xs[i], q, by simp [hlt]⟩, Pv (i + 1), fun σ' H' p' => ⟨xs.length - (i + 1), by omega, rfl, hlt, p'⟩, fun x H' y => ?_⟩
    obtain ⟨pp, z, e1, e2, e3, e4⟩ := y
    subst e2 e4
    exact hs i z pp σ _ (e3 xs q) p e1
  · have e : i = xs.length := by omega
    subst e
    exact .inl ⟨⟨xs, q, Nat.le_refl _⟩, hd σ H p⟩
/-- two own names, a flat value of each place -/
theorem lc_enum_ev {K : PySem.W.Frag} {D a : Addr} {xs : List V} {g : TG} {te : TE} {Q : VK} {cap : St} {H : Hp} (f : Nat → V) (hn : xs.length < sizeLine) (hD : H D = none) (ha : SqL K H a xs)
    (hg : ∀ (t : Addr) (i : Nat) (x : V) (v0 v1 : Option V) (H' : Hp) (R : St → Hp → Prop), H' t = some (.tup [.int i, x]) → R (some (.int i) :: some x :: cap) H' → g (.ref t) (v0 :: v1 :: cap) H' R)
    (he : ∀ (i : Nat) (x : V) H', xs[i]? = some x → Same H H' → Ev te (some (.int (i : Int)) :: some x :: cap) H' (f i))
    (hd : ∀ H', Same H H' → H' D = some (.lst ((List.range xs.length).map f)) → Q (.ref D) H') :
    ∃ W : Nat → Nat → St → Hp → Prop, (∃ m, W 0 m (none :: none :: cap) (upd H D (.lst []))) ∧ LcW D (Ite K a) g tYes te Q W := by
  have same : ∀ {H' : Hp} {o : HO}, Same H H' → Same H (upd H' D o) := fun s b o e => by rw [upd_ne (ne_of_none e hD)]; exact s b o e
  refine lc_enum (xs := xs) (fun i σ H' => ∃ v0 v1, σ = v0 :: v1 :: cap ∧ Same H H' ∧ H' D = some (.lst ((List.range i).map f))) ⟨none, none, rfl, same (Same.refl H), upd_same⟩ (fun i σ H' _ ⟨_, _, _, s, _⟩ => s.seq ha) ?_ fun σ H' ⟨_, _, _, s, e⟩ => hd H' s e
  rintro i x p σ H' hx ⟨v0, v1, rfl, s, e⟩ np
  have hi := (List.getElem?_eq_some_iff.mp hx).1
  have sp := Same.new (o := .tup [.int i, x]) np
  refine hg p i x v0 v1 _ _ upd_same ?_
  refine evYes _ fun H3 s3 => (if_pos rfl).mpr ?_
  have ss := sp.trans s3
  refine he i x H3 hx (s.trans ss) _ fun H4 s4 => ⟨_, s4 D _ (ss D _ e), ?_, _, _, rfl, same ((s.trans ss).trans s4), ?_⟩
  · rw [List.length_map, List.length_range]; omega
  · rw [upd_same, List.range_succ, List.map_append]; rfl
end L2
namespace My
open L2
def atT (xss : List (List Int)) (f k : Nat) : Int := (xss.getD f []).getD k 0
def FormT (n : Nat) (xss : List (List Int)) : Prop := xss.length = n + 1 ∧ ∀ f, f ≤ n → (xss.getD f []).length = n + 1 - f
def firT (xss : List (List Int)) (p : Nat) : List Nat := (List.range p).filter fun f => decide (atT xss f (p - f) = atT xss f (p - f + 1))
def lastT (xss : List (List Int)) (p : Nat) : Int := ((firT xss p).map fun (f : Nat) => (f : Int)).foldl max (-1)
def lastsT (xss : List (List Int)) (n : Nat) : List Int := (List.range n).map (lastT xss)
theorem fold_max : ∀ (l : List Int) (a : Int), a ≤ l.foldl max a ∧ (∀ b ∈ l, b ≤ l.foldl max a) ∧ (l.foldl max a = a ∨ l.foldl max a ∈ l)
  | [], a => ⟨Int.le_refl _, fun b h => by simp at h, .inl rfl⟩
  | x :: r, a => by
    obtain ⟨h1, h2, h3⟩ := fold_max r (max a x)
    have ha : a ≤ max a x := by omega
    have hx : x ≤ max a x := by omega
    refine ⟨Int.le_trans ha h1, fun b hb => ?_, ?_⟩
    · rcases List.mem_cons.mp hb with z | z
      · subst z; exact Int.le_trans hx h1
      · exact h2 b z
    · rcases h3 with z | z
      · have : max a x = a ∨ max a x = x := by omega
        rcases this with y | y
        · exact .inl (z.trans y)
        · exact .inr (by show List.foldl max (max a x) r ∈ _; rw [z, y]; exact List.mem_cons_self ..)
      · exact .inr (List.mem_cons_of_mem _ z)
theorem fold_is {l : List Int} {M : Int} (hm : M ∈ l) (h : ∀ b ∈ l, b ≤ M) (h0 : -1 ≤ M) : l.foldl max (-1) = M := by
  obtain ⟨h1, h2, h3⟩ := fold_max l (-1)
  have := h2 M hm
  rcases h3 with z | z
  · omega
  · have := h _ z; omega
theorem tab_getD {ns : List Int} {f : Nat} (h : f ≤ ns.length) : (tabM ns).getD f [] = lineM ns f := by rw [List.getD_eq_getElem?_getD, tab_get h]; rfl
theorem tab_form (ns : List Int) : FormT ns.length (tabM ns) := ⟨tab_len ns, fun f hf => by
  rw [tab_getD hf]; unfold lineM; rw [List.length_map, List.length_range]; omega⟩
theorem tab_at {ns : List Int} {f k : Nat} (hf : f ≤ ns.length) (hk : f + k ≤ ns.length) : atT (tabM ns) f k = (cnt ns f (f + k) : Int) := by
  unfold atT; rw [tab_getD hf, line_at (by omega)]
theorem tab_last {ns : List Int} {p : Nat} (hp : p < ns.length) : lastT (tabM ns) p = lastIx ns (ns.getD p 0) p := by
  have hlt := lastIx_lt ns (ns.getD p 0) p
  have hf : ∀ f, f < p → (atT (tabM ns) f (p - f) = atT (tabM ns) f (p - f + 1) ↔ (f : Int) ≤ lastIx ns (ns.getD p 0) p) := fun f h => by
    rw [tab_at (by omega) (by omega), tab_at (by omega) (by omega), show f + (p - f) = p by omega, show f + (p - f + 1) = p + 1 by omega]
    have := cnt_snoc (ns := ns) (f := f) (b := p) (by omega)
    split at this <;> omega
  unfold lastT
  by_cases h : lastIx ns (ns.getD p 0) p = -1
  · have : firT (tabM ns) p = [] := List.filter_eq_nil_iff.mpr fun f hfm => by
      have hfp := List.mem_range.mp hfm
      intro z
      have := (hf f hfp).mp (of_decide_eq_true z)
      omega
    rw [this, h]; rfl
  · obtain ⟨j, hj⟩ : ∃ j : Nat, lastIx ns (ns.getD p 0) p = (j : Int) := ⟨(lastIx ns (ns.getD p 0) p).toNat, by omega⟩
    rw [hj]
    refine fold_is (List.mem_map.mpr ⟨j, List.mem_filter.mpr ⟨List.mem_range.mpr (by omega), decide_eq_true ((hf j (by omega)).mpr (by omega))⟩, rfl⟩) (fun b hb => ?_) (by omega)
    obtain ⟨f, hfm, rfl⟩ := List.mem_map.mp hb
    obtain ⟨h1, h2⟩ := List.mem_filter.mp hfm
    have := (hf f (List.mem_range.mp h1)).mp (of_decide_eq_true h2)
    omega
theorem tab_lasts (ns : List Int) : lastsT (tabM ns) ns.length = lastsM ns := by
  unfold lastsT lastsM
  exact List.map_congr_left fun p hp => tab_last (List.mem_range.mp hp)
theorem tab_cong {as bs : List Int} (hl : as.length = bs.length) (h : lastsM as = lastsM bs) : tabM as = tabM bs := by
  unfold tabM
  rw [hl]
  refine List.map_congr_left fun f hf => ?_
  have hf := List.mem_range.mp hf
  unfold lineM
  rw [hl]
  refine List.map_congr_left fun k hk => ?_
  have hk := List.mem_range.mp hk
  rw [cnt_congr hl h (by omega)]
theorem plain_lasts (ns : List Int) : lastsM (plainM ns) = lastsM ns := lasts_row (isLs_lasts ns)
theorem tab_plain (ns : List Int) : tabM (plainM ns) = tabM ns := tab_cong (plain_len ns) (plain_lasts ns)
theorem tab_iff {as bs : List Int} : tabM as = tabM bs ↔ plainM as = plainM bs := by
  constructor
  · intro h
    have hl : as.length = bs.length := by have := congrArg List.length h; rw [tab_len, tab_len] at this; omega
    have h1 := tab_lasts as
    rw [h, hl, tab_lasts] at h1
    unfold plainM; rw [h1]
  · intro h
    rw [← tab_plain as, ← tab_plain bs, h]
end My
namespace L2
open PySem PySem.Spec PyProof.Rows
def spLineIs : Sp := fun vs H Q _ => ∃ (l : Addr) (ns : List Int) (m : Int), vs = [.ref l, .int m] ∧ H l = some (.lst (ns.map V.int)) ∧ ns.length ≤ 1000 ∧ ∀ H', Same H H' → Q (.bl (decide ((ns.length : Int) = m))) H'
def spFormT : Sp := fun vs H Q _ => ∃ (t : Addr) (ts : List Addr) (xss : List (List Int)) (n : Nat), vs = [.ref t] ∧ H t = some (.lst (ts.map V.ref)) ∧ LstsAt H ts xss ∧ My.FormT n xss ∧ n ≤ 310 ∧ ∀ H', Same H H' → Q (.bl true) H'
def spLastT : Sp := fun vs H Q _ => ∃ (t : Addr) (ts : List Addr) (xss : List (List Int)) (n p : Nat), vs = [.ref t, .int p] ∧ H t = some (.lst (ts.map V.ref)) ∧ LstsAt H ts xss ∧ My.FormT n xss ∧ n ≤ 310 ∧ p < n ∧ ∀ H', Same H H' → Q (.int (My.lastT xss p)) H'
/-- of a table that is one -/
def spRowTab : Sp := fun vs H Q _ => ∃ (t : Addr) (ts : List Addr) (ns : List Int), vs = [.ref t] ∧ H t = some (.lst (ts.map V.ref)) ∧ LstsAt H ts (tabM ns) ∧ ns.length ≤ 300 ∧ ∀ (l : Addr) (H' : Hp), H l = none → Same H H' → H' l = some (.lst ((My.plainM ns).map V.int)) → Q (.ref l) H'
theorem LstsAt.at {H : Hp} {ts : List Addr} {xss : List (List Int)} (x : LstsAt H ts xss) {f : Nat} (h : f < xss.length) : ∃ l, ts[f]? = some l ∧ H l = some (.lst ((xss.getD f []).map V.int)) := by
  obtain ⟨l, hl⟩ := get_of (as := ts) (f := f) (by rw [x.1]; exact h)
  exact ⟨l, hl, x.2 f l _ hl (by rw [List.getD_eq_getElem?_getD, List.getElem?_eq_getElem h]; rfl)⟩
end L2

set_option Elab.async false
set_option linter.all false
set_option maxRecDepth 100000
set_option maxHeartbeats 4000000
/-! A def that raises nothing, taken for one that may; two promises of one def; refused tables. -/
namespace L2
open PySem PySem.Spec PyProof.Rows
section
variable {P : Program} {w : World} {K : PySem.W.Frag} {mg : Str → Option Value} {base : Heap} {CX : CXT} {k : Nat} {f : Addr} {fd : FuncData} {ps : List Str} {sp sp' : Sp}
theorem FnOk.lift (F : FnOk P w K mg base CX0 k f fd ps sp) : FnOk P w K mg base CX k f fd ps sp :=
  ⟨F.len, fun A outer s H args us vs Q E hr he hb hv hs => codeAny_mono (F.run A outer s H args us vs Q E hr he hb hv hs) fun r s' q => by
    cases r with
    | ok v =>
      cases v with
      | ret u => exact q
      | _ => exact q.elim
    | error e => exact q.elim⟩
def spOr (sp sp' : Sp) : Sp := fun vs H Q E => sp vs H Q E ∨ sp' vs H Q E
theorem FnOk.or (F : FnOk P w K mg base CX k f fd ps sp) (G : FnOk P w K mg base CX k f fd ps sp') : FnOk P w K mg base CX k f fd ps (spOr sp sp') :=
  ⟨fun vs H Q E q => q.elim (F.len vs H Q E) (G.len vs H Q E), fun A outer s H args us vs Q E hr he hb hv hs => hs.elim (F.run A outer s H args us vs Q E hr he hb hv) (G.run A outer s H args us vs Q E hr he hb hv)⟩
end
end L2
namespace My
open L2 PySem
theorem are_isLs {ls : List Int} (h : areB (ls.map V.int) = true) : IsLs ls := fun i hi => by
  have h1 := List.all_eq_true.mp h i (List.mem_range.mpr (by rw [List.length_map]; exact hi))
  have e : (ls.map V.int)[i]? = some (.int (ls.getD i 0)) := by rw [List.getElem?_map, List.getD_eq_getElem?_getD, List.getElem?_eq_getElem hi]; rfl
  rw [okAt_int e, Bool.and_eq_true, Bool.and_eq_true, decide_eq_true_eq, decide_eq_true_eq] at h1
  refine ⟨h1.1, h1.2.1, fun hz j hj ej => ?_⟩
  have h3 := h1.2.2
  rw [decide_eq_false hz, Bool.false_or, Bool.not_eq_true'] at h3
  have : ((ls.map V.int).take i).contains (V.int (ls.getD i 0)) = true := List.contains_iff_mem.mpr (List.mem_iff_getElem?.mpr ⟨j, by
    rw [List.getElem?_take, if_pos hj, List.getElem?_map, List.getElem?_eq_getElem (show j < ls.length by omega)]
    rw [← ej, List.getD_eq_getElem?_getD, List.getElem?_eq_getElem (show j < ls.length by omega)]; rfl⟩)
  rw [h3] at this; cases this
theorem spWhole_V {vs : List V} {H : Hp} {Q : VK} {E : XK} (h : spWhole vs H Q E) : spWholeV vs H Q E := let ⟨t, e, q⟩ := h; ⟨.int t, e, .int t, q⟩
theorem thd_ints {H : Hp} {a : Addr} {ls : List Int} (e : H a = some (.lst (ls.map V.int))) (hl : ls.length ≤ 1000) : ThD H (.ref a) := thd_lst e (by rw [List.length_map]; exact hl) fun x hx => by
  obtain ⟨y, _, rfl⟩ := List.mem_map.mp hx
  exact .int y
theorem spAre_V {vs : List V} {H : Hp} {Q : VK} {E : XK} (h : spAre vs H Q E) : spAreV vs H Q E := let ⟨a, ls, e, ea, hls, hl, q⟩ := h; ⟨.ref a, e, thd_ints ea hl, fun H' s => by rw [areOf_lst ea, areB_ints hls]; exact q H' s⟩
/-- of what are no last places -/
def spRowOfN (W : Addr) : Sp := fun vs H _ E => ∃ v, vs = [v] ∧ ThD H v ∧ areOf H v = false ∧ ∀ H', Same H H' → E (.ref W) none H'
/-- of a table of the right form that is no row's -/
def spRowTabN (W : Addr) : Sp := fun vs H _ E => ∃ (t : Addr) (ts : List Addr) (xss : List (List Int)) (n : Nat), vs = [.ref t] ∧ H t = some (.lst (ts.map V.ref)) ∧ LstsAt H ts xss ∧ FormT n xss ∧ n ≤ 300 ∧ (∀ ns, xss ≠ tabM ns) ∧ ∀ H', Same H H' → E (.ref W) none H'
end My

set_option Elab.async false
set_option linter.all false
set_option maxRecDepth 100000
set_option maxHeartbeats 4000000
/-! try: .. except X: .. where the names stand at the raise as ahead of the try. -/
namespace L2
open PySem PySem.Spec PyProof.Rows
section
variable {X : Cx} {k : Nat} {ps : List Str} {sp : Sp} {x : Str} {p pos : Pos} {e : Expr} {es : List Expr} {t : TA} {E : XK} {R : St → Prop}
end
section
variable {X : Cx} {pins : List (Addr × Obj)} {σ : St} {H : Hp} {s : Shared}
end
end L2

set_option Elab.async false
set_option linter.all false
set_option maxRecDepth 100000
set_option maxHeartbeats 4000000
/-! repr of a list of small whole numbers. -/
namespace L2
open PySem PySem.Spec PyProof.Rows
def dI (ns : List Int) : PyData := .list (ns.map PyData.int)
theorem call_repr_ints {X : Cx} {k : Nat} (hr : Room k X.A) : CallR X (.builtin "repr") (fun xs H Q => ∃ (l : Addr) (ns : List Int), xs = [.ref l] ∧ H l = some (.lst (ns.map V.int)) ∧ ns.length ≤ 1000 ∧ (∀ n ∈ ns, smallI n) ∧ Q (.str (dI ns).shown) H) := by
  intro pins s σ H xs us Q I r h
  obtain ⟨l, ns, rfl, e, hlen, hn, q⟩ := h
  obtain ⟨u, rfl, ru⟩ := vals1 r
  cases ru
  obtain ⟨b1, b2, b3, b4, b5⟩ := ints_facts hn
  obtain ⟨_, its, c, rv, ho⟩ := (show ObjOk X.prog X.w H s.heap l (.lst (ns.map V.int)) from I.hok l _ e)
  have hz := PyData.shown_le 8 (by decide) (dI ns) b2
  have hw : (dI ns).weight ≤ 11 * ns.length := b3
  have hdp : (dI ns).depth ≤ 2 := by show PyData.depthAll (ns.map PyData.int) + 1 ≤ 2; omega
  have hs : sizeLine = 16777216 := sizeLine_eq
  have hu := hr.units
  exact repr_of_reads' (d := dI ns) (as := [l]) (.list ho rfl rfl (by simpa using reads_ints rv)) b1 (PyData.noDict_hsm b4) hr.gd (by omega) (fun _ _ e => e) (fun h' u tk hk => ⟨.str _, H, I.kept (t' := tk) hk, ⟨u, rfl⟩, q⟩) (by omega)
def spPlainD (K : PySem.W.Frag) : Sp := fun vs H Q _ => ∃ (a : Addr) (ns : List Int), vs = [.ref a] ∧ SqL K H a (ns.map V.int) ∧ ns.length ≤ 900 ∧ ∀ (l : Addr) (H' : Hp), H l = none → Same H H' → H' l = some (.lst ((My.plainM ns).map V.int)) → Q (.ref l) H'
end L2
namespace My
open L2
theorem plain_small {ns : List Int} (hn : ns.length ≤ 900) : ∀ n ∈ plainM ns, smallI n := fun n h => by
  rw [← plain_law] at h
  obtain ⟨x, _, rfl⟩ := List.mem_map.mp h
  have h1 : (dd (ns.take (ns.idxOf x))).length ≤ 900 := by
    have := dd_take_le (ns := ns) (i := min (ns.idxOf x) ns.length) (by omega)
    rw [show ns.take (min (ns.idxOf x) ns.length) = ns.take (ns.idxOf x) by
      rcases Nat.le_total (ns.idxOf x) ns.length with z | z
      · rw [Nat.min_eq_left z]
      · rw [Nat.min_eq_right z, List.take_of_length_le (Nat.le_refl _), List.take_of_length_le z]] at this
    omega
  exact ⟨by omega, by omega⟩
end My

set_option Elab.async false
set_option linter.all false
set_option maxRecDepth 100000
set_option maxHeartbeats 4000000
/-! Tables of parts of a row, of a row from behind, and of a row with a new number more. -/
namespace My
open L2
end My
namespace L2
open PySem PySem.Spec My
end L2

set_option Elab.async false
set_option linter.all false
set_option maxRecDepth 100000
set_option maxHeartbeats 4000000
/-! Rows of last places, refused or not; what is new of a spoilt list. -/
namespace My
open PySem PySem.Spec L2
theorem preR_inv {ls : List Int} (hls : IsLs ls) : ∀ i, i ≤ ls.length → (∀ x ∈ (preR ls i).1, x < (preR ls i).2) ∧ ((dd (preR ls i).1).length : Int) = (preR ls i).2
  | 0, _ => ⟨fun x h => absurd h (List.not_mem_nil), rfl⟩
  | i + 1, h => by
    obtain ⟨h1, h2⟩ := preR_inv hls i (by omega)
    have hl := preR_len ls i (by omega)
    obtain ⟨g1, g2, _⟩ := hls i (by omega)
    rw [preR_succ (by omega)]
    unfold stepR
    by_cases z : ls.getD i 0 = -1
    · rw [if_pos z]
      refine ⟨fun x hx => ?_, ?_⟩
      · rcases List.mem_append.mp hx with y | y
        · have := h1 x y; show x < _ + 1; omega
        · rw [List.mem_singleton.mp y]; show _ < _ + 1; omega
      · show ((dd ((preR ls i).1 ++ [(preR ls i).2])).length : Int) = (preR ls i).2 + 1
        rw [dd_len_snoc, if_neg (fun y => Int.lt_irrefl _ (h1 _ y))]
        omega
    · rw [if_neg z]
      have hm : (preR ls i).1.getD (ls.getD i 0).toNat 0 ∈ (preR ls i).1 := List.mem_of_getElem? (getD_some (by omega))
      refine ⟨fun x hx => ?_, ?_⟩
      · rcases List.mem_append.mp hx with y | y
        · exact h1 x y
        · rw [List.mem_singleton.mp y]; exact h1 _ hm
      · show ((dd ((preR ls i).1 ++ [_])).length : Int) = (preR ls i).2
        rw [dd_len_snoc, if_pos hm]
        omega
end My

set_option Elab.async false
set_option linter.all false
set_option maxRecDepth 100000
set_option maxHeartbeats 4000000
/-! Whether a thing of any kind equals a whole number; list(range(a, b)); papers of first places looked at. -/
namespace L2
open PySem PySem.Spec PyProof.Rows PySem.SeqAt
open AutoSeq1 (wpAny_loadPart')
open MeetsSeq
theorem dct_not_int (l : Addr) (es : Array DictEntry) (n : Nat) (b : Int) (u : Tok) :
    Meets (Builtin.«dict.__eq__» ⟨[.ref l, .int b u], []⟩) (fun _ R s => s.heap.get? l = some { cls := .type "dict", data := .dict es n } ∧ R (.ok (.ret .notImplemented)) s) :=
  .of_wp fun prog w A R s h => by
    obtain ⟨hp, g, d, tk, os⟩ := s
    obtain ⟨hl, h⟩ := h
    have f1 := F.sub_int_dict
    wp_walk using wpAny_loadPart' hl
    exact ⟨_, rfl, h⟩
theorem int_not_dct (b : Int) (u : Tok) (l : Addr) (es : Array DictEntry) (n : Nat) :
    Meets (Builtin.«int.__eq__» ⟨[.int b u, .ref l], []⟩) (fun _ R s => s.heap.get? l = some { cls := .type "dict", data := .dict es n } ∧ R (.ok (.ret .notImplemented)) s) :=
  .of_wp fun prog w A R s h => by
    obtain ⟨hp, g, d, tk, os⟩ := s
    obtain ⟨hl, h⟩ := h
    wp_walk using wpAny_loadPart' hl, wpAny_load hl
    exact ⟨_, rfl, h⟩
theorem rc_dct_int {A : Around} {s : Shared} {l : Addr} {es : Array DictEntry} {n : Nat} (b : Int) (u : Tok) (ho : s.heap.get? l = some { cls := .type "dict", data := .dict es n }) (hu : A.units < cLine) : RcAt A s (.ref l) (.int b u) false := fun prog w E Q h =>
  rc_eq_decline_or (k := false) ⟨_, ho, rfl⟩ (typeIs_int s b u) (by decide) F.sub_int_dict F.slot_dict_eq F.slot_int_eq_refl
    (fun _ hq => call_meets F.slot_dict_eq ⟨_, ho, rfl⟩ F.entry_dict_eq (F.args_dict_eq_2 _ _) (dct_not_int l es n b u) ⟨ho, hq⟩)
    (fun _ hq => call_meets F.slot_int_eq_refl (typeIs_int s b u) F.entry_int_eq (F.args_int_eq_2 _ _) (int_not_dct b u l es n) ⟨ho, hq⟩)
    (fun _ hq => wpAny_of_eq (rfl : isSame (.ref l) (.int b u) = pure false) hq) (.inr hu) h
section
variable {X : Cx}
def anyEq (i : Int) : V → Bool
  | .int j => j == i
  | .bl b => (if b then 1 else 0) == i
  | _ => false
def rEqAny : R2 := fun x y H Q => ∃ i : Int, y = .int i ∧ My.ThK H x ∧ Q (.bl (anyEq i x)) H
theorem op_eqAny (hu : X.A.units < cLine) : OpR X (compareOp .Eq) rEqAny := by
  intro pins s σ H x y v u Q I rx ry h
  obtain ⟨i, rfl, t, q⟩ := h
  obtain ⟨tk, rfl⟩ := ry
  cases t with
  | non => cases rx; exact (RcAt.none_int i tk) _ _ _ _ (fin_bl I q rfl)
  | bl b => cases rx; exact (RcAt.bool_int b i tk) _ _ _ _ (fin_bl I q rfl)
  | int j => obtain ⟨t', rfl⟩ := rx; exact (RcAt.int_int j t' i tk) _ _ _ _ (fin_bl I q rfl)
  | str j => obtain ⟨t', rfl⟩ := rx; exact (RcAt.str_int j t' i tk) _ _ _ _ (fin_bl I q rfl)
  | lst e =>
    rename_i a xs
    cases rx
    obtain ⟨_, its, c, rv, ho⟩ := (show ObjOk X.prog X.w H s.heap a (.lst xs) from I.hok a _ e)
    exact (RcAt.list_int i tk ⟨_, ho, rfl, c, rfl⟩ hu) _ _ _ _ (fin_bl I q rfl)
  | tup e =>
    rename_i a xs
    cases rx
    obtain ⟨_, its, rv, ho⟩ := (show ObjOk X.prog X.w H s.heap a (.tup xs) from I.hok a _ e)
    exact (RcAt.tuple_int i tk (show s.heap.IsTuple a its.toArray from ho) hu) _ _ _ _ (fin_bl I q rfl)
  | dK e =>
    rename_i a kvs
    cases rx
    obtain ⟨_, _, vs, _, o, es, ep, ho, ⟨h1, h2, h3⟩, h4, _⟩ := (show ObjOk X.prog X.w H s.heap a (.dK kvs) from I.hok a _ e)
    obtain ⟨cls, dd, data, sl⟩ := o
    simp only at h1 h2 h3 h4
    subst h1 h2 h3 h4
    exact (rc_dct_int i tk ho hu) _ _ _ _ (fin_bl I q rfl)
end
end L2
namespace My
open PySem PySem.Spec L2
end My

set_option Elab.async false
set_option linter.all false
set_option maxRecDepth 100000
set_option maxHeartbeats 4000000
/-! Things of any kind as tables. -/
namespace My
open PySem PySem.Spec L2
/-- a thing; if it is a list, of things that may be lists of things -/
def ThT (H : Hp) (v : V) : Prop := ThK H v ∧ ∀ a xs, v = .ref a → H a = some (.lst xs) → xs.length ≤ 300 ∧ ∀ x ∈ xs, ThD H x
theorem ThT.same {H H' : Hp} {v : V} (t : ThT H v) (s : Same H H') : ThT H' v := ⟨t.1.same s, fun a xs e q => by
  obtain ⟨h1, h2⟩ := t.2 a xs e (same_obj t.1 (fun o z => s _ _ z) e q)
  exact ⟨h1, fun x hx => (h2 x hx).same s⟩⟩
def lineD (H : Hp) (m : Int) (v : V) : Bool := match v with
  | .ref a => match H a with | some (.lst xs) => decide ((xs.length : Int) = m) && (xs.map wholeV).all id | _ => false
  | _ => false
theorem lineD_lst {H : Hp} {a : Addr} {xs : List V} {m : Int} (e : H a = some (.lst xs)) : lineD H m (.ref a) = (decide ((xs.length : Int) = m) && (xs.map wholeV).all id) := by
  show (match H a with | some (.lst xs) => decide ((xs.length : Int) = m) && (xs.map wholeV).all id | _ => false) = _
  rw [e]
theorem lineD_no {H : Hp} {v : V} {m : Int} (t : ThK H v) (h : listV H v = false) : lineD H m v = false := by
  cases t with
  | lst e =>
    have h' : (match H _ with | some (.lst _) => true | _ => false) = false := h
    rw [e] at h'; cases h'
  | tup e =>
    show (match H _ with | some (.lst xs) => decide ((xs.length : Int) = m) && (xs.map wholeV).all id | _ => false) = _
    rw [e]
  | dK e =>
    show (match H _ with | some (.lst xs) => decide ((xs.length : Int) = m) && (xs.map wholeV).all id | _ => false) = _
    rw [e]
  | _ => rfl
theorem lineD_same {H H' : Hp} {v : V} {m : Int} (t : ThK H v) (s : Same H H') : lineD H' m v = lineD H m v := by
  cases t with
  | lst e => rw [lineD_lst e, lineD_lst (s _ _ e)]
  | tup e =>
    show (match H' _ with | some (.lst xs) => decide ((xs.length : Int) = m) && (xs.map wholeV).all id | _ => false) = (match H _ with | some (.lst xs) => decide ((xs.length : Int) = m) && (xs.map wholeV).all id | _ => false)
    rw [e, s _ _ e]
  | dK e =>
    show (match H' _ with | some (.lst xs) => decide ((xs.length : Int) = m) && (xs.map wholeV).all id | _ => false) = (match H _ with | some (.lst xs) => decide ((xs.length : Int) = m) && (xs.map wholeV).all id | _ => false)
    rw [e, s _ _ e]
  | _ => rfl
theorem lineD_yes {H : Hp} {v : V} {m : Int} (h : lineD H m v = true) : ∃ (a : Addr) (ns : List Int), v = .ref a ∧ H a = some (.lst (ns.map V.int)) ∧ (ns.length : Int) = m := by
  cases v with
  | ref a =>
    have h' : (match H a with | some (.lst xs) => decide ((xs.length : Int) = m) && (xs.map wholeV).all id | _ => false) = true := h
    cases e : H a with
    | none => rw [e] at h'; cases h'
    | some o =>
      rw [e] at h'
      cases o with
      | lst xs =>
        have h2 : (decide ((xs.length : Int) = m) && (xs.map wholeV).all id) = true := h'
        rw [Bool.and_eq_true] at h2
        obtain ⟨ns, rfl⟩ := ints_of (ys := xs) fun y hy => whole_int (List.all_eq_true.mp h2.2 (wholeV y) (List.mem_map.mpr ⟨y, hy, rfl⟩))
        exact ⟨a, ns, rfl, e, by have := of_decide_eq_true h2.1; rw [List.length_map] at this; exact this⟩
      | _ => cases h'
  | _ => cases h
def formL (H : Hp) (xs : List V) : List Bool := (List.range xs.length).map fun (i : Nat) => lineD H ((xs.length : Int) - (i : Int)) (xs.getD i .non)
def formD (H : Hp) (v : V) : Bool := match v with
  | .ref a => match H a with | some (.lst xs) => !decide (xs.length = 0) && (formL H xs).all id | _ => false
  | _ => false
theorem formD_lst {H : Hp} {a : Addr} {xs : List V} (e : H a = some (.lst xs)) : formD H (.ref a) = (!decide (xs.length = 0) && (formL H xs).all id) := by
  show (match H a with | some (.lst xs) => !decide (xs.length = 0) && (formL H xs).all id | _ => false) = _
  rw [e]
theorem formD_no {H : Hp} {v : V} (t : ThK H v) (h : listV H v = false) : formD H v = false := by
  cases t with
  | lst e =>
    have h' : (match H _ with | some (.lst _) => true | _ => false) = false := h
    rw [e] at h'; cases h'
  | tup e =>
    show (match H _ with | some (.lst xs) => !decide (xs.length = 0) && (formL H xs).all id | _ => false) = _
    rw [e]
  | dK e =>
    show (match H _ with | some (.lst xs) => !decide (xs.length = 0) && (formL H xs).all id | _ => false) = _
    rw [e]
  | _ => rfl
theorem getV {xs : List V} {i : Nat} (h : i < xs.length) : xs[i]? = some (xs.getD i .non) := by rw [List.getD_eq_getElem?_getD, List.getElem?_eq_getElem h]; rfl
/-- what has the form of a table -/
theorem formD_yes {H : Hp} {v : V} (h : formD H v = true) : ∃ (t : Addr) (ts : List Addr) (xss : List (List Int)) (n : Nat), v = .ref t ∧ H t = some (.lst (ts.map V.ref)) ∧ LstsAt H ts xss ∧ FormT n xss := by
  cases v with
  | ref a =>
    have h' : (match H a with | some (.lst xs) => !decide (xs.length = 0) && (formL H xs).all id | _ => false) = true := h
    cases e : H a with
    | none => rw [e] at h'; cases h'
    | some o =>
      rw [e] at h'
      cases o with
      | lst xs =>
        have h2 : (!decide (xs.length = 0) && (formL H xs).all id) = true := h'
        rw [Bool.and_eq_true] at h2
        have h0 : xs.length ≠ 0 := by simpa using h2.1
        have hl : ∀ i : Nat, i < xs.length → ∃ (a : Addr) (ns : List Int), xs.getD i .non = .ref a ∧ H a = some (.lst (ns.map V.int)) ∧ (ns.length : Int) = (xs.length : Int) - (i : Int) := fun i hi =>
          lineD_yes (List.all_eq_true.mp h2.2 _ (List.mem_map.mpr ⟨i, List.mem_range.mpr hi, rfl⟩))
        have hr : ∃ ts : List Addr, xs = ts.map V.ref := by
          have : ∀ ys : List V, (∀ y ∈ ys, ∃ a, y = V.ref a) → ∃ ts : List Addr, ys = ts.map V.ref := fun ys => by
            induction ys with
            | nil => exact fun _ => ⟨[], rfl⟩
            | cons y r ih =>
              intro hy
              obtain ⟨a, rfl⟩ := hy y (List.mem_cons_self ..)
              obtain ⟨ts, rfl⟩ := ih fun z hz => hy z (List.mem_cons_of_mem _ hz)
              exact ⟨a :: ts, rfl⟩
          refine this xs fun y hy => ?_
          obtain ⟨i, hi, ei⟩ := List.mem_iff_getElem.mp hy
          obtain ⟨a, ns, ea, _⟩ := hl i hi
          refine ⟨a, ?_⟩
          rw [← ea, List.getD_eq_getElem?_getD, List.getElem?_eq_getElem hi, ← ei]; rfl
        obtain ⟨ts, rfl⟩ := hr
        rw [List.length_map] at hl h0
        let g : Nat → List Int := fun i => match H (ts.getD i 0) with | some (.lst xs) => xs.map (fun v => match v with | .int n => n | _ => 0) | _ => []
        have hg : ∀ i, i < ts.length → H (ts.getD i 0) = some (.lst ((g i).map V.int)) ∧ (g i).length = ts.length - i := fun i hi => by
          obtain ⟨a, ns, ea, e1, e2⟩ := hl i hi
          have hta : ts.getD i 0 = a := by
            rw [List.getD_eq_getElem?_getD, List.getElem?_map, List.getElem?_eq_getElem hi] at ea
            have : V.ref ts[i] = V.ref a := ea
            injection this with this
            rw [List.getD_eq_getElem?_getD, List.getElem?_eq_getElem hi]; exact this
          have hgi : g i = ns := by
            show (match H (ts.getD i 0) with | some (.lst xs) => xs.map (fun v => match v with | .int n => n | _ => 0) | _ => []) = ns
            rw [hta, e1]
            show (ns.map V.int).map _ = ns
            rw [List.map_map]
            exact (List.map_congr_left fun x _ => rfl).trans (List.map_id' ns)
          rw [hgi, hta]
          exact ⟨e1, by omega⟩
        refine ⟨a, ts, (List.range ts.length).map g, ts.length - 1, rfl, e, ⟨by rw [List.length_map, List.length_range], fun i t ys h1 h2 => ?_⟩, ⟨by rw [List.length_map, List.length_range]; omega, fun f hf => ?_⟩⟩
        · have hi := (List.getElem?_eq_some_iff.mp h1).1
          rw [List.getElem?_map, List.getElem?_range hi] at h2
          have h2 : g i = ys := Option.some.inj h2
          have : ts.getD i 0 = t := by rw [List.getD_eq_getElem?_getD, h1]; rfl
          rw [← h2, ← this]
          exact (hg i hi).1
        · have hi : f < ts.length := by omega
          rw [List.getD_eq_getElem?_getD, List.getElem?_map, List.getElem?_range hi]
          show (g f).length = _
          rw [(hg f hi).2]; omega
      | _ => cases h'
  | _ => cases h
def nmT (l : Int) (rs : List Int) : Int := if l = -1 then ((dd rs).length : Int) else rs.getD l.toNat 0
def rowN (xss : List (List Int)) : Nat → List Int
  | 0 => []
  | p + 1 => rowN xss p ++ [nmT (lastT xss p) (rowN xss p)]
theorem rowN_len (xss : List (List Int)) : ∀ p, (rowN xss p).length = p
  | 0 => rfl
  | p + 1 => by show (rowN xss p ++ [_]).length = _; rw [List.length_append, rowN_len xss p]; rfl
theorem rowN_tab (ns : List Int) : ∀ p, p ≤ ns.length → rowN (tabM ns) p = (preR (lastsM ns) p).1
  | 0, _ => rfl
  | p + 1, h => by
    have ih := rowN_tab ns p (by omega)
    have hls := isLs_lasts ns
    have inv := (preR_inv hls p (by rw [len_lasts]; omega)).2
    show rowN (tabM ns) p ++ [nmT (lastT (tabM ns) p) (rowN (tabM ns) p)] = _
    rw [preR_succ (by rw [len_lasts]; omega), ih, tab_last (by omega), lasts_getD (by omega)]
    unfold stepR nmT
    by_cases z : lastIx ns (ns.getD p 0) p = -1
    · rw [if_pos z, if_pos z, inv]
    · rw [if_neg z, if_neg z]
theorem rowN_plain (ns : List Int) : rowN (tabM ns) ns.length = plainM ns := by
  rw [rowN_tab ns _ (Nat.le_refl _)]
  unfold plainM rowOfM
  rw [len_lasts]
def lastJ (xss : List (List Int)) (p j : Nat) : Int := (((List.range j).filter fun f => decide (atT xss f (p - f) = atT xss f (p - f + 1))).map fun (f : Nat) => (f : Int)).foldl max (-1)
theorem lastJ_lt (xss : List (List Int)) (p j : Nat) : -1 ≤ lastJ xss p j ∧ lastJ xss p j < (j : Int) := by
  obtain ⟨h1, _, h3⟩ := fold_max (((List.range j).filter fun f => decide (atT xss f (p - f) = atT xss f (p - f + 1))).map fun (f : Nat) => (f : Int)) (-1)
  refine ⟨h1, ?_⟩
  rcases h3 with h | h
  · unfold lastJ; rw [h]; omega
  · obtain ⟨f, hf, e⟩ := List.mem_map.mp h
    have := List.mem_range.mp (List.mem_filter.mp hf).1
    unfold lastJ; rw [← e]; omega
theorem lastJ_succ (xss : List (List Int)) (p j : Nat) : lastJ xss p (j + 1) = if atT xss j (p - j) = atT xss j (p - j + 1) then (j : Int) else lastJ xss p j := by
  have hlt := lastJ_lt xss p j
  unfold lastJ at hlt ⊢
  rw [List.range_succ, List.filter_append]
  by_cases z : atT xss j (p - j) = atT xss j (p - j + 1)
  · rw [if_pos z, show [j].filter (fun f => decide (atT xss f (p - f) = atT xss f (p - f + 1))) = [j] by rw [List.filter_cons_of_pos (by simpa using z)]; rfl, List.map_append, List.foldl_append]
    show max _ (j : Int) = (j : Int)
    omega
  · rw [if_neg z, show [j].filter (fun f => decide (atT xss f (p - f) = atT xss f (p - f + 1))) = [] by rw [List.filter_cons_of_neg (by simpa using z)]; rfl, List.append_nil]
theorem lastJ_T (xss : List (List Int)) (p : Nat) : lastJ xss p p = lastT xss p := rfl
def lenD (H : Hp) (m : Int) (v : V) : Bool := match v with
  | .ref a => match H a with | some (.lst xs) => decide ((xs.length : Int) = m) | _ => false
  | _ => false
theorem lenD_lst {H : Hp} {a : Addr} {xs : List V} {m : Int} (e : H a = some (.lst xs)) : lenD H m (.ref a) = decide ((xs.length : Int) = m) := by
  show (match H a with | some (.lst xs) => decide ((xs.length : Int) = m) | _ => false) = _
  rw [e]
theorem lenD_no {H : Hp} {v : V} {m : Int} (t : ThK H v) (h : listV H v = false) : lenD H m v = false := by
  cases t with
  | lst e =>
    have h' : (match H _ with | some (.lst _) => true | _ => false) = false := h
    rw [e] at h'; cases h'
  | tup e =>
    show (match H _ with | some (.lst xs) => decide ((xs.length : Int) = m) | _ => false) = _
    rw [e]
  | dK e =>
    show (match H _ with | some (.lst xs) => decide ((xs.length : Int) = m) | _ => false) = _
    rw [e]
  | _ => rfl
def spIsList : Sp := fun vs H Q _ => ∃ (v : V) (m : Int), vs = [v, .int m] ∧ ThK H v ∧ Q (.bl (lenD H m v)) H
/-- no table of any row -/
def NoTab (H : Hp) (v : V) : Prop := formD H v = false ∨ ∃ (t : Addr) (ts : List Addr) (xss : List (List Int)) (n : Nat), v = .ref t ∧ H t = some (.lst (ts.map V.ref)) ∧ LstsAt H ts xss ∧ FormT n xss ∧ n ≤ 300 ∧ ∀ ns, xss ≠ tabM ns
def spRowOfA : Sp := fun vs H Q _ => ∃ v : V, vs = [v] ∧ ThT H v ∧ (NoTab H v → ∀ H', Same H H' → Q .non H') ∧
  ∀ (t : Addr) (ts : List Addr) (ns : List Int), v = .ref t → H t = some (.lst (ts.map V.ref)) → LstsAt H ts (tabM ns) → ns.length ≤ 300 → ∀ (l : Addr) (H' : Hp), H l = none → Same H H' → H' l = some (.lst ((plainM ns).map V.int)) → Q (.ref l) H'
def spLineA : Sp := fun vs H Q _ => ∃ (v : V) (m : Int), vs = [v, .int m] ∧ ThD H v ∧ ∀ H', Same H H' → Q (.bl (lineD H m v)) H'
def spFormA : Sp := fun vs H Q _ => ∃ v : V, vs = [v] ∧ ThT H v ∧ ∀ H', Same H H' → Q (.bl (formD H v)) H'
def spRowTabA (W : Addr) : Sp := fun vs H _ E => ∃ v : V, vs = [v] ∧ ThT H v ∧ formD H v = false ∧ ∀ H', Same H H' → E (.ref W) none H'
def spAskedT : Sp := fun vs H Q _ => ∃ v : V, vs = [v] ∧ ThT H v ∧ (NoTab H v → ∀ H', Same H H' → Q (.bl true) H') ∧
  ∀ (t : Addr) (ts : List Addr) (ns : List Int), v = .ref t → H t = some (.lst (ts.map V.ref)) → LstsAt H ts (tabM ns) → ns.length ≤ 300 → ∀ (l : Addr) (H' : Hp), H l = none → Same H H' → H' l = some (.lst ((plainM ns).map V.int)) → Q (.ref l) H'
def spRightT : Sp := fun vs H Q _ => ∃ v : V, vs = [v] ∧ ThT H v ∧ ∀ H', Same H H' → Q (.bl true) H'
theorem tab_or {H : Hp} {v : V} (t : ThT H v) : NoTab H v ∨ ∃ (a : Addr) (ts : List Addr) (ns : List Int), v = .ref a ∧ H a = some (.lst (ts.map V.ref)) ∧ LstsAt H ts (tabM ns) ∧ ns.length ≤ 300 := by
  cases hf : formD H v with
  | false => exact .inl (.inl hf)
  | true =>
    obtain ⟨a, ts, xss, n, rfl, ea, lt, hF⟩ := formD_yes hf
    have hl := (t.2 a _ rfl ea).1
    rw [List.length_map, lt.1, hF.1] at hl
    by_cases h : ∃ ns, xss = tabM ns
    · obtain ⟨ns, rfl⟩ := h
      have := hF.1
      rw [tab_len] at this
      exact .inr ⟨a, ts, ns, rfl, ea, lt, by omega⟩
    · exact .inl (.inr ⟨a, ts, xss, n, rfl, ea, lt, hF, by omega, fun ns e => h ⟨ns, e⟩⟩)
theorem NoTab.same {H H' : Hp} {v : V} (t : ThT H v) (s : Same H H') (n : NoTab H v) : NoTab H' v := by
  rcases n with n | ⟨a, ts, xss, m, rfl, ea, lt, hf, hm, hn⟩
  · refine .inl ?_
    cases hf : formD H' v with
    | false => rfl
    | true =>
      exfalso
      obtain ⟨a, ts, xss, m, rfl, ea, lt, hF⟩ := formD_yes hf
      have ea0 : H a = some (.lst (ts.map V.ref)) := same_obj t.1 (fun o z => s _ _ z) rfl ea
      rw [formD_lst ea0] at n
      rw [formD_lst ea] at hf
      have : formL H' (ts.map V.ref) = formL H (ts.map V.ref) := by
        unfold formL
        refine List.map_congr_left fun i hi => ?_
        have hi := List.mem_range.mp hi
        exact lineD_same ((t.2 a _ rfl ea0).2 _ (List.mem_of_getElem? (getV hi))).1 s
      rw [this, n] at hf
      cases hf
  · exact .inr ⟨a, ts, xss, m, rfl, s _ _ ea, lt.same s, hf, hm, hn⟩
theorem lsts_eq {H : Hp} {ts : List Addr} {xss yss : List (List Int)} (x : LstsAt H ts xss) (y : LstsAt H ts yss) : xss = yss := by
  refine List.ext_getElem? fun i => ?_
  by_cases hi : i < ts.length
  · have h1 : i < xss.length := by rw [← x.1]; exact hi
    have h2 : i < yss.length := by rw [← y.1]; exact hi
    have e1 := x.2 i _ _ (List.getElem?_eq_getElem hi) (List.getElem?_eq_getElem h1)
    have e2 := y.2 i _ _ (List.getElem?_eq_getElem hi) (List.getElem?_eq_getElem h2)
    rw [e1] at e2
    injection e2 with e2
    injection e2 with e2
    rw [List.getElem?_eq_getElem h1, List.getElem?_eq_getElem h2, (List.map_inj_right (fun x y h => by injection h)).mp e2]
  · rw [List.getElem?_eq_none (by rw [← x.1]; omega), List.getElem?_eq_none (by rw [← y.1]; omega)]
theorem formD_tab {H : Hp} {a : Addr} {ts : List Addr} {ns : List Int} (ea : H a = some (.lst (ts.map V.ref))) (lt : LstsAt H ts (tabM ns)) : formD H (.ref a) = true := by
  have hl : ts.length = ns.length + 1 := by rw [lt.1, tab_len]
  rw [formD_lst ea, List.length_map, decide_eq_false (by omega)]
  show (formL H (ts.map V.ref)).all id = true
  refine List.all_eq_true.mpr fun c hc => ?_
  obtain ⟨i, hi, rfl⟩ := List.mem_map.mp hc
  have hi := List.mem_range.mp hi
  rw [List.length_map] at hi
  obtain ⟨l, h1, el⟩ := lt.at (f := i) (by rw [tab_len]; omega)
  rw [tab_getD (by omega)] at el
  have hx : (ts.map V.ref).getD i .non = .ref l := by rw [List.getD_eq_getElem?_getD, List.getElem?_map, h1]; rfl
  show lineD H (((ts.map V.ref).length : Int) - (i : Int)) ((ts.map V.ref).getD i .non) = true
  rw [hx, lineD_lst el, List.length_map, List.length_map, line_len, decide_eq_true (by rw [hl]; omega), Bool.true_and]
  refine List.all_eq_true.mpr fun c hc => ?_
  obtain ⟨x, hx, rfl⟩ := List.mem_map.mp hc
  obtain ⟨n, _, rfl⟩ := List.mem_map.mp hx
  rfl
theorem noTab_tab {H : Hp} {v : V} {a : Addr} {ts : List Addr} {ns : List Int} (n : NoTab H v) (hv : v = .ref a) (ea : H a = some (.lst (ts.map V.ref))) (lt : LstsAt H ts (tabM ns)) : False := by
  subst hv
  rcases n with n | ⟨b, us, xss, m, e, eb, lu, hf, hm, hn⟩
  · rw [formD_tab ea lt] at n; cases n
  · injection e with e
    subst e
    rw [ea] at eb
    injection eb with eb
    injection eb with eb
    have : ts = us := (List.map_inj_right (fun x y h => by injection h)).mp eb
    subst this
    exact hn ns (lsts_eq lu lt)
end My

set_option Elab.async false
set_option linter.all false
set_option maxRecDepth 100000
set_option maxHeartbeats 4000000
/-! Displays of things, by levels. -/
namespace My
open PySem PySem.Spec L2
variable {n k : Nat} {σ : St}
end My

set_option Elab.async false
set_option linter.all false
set_option maxRecDepth 100000
set_option maxHeartbeats 4000000
/-! Long displays: what makes them and what they make, in one judgement. -/
namespace My
open PySem PySem.Spec L2
variable {n j k : Nat} {X : Cx} {e : Expr} {es : List Expr} {pos : Pos}
end My

set_option Elab.async false
set_option linter.all false
set_option maxRecDepth 100000
set_option maxHeartbeats 1000000
/-! Sorting rows of any length. -/
namespace Tim
open PySem PyProof.Rows
section
variable {prog : Program} {w : World} {A : Around} {E : Value → Shared → Prop} {s : Shared}
end
/-! what a merge keeps -/
end Tim

set_option Elab.async false
set_option linter.all false
set_option maxRecDepth 100000
set_option maxHeartbeats 1000000
namespace Tim
open PySem PyProof.Rows
section
variable {prog : Program} {w : World} {A : Around} {E : Value → Shared → Prop} {s : Shared}
end
end Tim

set_option Elab.async false
set_option linter.all false
set_option maxRecDepth 100000
set_option maxHeartbeats 1000000
namespace Tim
open PySem PyProof.Rows
/-! the merge from behind -/
section
variable {prog : Program} {w : World} {A : Around} {E : Value → Shared → Prop} {s : Shared}
end
end Tim

set_option Elab.async false
set_option linter.all false
set_option maxRecDepth 100000
set_option maxHeartbeats 1000000
namespace Tim
open PySem PyProof.Rows
/-! runs -/
section
variable {a₀ : Array Keyed} {prog : Program} {w : World} {A : Around} {E : Value → Shared → Prop} {s : Shared}
end
end Tim

set_option Elab.async false
set_option linter.all false
set_option maxRecDepth 100000
set_option maxHeartbeats 1000000
namespace Tim
open PySem PyProof.Rows
section
variable {a₀ : Array Keyed} {prog : Program} {w : World} {A : Around} {E : Value → Shared → Prop} {s : Shared}
end
end Tim

set_option Elab.async false
set_option linter.all false
set_option maxRecDepth 100000
set_option maxHeartbeats 1000000
namespace Tim
open PySem PyProof.Rows
section
variable {a₀ : Array Keyed} {prog : Program} {w : World} {A : Around} {E : Value → Shared → Prop} {s : Shared}
end
end Tim

set_option Elab.async false
set_option linter.all false
set_option maxRecDepth 100000
set_option maxHeartbeats 1000000
namespace Tim
open PySem PyProof.Rows
section
variable {a₀ : Array Keyed} {prog : Program} {w : World} {A : Around} {E : Value → Shared → Prop} {s : Shared}
end
end Tim

set_option Elab.async false
set_option linter.all false
set_option maxRecDepth 100000
set_option maxHeartbeats 1000000
/-! list.sort and sorted, of whole numbers, any length. -/
namespace Tim
open PySem PyProof.Rows
section
variable {prog : Program} {w : World} {A : Around} {E : Value → Shared → Prop} {s : Shared}
end
end Tim

set_option Elab.async false
set_option linter.all false
set_option maxRecDepth 100000
set_option maxHeartbeats 4000000
/-! sorted of a list of whole numbers -/
namespace L2
open PySem PySem.Spec PyProof.Rows
section
variable {X : Cx} {K : PySem.W.Frag}
end
end L2

set_option Elab.async false
set_option linter.all false
set_option maxRecDepth 100000
set_option maxHeartbeats 1000000
/-! Sets that can be walked: their tables. -/
namespace Tab
open PySem PyProof.Rows
end Tab

set_option Elab.async false
set_option linter.all false
set_option maxRecDepth 100000
set_option maxHeartbeats 1000000
namespace Tab
open PySem PyProof.Rows
section
variable {prog : Program} {w : World} {K : Type} [DecidableEq K] (knd : KeyKind prog w K)
variable {knd}
variable {A : Around} {E : Value → Shared → Prop} {s : Shared}
end
end Tab

set_option Elab.async false
set_option linter.all false
set_option maxRecDepth 100000
set_option maxHeartbeats 3200000
namespace Tab
open PySem PyProof.Rows
section
variable {prog : Program} {w : World} {A : Around} {R : Result → Shared → Prop} {I : Addr} {fp wr : List Addr} {G : Array GenState → Array GenState → Prop} {n : Nat} {P : Nat → Value → Prop} {St : Nat → Shared → Prop}
end
section
variable {prog : Program} {w : World} {A : Around} {E : Value → Shared → Prop} {s : Shared}
end
end Tab

set_option Elab.async false
set_option linter.all false
set_option maxRecDepth 100000
set_option maxHeartbeats 3200000
/-! A walk over a set. -/
namespace Tab
open PySem PyProof.Rows
end Tab

set_option Elab.async false
set_option linter.all false
set_option maxRecDepth 100000
set_option maxHeartbeats 3200000
namespace Tab
open PySem PyProof.Rows
section
variable {prog : Program} {w : World} {A : Around} {E : Value → Shared → Prop} {s : Shared}
end
end Tab

set_option Elab.async false
set_option linter.all false
set_option maxRecDepth 100000
set_option maxHeartbeats 3200000
namespace Tab
open PySem PyProof.Rows
section
variable {prog : Program} {w : World} {A : Around} {E : Value → Shared → Prop} {s : Shared} {a : Addr} {es : Array (Int × Value)} {ep : Nat} {t : SetTable}
end
end Tab

set_option Elab.async false
set_option linter.all false
set_option maxRecDepth 100000
set_option maxHeartbeats 3200000
namespace Tab
open PySem PyProof.Rows
section
variable {prog : Program} {w : World} {A : Around} {E : Value → Shared → Prop} {s : Shared} {a : Addr} {es : Array (Int × Value)} {ep : Nat} {t : SetTable}
end
end Tab

set_option Elab.async false
set_option linter.all false
set_option maxRecDepth 100000
set_option maxHeartbeats 3200000
/-! sorted of a set of whole numbers -/
namespace Tab
open PySem PyProof.Rows
section
variable {prog : Program} {w : World} {A : Around} {E : Value → Shared → Prop} {s : Shared} {a : Addr}
end
end Tab

set_option Elab.async false
set_option linter.all false
set_option maxRecDepth 100000
set_option maxHeartbeats 1000000
/-! The steps i -> 5 i + 1 run through all places of a table of 2^k. -/
namespace Tab
end Tab

set_option Elab.async false
set_option linter.all false
set_option maxRecDepth 100000
set_option maxHeartbeats 1000000
/-! A free place of a table is found. -/
namespace Tab
open PySem PySem.SetTable
end Tab

set_option Elab.async false
set_option linter.all false
set_option maxRecDepth 100000
set_option maxHeartbeats 1000000
/-! A table laid anew holds every element once. -/
namespace Tab
open PySem PySem.SetTable
end Tab

set_option Elab.async false
set_option linter.all false
set_option maxRecDepth 100000
set_option maxHeartbeats 1000000
namespace Tab
open PySem PySem.SetTable
end Tab

set_option Elab.async false
set_option linter.all false
set_option maxRecDepth 100000
set_option maxHeartbeats 4000000
/-! sorted(set(list)) -/
namespace L2
open PySem PySem.Spec PyProof.Rows
section
variable {X : Cx} {K : PySem.W.Frag}
end
end L2

set_option Elab.async false
set_option linter.all false
set_option maxRecDepth 100000
set_option maxHeartbeats 4000000
/-! Windows side by side. -/
namespace My
open PySem PySem.Spec L2
end My

set_option Elab.async false
set_option linter.all false
set_option maxRecDepth 100000
set_option maxHeartbeats 4000000
/-! Rows alike: last places, next places and plain rows go together. Rows by other names. -/
namespace My
open PySem PySem.Spec L2
end My
namespace L2
open PySem PySem.Spec PyProof.Rows
end L2
namespace My
end My

set_option Elab.async false
set_option linter.all false
set_option maxRecDepth 100000
set_option maxHeartbeats 4000000
/-! First places: their numbers, and those of a row from behind. -/
namespace My
open PySem PySem.Spec L2
end My

set_option Elab.async false
set_option linter.all false
set_option maxRecDepth 100000
set_option maxHeartbeats 4000000
/-! Ends, begins and first places of rows from behind, of other names, within longer rows; != of lists that are alike. -/
namespace My
open PySem PySem.Spec L2
section
variable {a ns c : List Int}
end
end My
namespace L2
open PySem PySem.Spec PyProof.Rows
section
variable {X : Cx}
end
end L2
namespace L2
open PySem PySem.Spec PyProof.Rows
end L2

set_option Elab.async false
set_option linter.all false
set_option maxRecDepth 100000
set_option maxHeartbeats 4000000
/-! sorted of a dict; a list and its copy; partings of any thing. -/
namespace L2
open PySem PySem.Spec PyProof.Rows
section
variable {X : Cx} {K : PySem.W.Frag}
end
end L2
namespace L2
open PySem PySem.Spec PyProof.Rows
section
variable {X : Cx}
end
end L2
namespace My
open PySem PySem.Spec L2
end My
namespace L2
open PySem PySem.Spec PyProof.Rows
end L2
namespace My
open PySem PySem.Spec L2
end My

set_option Elab.async false
set_option linter.all false
set_option maxRecDepth 100000
set_option maxHeartbeats 4000000
/-! Papers of windows, of any things. -/
namespace My
open PySem PySem.Spec L2
end My
namespace My
open PySem PySem.Spec L2
end My

set_option Elab.async false
set_option linter.all false
set_option maxRecDepth 100000
set_option maxHeartbeats 4000000
/-! Numbers that may be truths: +, -, >, str. -/
namespace L2
open PySem PySem.Spec PyProof.Rows
section
variable {X : Cx}
def numV : V → Option Int
  | .int i => some i
  | .bl b => some (if b = true then 1 else 0)
  | _ => none
theorem numV_cases {v : V} {n : Int} (h : numV v = some n) : v = .int n ∨ ∃ b, v = .bl b ∧ n = if b = true then 1 else 0 := by
  cases v with
  | int i => exact .inl (by injection h with h; rw [h])
  | bl b => exact .inr ⟨b, rfl, by injection h with h; exact h.symm⟩
  | _ => cases h
def rN0 (g : Int → Int → V) : R2 := fun x y H Q => ∃ n j, numV x = some n ∧ y = .int j ∧ Q (g n j) H
theorem op_addN : OpR X (binaryOp .Add) (rN0 fun i j => .int (i + j)) := by
  intro pins s σ H x y v u Q I rx ry h
  obtain ⟨n, j, hn, rfl, q⟩ := h
  obtain ⟨t', rfl⟩ := ry
  rcases numV_cases hn with rfl | ⟨b, rfl, rfl⟩
  · obtain ⟨t, rfl⟩ := rx
    exact add_int ⟨.int (n + j), H, I.tok _, ⟨_, rfl⟩, q⟩
  · cases rx
    exact PySem.IntBool.add_bool_int ⟨.int _, H, I.tok _, ⟨_, rfl⟩, q⟩
theorem op_subN : OpR X (binaryOp .Sub) (rN0 fun i j => .int (i - j)) := by
  intro pins s σ H x y v u Q I rx ry h
  obtain ⟨n, j, hn, rfl, q⟩ := h
  obtain ⟨t', rfl⟩ := ry
  rcases numV_cases hn with rfl | ⟨b, rfl, rfl⟩
  · obtain ⟨t, rfl⟩ := rx
    exact sub_int ⟨.int (n - j), H, I.tok _, ⟨_, rfl⟩, q⟩
  · cases rx
    exact PySem.IntBool.sub_bool_int ⟨.int _, H, I.tok _, ⟨_, rfl⟩, q⟩
theorem gives_gt_bi (p : Bool) (b : Int) (u : Tok) : Gives (Builtin.«int.__gt__» ⟨[.bool p, .int b u], []⟩) (.val (Value.bool ((fun x1 x2 => decide (x1 > x2)) (if p = true then (1 : Int) else 0) b))) := .of_eq rfl
theorem gt_bi {prog : Program} {w : World} {A : Around} {E : Value → Shared → Prop} {s : Shared} {p : Bool} {b : Int} {u : Tok} {Q : Value → Shared → Prop} (h : Q (.bool (decide (b < (if p = true then (1 : Int) else 0)))) s) : wpAny (model prog w) A (compareOp .Gt (.bool p) (.int b u)) Q E s := by
  have hop : compareOp .Gt (.bool p) (.int b u) = richCompare .Gt (.bool p) (.int b u) := rfl
  rw [hop]
  exact PySem.SeqAt.rc_left_or (op := .Gt) (Ta := "bool") (Tb := "int") rfl (typeIs_int s b u) (by decide) F.sub_int_bool F.slot_bool_gt (call_gives F.slot_bool_gt rfl F.entry_int_gt (F.args_int_gt_2 _ _) (gives_gt_bi p b u) ⟨nofun, h⟩) (.inl rfl)
theorem op_gtN : OpR X (compareOp .Gt) (rN0 fun i j => .bl (decide (j < i))) := by
  intro pins s σ H x y v u Q I rx ry h
  obtain ⟨n, j, hn, rfl, q⟩ := h
  obtain ⟨t', rfl⟩ := ry
  rcases numV_cases hn with rfl | ⟨b, rfl, rfl⟩
  · obtain ⟨t, rfl⟩ := rx
    exact gt_int ⟨.bl _, H, I, rfl, q⟩
  · cases rx
    exact gt_bi ⟨.bl _, H, I, rfl, q⟩
theorem call_strN : CallR X (.type "str") (fun xs H Q => ∃ x n, xs = [x] ∧ numV x = some n ∧ n.natAbs.log2 < 1920 ∧ ∀ z, Q (.str z) H) := by
  intro pins s σ H xs us Q I r h
  obtain ⟨x, n, rfl, hn, hz, q⟩ := h
  rcases numV_cases hn with rfl | ⟨b, rfl, rfl⟩
  · obtain ⟨u, rfl, t, rfl⟩ := vals1 r
    exact PySem.P.str_of_int hz (Q := EP X pins σ Q) ⟨.str _, H, I.tok _, ⟨_, rfl⟩, q _⟩
  · obtain ⟨u, rfl, r1⟩ := vals1 r
    cases r1
    exact PySem.P.str_of_bool (Q := EP X pins σ Q) ⟨.str _, H, I.tok _, ⟨_, rfl⟩, q _⟩
end
end L2

set_option Elab.async false
set_option linter.all false
set_option maxRecDepth 100000
set_option maxHeartbeats 4000000
/-! Tables with a thing otherwise. -/
namespace L2
open PySem PySem.Spec
def spRowQ : Sp := fun vs H Q _ => ∃ (p : Addr) (m n0 : Nat), vs = [.ref p, .int m] ∧ PurseAt H p ∧ m ≤ n0 ∧ 41 ≤ n0 ∧ n0 ≤ 300 ∧ ∀ (l : Addr) (ns : List Int) (H' : Hp), H l = none → H' l = some (.lst (ns.map V.int)) → ns.length ≤ n0 → PurseAt H' p → SameX p H H' → Q (.ref l) H'
theorem cutV_mem {xs : List V} {lo hi : Option Int} {x : V} (h : x ∈ cutV xs lo hi) : x ∈ xs := List.mem_of_mem_drop (List.mem_of_mem_take h)
theorem cutV_drop' (xs : List V) (m : Nat) : cutV xs (some ((m : Int) + 1)) none = xs.drop (m + 1) := cutV_drop xs (m + 1)
end L2
namespace My
open PySem PySem.Spec L2
/-- a thing for a table that stays while the purse changes -/
def ThTp (p : Addr) (H : Hp) (v : V) : Prop := Th p H v ∧ ∀ a xs, v = .ref a → H a = some (.lst xs) → xs.length ≤ 300 ∧ ∀ x ∈ xs, ThH p H x 1000
theorem ThTp.sx {p : Addr} {H H' : Hp} {v : V} (t : ThTp p H v) (s : SameX p H H') : ThTp p H' v := ⟨t.1.sx s, fun a xs e q => by
  obtain ⟨h1, h2⟩ := t.2 a xs e (same_obj t.1.1 (fun o z => s _ _ (fun y => t.1.2 (by rw [e, y])) z) e q)
  exact ⟨h1, fun x hx => (h2 x hx).sx s⟩⟩
theorem ThTp.t {p : Addr} {H : Hp} {v : V} (t : ThTp p H v) : ThT H v := ⟨t.1.1, fun a xs e q => ⟨(t.2 a xs e q).1, fun x hx => ((t.2 a xs e q).2 x hx).d (Nat.le_refl _)⟩⟩
theorem ThTp.lst {p : Addr} {H : Hp} {a : Addr} {xs : List V} (e : H a = some (.lst xs)) (ne : a ≠ p) (hn : xs.length ≤ 300) (hx : ∀ x ∈ xs, ThH p H x 1000) : ThTp p H (.ref a) :=
  ⟨⟨.lst e, fun z => ne (by injection z)⟩, fun b ys z q => by cases z; rw [e] at q; cases q; exact ⟨hn, hx⟩⟩
theorem ThTp.tup {p : Addr} {H : Hp} {a : Addr} {xs : List V} (e : H a = some (.tup xs)) (ne : a ≠ p) : ThTp p H (.ref a) :=
  ⟨⟨.tup e, fun z => ne (by injection z)⟩, fun b ys z q => by cases z; rw [e] at q; cases q⟩
structure LnD (p : Addr) (B : Nat) (H : Hp) (l : Addr) (xs : List V) : Prop where
  ne : l ≠ p
  ob : H l = some (.lst xs)
  pos : 0 < xs.length
  len : xs.length ≤ 450
  th : ∀ x ∈ xs, Th p H x
  bd : ∀ n, V.int n ∈ xs → n.natAbs ≤ B
theorem LnD.sx {p : Addr} {B : Nat} {H H' : Hp} {l : Addr} {xs : List V} (t : LnD p B H l xs) (s : SameX p H H') : LnD p B H' l xs := ⟨t.ne, s _ _ t.ne t.ob, t.pos, t.len, fun x hx => (t.th x hx).sx s, t.bd⟩
theorem LnD.up {p : Addr} {B B' : Nat} {H : Hp} {l : Addr} {xs : List V} (t : LnD p B H l xs) (h : B ≤ B') : LnD p B' H l xs := ⟨t.ne, t.ob, t.pos, t.len, t.th, fun n hn => Nat.le_trans (t.bd n hn) h⟩
theorem LnD.h {p : Addr} {B : Nat} {H : Hp} {l : Addr} {xs : List V} (t : LnD p B H l xs) : ThH p H (.ref l) 1000 := .lst t.ob t.ne (Nat.le_trans t.len (by decide)) t.th
structure TabD (p : Addr) (B : Nat) (H : Hp) (t : Addr) (ts : List Addr) : Prop where
  ne : t ≠ p
  ob : H t = some (.lst (ts.map V.ref))
  pos : 0 < ts.length
  len : ts.length ≤ 300
  ln : ∀ l ∈ ts, ∃ xs, LnD p B H l xs
theorem TabD.sx {p : Addr} {B : Nat} {H H' : Hp} {t : Addr} {ts : List Addr} (d : TabD p B H t ts) (s : SameX p H H') : TabD p B H' t ts := ⟨d.ne, s _ _ d.ne d.ob, d.pos, d.len, fun l hl => let ⟨xs, x⟩ := d.ln l hl; ⟨xs, x.sx s⟩⟩
theorem TabD.th {p : Addr} {B : Nat} {H : Hp} {t : Addr} {ts : List Addr} (d : TabD p B H t ts) : ∀ x ∈ ts.map V.ref, ThH p H x 1000 := fun x hx => by
  obtain ⟨l, hl, rfl⟩ := List.mem_map.mp hx
  obtain ⟨xs, y⟩ := d.ln l hl
  exact y.h
theorem TabD.t {p : Addr} {B : Nat} {H : Hp} {t : Addr} {ts : List Addr} (d : TabD p B H t ts) : ThTp p H (.ref t) := .lst d.ob d.ne (by rw [List.length_map]; exact d.len) d.th
theorem refs_at {ts : List Addr} {f : Nat} (h : f < ts.length) : ∃ l, ts[f]? = some l ∧ l ∈ ts ∧ atI (ts.map V.ref) (f : Int) = some (.ref l) := by
  refine ⟨ts[f], List.getElem?_eq_getElem h, List.getElem_mem h, atI_nat ?_⟩
  rw [List.getElem?_map, List.getElem?_eq_getElem h]; rfl
def spWithT : Sp := fun vs H Q _ => ∃ (p t l : Addr) (B f a : Nat) (ts : List Addr) (xs : List V) (x : V), vs = [.ref t, .int f, .int a, x] ∧ (∃ o, H p = some o) ∧ TabD p B H t ts ∧ ts[f]? = some l ∧ LnD p B H l xs ∧ a < xs.length ∧ Th p H x ∧ (∀ n, x = .int n → n.natAbs ≤ B) ∧
  ∀ (r : Addr) (us : List Addr) (H' : Hp), Same H H' → TabD p B H' r us → Q (.ref r) H'
def spOneT : Sp := fun vs H Q _ => ∃ (p t : Addr) (B : Nat) (ts : List Addr), vs = [.ref p, .ref t] ∧ PurseAt H p ∧ TabD p B H t ts ∧ B ≤ 10 ^ 30 + 2000 ∧
  ∀ (r : Addr) (us : List Addr) (H' : Hp), PurseAt H' p → SameX p H H' → TabD p (10 ^ 30 + B + 2) H' r us → Q (.ref r) H'
def spLinesT : Sp := fun vs H Q _ => ∃ (p t : Addr) (B : Nat) (ts : List Addr), vs = [.ref p, .ref t] ∧ PurseAt H p ∧ TabD p B H t ts ∧ ts.length ≤ 200 ∧ (∀ l ∈ ts, ∃ ns : List Int, H l = some (.lst (ns.map V.int))) ∧
  ∀ (v : V) (H' : Hp), PurseAt H' p → SameX p H H' → ThTp p H' v → Q v H'
end My

set_option Elab.async false
set_option linter.all false
set_option maxRecDepth 100000
set_option maxHeartbeats 4000000
namespace Prf
open PySem L2
def top (i : Nat) : Stmt := PySem.Challenge.pw_unlikerow_k33_tables_spoilt.main.body.getD i (.Pass ⟨0, 0, 0, 0⟩)
/-! ### whole numbers, of any thing -/
abbrev stis_whole : Stmt := top 9
section
variable {P : Program} {w : World} {K : PySem.W.Frag} {mg : Str → Option Value} {base : Heap}
open My
theorem scis_whole : FnScope ["thing"] ["thing"] (defScope stis_whole) := ⟨rfl, rfl, rfl, by decide +kernel, rfl, by decide +kernel, by decide +kernel⟩
theorem ok_is_whole {f : Addr} {fd : FuncData} (B : Blt mg) (F : Fun K "is_whole" "is_whole" stis_whole f fd) : FnOk P w K mg base CX0 1 f fd ["thing"] spWholeV := by
  refine F.ok scis_whole (fun vs H Q E h => ?_) (fun cdv A outer s H vs Q E hr h => ?_)
  · obtain ⟨t, rfl, _⟩ := h
    rfl
  · obtain ⟨v, rfl, t, q⟩ := h
    obtain ⟨u, ty, k1, k2, _⟩ := t.kinds (K := K)
    refine ⟨_, (pss_one (ps_ret (pe_and (pe_callB (isiK (K := K) rfl) (by rfl) B.isinstance boot_isinst' (pa_cons (pv 0) (pa_cons (pe_bltn (v := .ty "int") (by rfl) B.int boot_int' (by rfl)) pa_nil))) (pe_one (pe_not (pe_callB (isiK (K := K) rfl) (by rfl) B.isinstance boot_isinst' (pa_cons (pv 0) (pa_cons (pe_bltn (v := .ty "bool") (by rfl) B.bool boot_bool' (by rfl)) pa_nil)))))))), ?_⟩
    refine ⟨_, rfl, _, "int", _, _, rfl, ty, k1, _, rfl, ?_⟩
    cases v with
    | int i => exact ⟨_, rfl, _, "bool", _, _, rfl, ty, k2, _, rfl, q⟩
    | bl b => exact ⟨_, rfl, _, "bool", _, _, rfl, ty, k2, _, rfl, q⟩
    | _ => exact q
end
/-! ### the program: last and next places -/
abbrev stlast_places : Stmt := top 11
section
variable {P : Program} {w : World} {K : PySem.W.Frag} {mg : Str → Option Value} {base : Heap}
open My
theorem sclast_places : FnScope ["row", "latest", "lasts", "place", "number"] ["row"] (defScope stlast_places) := ⟨rfl, rfl, rfl, by decide +kernel, rfl, by decide +kernel, by decide +kernel⟩
theorem ok_last_places {f : Addr} {fd : FuncData} (B : Blt mg) (F : Fun K "last_places" "last_places" stlast_places f fd) : FnOk P w K mg base CX0 1 f fd ["row"] (spList K lastsM) := by
  refine F.ok sclast_places (fun vs H Q E h => ?_) (fun cdv A outer s H vs Q E hr h => ?_)
  · obtain ⟨a, ns, rfl, _⟩ := h
    rfl
  · obtain ⟨a, ns, rfl, hq, hl, q⟩ := h
    have hu := hr.units0
    have hu1 := hu_of hr
    refine ⟨_, (pss_cons (ps_set (i := 1) sclast_places.nd rfl (Or.inl rfl) pe_dnewK)
  (pss_cons (ps_set (i := 2) sclast_places.nd rfl (Or.inl rfl) (pe_lst pa_nil))
  (pss_cons (ps_for PassesOwn.never rfl (pieK (K := K) rfl (by rfl) B.enumerate (pa_cons (pv 0) pa_nil)) (pgtK (K := K) (n := 2) rfl rfl (pgs_cons (pg_name (i := 3) sclast_places.nd rfl (Or.inl rfl)) (pgs_cons (pg_name (i := 4) sclast_places.nd rfl (Or.inl rfl)) pgs_nil)))
  (pss_cons (ps_expr (pe_bm PySem.F.plainAttrs_list PySem.F.slot_list_append PySem.F.type_list_append mt_append (pv 2) (pa_cons (pe_dget2 hu1 (pv 1) (pv 4) (pe_un un_neg pe_int) ⟨rfl, rfl, rfl, rfl⟩) pa_nil)))
  (pss_one (ps_dput hu1 (pv 1) (pv 4) (pv 3) rfl))))
  (pss_one (ps_ret (pv 2)))))), ?_⟩
    intro d hd
    refine ⟨by show 0 ≤ sizeLine; decide, fun l hl0 => ?_⟩
    have s0 : Same H (upd (upd H d (.dK [])) l (.lst [])) := (Same.new hd).trans (Same.new hl0)
    have ndl : d ≠ l := ne_of_none upd_same hl0
    have hlH : H l = none := (Same.new hd).free hl0
    refine ⟨_, rfl, a, rfl, ⟨_, s0.seq hq⟩, for_enum (K := K) (a := a) (xs := ns.map V.int) (fun i σ Hc => ∃ v3 v4 kvs, σ = [some (.ref a), some (.ref d), some (.ref l), v3, v4] ∧ Same H Hc ∧ Hc d = some (.dK kvs) ∧ Hc l = some (.lst (((lastsM ns).take i).map V.int)) ∧ kvs.length ≤ i ∧
      ∀ x : Int, valV kvs (Sum.inl x : Key) = if lastIx ns x i = -1 then none else some (.int (lastIx ns x i))) ⟨none, none, [], rfl, s0, by rw [upd_ne ndl]; exact upd_same, upd_same, Nat.le_refl _, fun x => rfl⟩ (fun i σ Hc _ ⟨_, _, _, _, s, _⟩ => s.seq hq) ?_ ?_⟩
    · rintro i x p σ Hc hx ⟨v3, v4, kvs, rfl, s, ed, el, hk, hv⟩ hp
      obtain ⟨hi, rfl⟩ := int_at hx
      have npd : d ≠ p := ne_of_none ed hp
      have npl : l ≠ p := ne_of_none el hp
      have ed' : upd Hc p (.tup [.int i, .int (ns.getD i 0)]) d = some (.dK kvs) := by rw [upd_ne npd]; exact ed
      have el' : upd Hc p (.tup [.int i, .int (ns.getD i 0)]) l = some (.lst (((lastsM ns).take i).map V.int)) := by rw [upd_ne npl]; exact el
      have hlen : (((lastsM ns).take i).map V.int).length ≤ 1000 := by rw [List.length_map, List.length_take, len_lasts]; omega
      refine ⟨p, _, rfl, SqT.of upd_same, rfl, _, _, rfl, _, _, rfl, rfl, ?_⟩
      refine ⟨_, rfl, .inl ⟨rfl, _, SqL.of el'⟩, _, rfl, d, rfl, .inl ⟨_, .inl ed'⟩, _, rfl, _, rfl, _, DGet.k (k := Sum.inl (ns.getD i 0)) ed', l, _, _, rfl, rfl, el', small1000 hlen, ?_⟩
      refine ⟨_, rfl, _, rfl, _, rfl, d, _, rfl, DPut.k (k := Sum.inl (ns.getD i 0)) (kvs := kvs) (by rw [upd_ne ndl]; exact ed') (small1000 (by omega)), ?_⟩
      have ev : (valV kvs (Sum.inl (ns.getD i 0) : Key)).getD (.int (-1)) = .int (lastIx ns (ns.getD i 0) i) := by
        rw [hv]
        split
        · rename_i e; rw [e]; rfl
        · rfl
      refine ⟨_, _, _, rfl, ?_, upd_same, ?_, Nat.le_trans (length_putK _ _ _) (Nat.succ_le_succ hk), fun x => ?_⟩
      · intro c o z
        have zc := s c o z
        rw [upd_ne (ne_of_none z hd), upd_ne (ne_of_none z hlH), upd_ne (ne_of_none zc hp)]; exact zc
      · rw [upd_ne ndl.symm, upd_same]
        have : (lastsM ns).take (i + 1) = (lastsM ns).take i ++ [lastIx ns (ns.getD i 0) i] := take_snoc (get_lasts hi)
        rw [this, List.map_append]
        exact congrArg (fun y => some (HO.lst (_ ++ [y]))) ev
      · rw [valV_put]
        show _ = if (if ns.getD i 0 = x then (i : Int) else lastIx ns x i) = -1 then none else some (V.int (if ns.getD i 0 = x then (i : Int) else lastIx ns x i))
        by_cases hxe : ns.getD i 0 = x
        · subst hxe
          rw [if_pos rfl, if_pos rfl, if_neg (by omega)]
        · rw [if_neg (fun z => hxe (by injection z with z; exact z.symm)), if_neg hxe, hv]
    · rintro σ Hc ⟨v3, v4, kvs, rfl, s, ed, el, hk, hv⟩
      refine ⟨_, rfl, q l Hc hlH s ?_⟩
      rw [el, len_int, List.take_of_length_le (by rw [len_lasts]; exact Nat.le_refl _)]
end
/-! ### what are last places: the program's word, the law's -/
abbrev stare_lasts : Stmt := top 12
section
variable {P : Program} {w : World} {K : PySem.W.Frag} {mg : Str → Option Value} {base : Heap}
open My
theorem scare_lasts : FnScope ["thing", "taken", "place", "last"] ["thing"] (defScope stare_lasts) := ⟨rfl, rfl, rfl, by decide +kernel, rfl, by decide +kernel, by decide +kernel⟩
theorem ok_are_lasts {f : Addr} {fd : FuncData} (B : Blt mg) (F : Fun K "are_lasts" "are_lasts" stare_lasts f fd) (his_whole : Has P w K mg base "is_whole" 1 ["thing"] spWholeV) : FnOk P w K mg base CX0 2 f fd ["thing"] spAreV := by
  refine F.ok scare_lasts (fun vs H Q E h => ?_) (fun cdv A outer s H vs Q E hr h => ?_)
  · obtain ⟨v, rfl, _⟩ := h
    rfl
  · obtain ⟨v, rfl, ⟨t, tl⟩, q⟩ := h
    have hu1 := hu_of hr
    obtain ⟨u, ty, _, _, k3⟩ := t.kinds (K := K)
    refine ⟨_, (pss_cons (ps_if (pt_not (pt_val (pe_callB (isiK (K := K) rfl) (by rfl) B.isinstance boot_isinst' (pa_cons (pv 0) (pa_cons (pe_bltn (v := .ty "list") (by rfl) B.list boot_list' (by rfl)) pa_nil)))))
  (pss_one (ps_ret pe_bl))
  pss_nil)
  (pss_cons (ps_set (i := 1) scare_lasts.nd rfl (Or.inl rfl) pe_dnewK)
  (pss_cons (ps_for PassesOwn.never rfl (pieK (K := K) rfl (by rfl) B.enumerate (pa_cons (pv 0) pa_nil)) (pgtK (K := K) (n := 2) rfl rfl (pgs_cons (pg_name (i := 2) scare_lasts.nd rfl (Or.inl rfl)) (pgs_cons (pg_name (i := 3) scare_lasts.nd rfl (Or.inl rfl)) pgs_nil)))
  (pss_cons (ps_if (PW.pt (pw_or (pt_not (pt_val (pe_callH his_whole (hr.mono (by decide)) (by rfl) (pa_cons (pv 3) pa_nil)))) (pw_or (pt_not (pt_chain op_le op_lt (pe_un un_neg pe_int) (pv 3) (pv 2))) (pw_or1 (pt_cmp (pc_din hu1 (pv 3) (pv 1)))))))
  (pss_one (ps_ret pe_bl))
  pss_nil)
  (pss_one (ps_if (pt_cmpR op_ne (pv 3) (pe_un un_neg pe_int) (nomark _))
  (pss_one (ps_dput hu1 (pv 1) (pv 3) pe_bl rfl))
  pss_nil))))
  (pss_one (ps_ret pe_bl))))), ?_⟩
    refine ⟨_, rfl, _, "list", _, _, rfl, ty, k3, _, rfl, ?_⟩
    refine ite2 (fun z => ?_) (fun z => ?_)
    · have hz : listV H v = false := by simpa using z
      have q' := q H (Same.refl _)
      rw [areOf_no t hz] at q'
      exact q'
    obtain ⟨a, xs, rfl, ea⟩ := listV_yes (H := H) (v := v) (by simpa using z)
    obtain ⟨hlen, hth⟩ := tl a xs rfl ea
    rw [areOf_lst ea] at q
    intro d hd
    have s0 : Same H (upd H d (.dK [])) := Same.new hd
    have nad : a ≠ d := ne_of_none ea hd
    refine ⟨_, rfl, a, rfl, ⟨_, SqL.of (s0 _ _ ea)⟩, for_enum (K := K) (a := a) (xs := xs) (fun i σ Hc => ∃ (v2 v3 : Option V) (kvs : List (Key × V)), σ = [some (.ref a), some (.ref d), v2, v3] ∧ Same H Hc ∧ Hc d = some (.dK kvs) ∧ kvs.length ≤ i ∧
      (∀ j, j < i → okAt xs j = true) ∧ ∀ x : Int, (valV kvs (Sum.inl x : Key)).isSome = true ↔ (x ≠ -1 ∧ V.int x ∈ xs.take i)) ⟨none, none, [], rfl, s0, upd_same, Nat.le_refl _, fun j hj => by omega, fun x => by constructor; (intro h; cases h); (rintro ⟨_, h⟩; simp at h)⟩ (fun i σ Hc _ ⟨_, _, _, _, s, _⟩ => SqL.of (s _ _ ea)) ?_ ?_⟩
    · rintro i x p σ Hc hx ⟨v2, v3, kvs, rfl, s, ed, hk, hok, hv⟩ hp
      have hi : i < xs.length := (List.getElem?_eq_some_iff.mp hx).1
      have ed' : upd Hc p (.tup [.int i, x]) d = some (.dK kvs) := Same.new hp _ _ ed
      have sp : Same H (upd Hc p (.tup [.int i, x])) := s.trans (Same.new hp)
      have thx : ThK (upd Hc p (.tup [.int i, x])) x := (hth x (List.mem_of_getElem? hx)).same sp
      have no : okAt xs i = false → Q (.bl false) (upd Hc p (.tup [.int i, x])) := fun z => by
        have q' := q _ sp
        rw [areB_false hi z] at q'
        exact q'
      refine ⟨p, _, rfl, SqT.of upd_same, rfl, _, _, rfl, _, _, rfl, rfl, ?_⟩
      refine ⟨_, rfl, _, rfl, thx, _, rfl, ?_⟩
      refine ite2 (fun z => ?_) (fun z => ?_)
      · exact iteT (no (okAt_other hx (by simpa using z)))
      obtain ⟨n, rfl⟩ := whole_int (v := x) (by simpa using z)
      have hio := okAt_int hx
      by_cases g1 : -1 ≤ n
      case neg =>
        refine ⟨_, rfl, _, rfl, _, _, rfl, rfl, _, rfl, (if_neg (by rw [decide_eq_false g1]; exact Bool.false_ne_true)).mpr ?_⟩
        rw [decide_eq_false g1] at hio
        exact ⟨_, rfl, iteT (iteT (no hio))⟩
      rw [decide_eq_true g1, Bool.true_and] at hio
      refine ⟨_, rfl, _, rfl, _, _, rfl, rfl, _, rfl, (if_pos (decide_eq_true g1)).mpr ⟨_, rfl, _, _, rfl, rfl, _, rfl, ?_⟩⟩
      by_cases g2 : n < (i : Int)
      case neg =>
        rw [decide_eq_false g2] at hio
        exact ite2 (fun _ => iteT (no hio)) (fun z => absurd (show (!decide (n < (i : Int))) = true by rw [decide_eq_false g2]; rfl) z)
      rw [decide_eq_true g2, Bool.true_and] at hio
      refine iteNB (decide_eq_true g2) ?_
      refine ⟨_, rfl, _, rfl, d, _, rfl, DGet.k (k := Sum.inl n) ed', _, rfl, ?_⟩
      refine ite2 (fun hin => ?_) (fun hnin => ?_)
      · obtain ⟨hm, hmem⟩ := (hv n).mp hin
        rw [decide_eq_false hm, Bool.false_or, List.contains_iff_mem.mpr hmem] at hio
        exact no hio
      have hnm : n ≠ -1 → V.int n ∉ xs.take i := fun z y => hnin ((hv n).mpr ⟨z, y⟩)
      have hoki : okAt xs i = true := by
        rw [hio]
        by_cases hz : n = -1
        · rw [decide_eq_true hz]; rfl
        · rw [decide_eq_false hz, Bool.false_or]
          cases hc : (xs.take i).contains (V.int n) with
          | false => rfl
          | true => exact absurd (List.contains_iff_mem.mp hc) (hnm hz)
      have hok' : ∀ j, j < i + 1 → okAt xs j = true := fun j hj => by
        by_cases hji : j = i
        · rw [hji]; exact hoki
        · exact hok j (by omega)
      have htk := take_snoc hx
      refine ⟨_, rfl, _, rfl, rfl, _, rfl, ?_⟩
      refine ite2 (fun hnz => ?_) (fun hz => ?_)
      · have hnz' : n ≠ -1 := by simpa using hnz
        refine ⟨_, rfl, _, rfl, d, _, rfl, DPut.k (k := Sum.inl n) ed' (small1000 (by omega)), ?_⟩
        refine ⟨_, _, _, rfl, ?_, upd_same, Nat.le_trans (length_putK _ _ _) (Nat.succ_le_succ hk), ?_, fun y => ?_⟩
        · intro c o e
          rw [upd_ne (ne_of_none e hd)]; exact sp c o e
        · exact hok'
        · rw [valV_put, htk, List.mem_append, List.mem_singleton]
          by_cases hyn : y = n
          · rw [hyn, if_pos rfl]
            exact ⟨fun _ => ⟨hnz', .inr rfl⟩, fun _ => rfl⟩
          · rw [if_neg (fun z => hyn (by injection z)), hv y]
            exact ⟨fun ⟨z1, z2⟩ => ⟨z1, .inl z2⟩, fun ⟨z1, z2⟩ => ⟨z1, z2.resolve_right fun z => hyn (by injection z)⟩⟩
      · have hz' : n = -1 := by simpa using hz
        refine ⟨_, _, kvs, rfl, sp, ed', Nat.le_succ_of_le hk, ?_, fun y => ?_⟩
        · exact hok'
        · rw [hv y, htk, List.mem_append, List.mem_singleton]
          exact ⟨fun ⟨z1, z2⟩ => ⟨z1, .inl z2⟩, fun ⟨z1, z2⟩ => ⟨z1, z2.resolve_right fun z => z1 (by injection z with z; rw [z, hz'])⟩⟩
    · rintro σ Hc ⟨v2, v3, kvs, rfl, s, ed, hk, hok, hv⟩
      have q' := q Hc s
      rw [areB_true hok] at q'
      exact q'
end
/-! ### the program: lists of last places, plain rows -/
abbrev strow_of : Stmt := top 13
section
variable {P : Program} {w : World} {K : PySem.W.Frag} {mg : Str → Option Value} {base : Heap}
open My
theorem scrow_of : FnScope ["lasts", "row", "unlike", "last"] ["lasts"] (defScope strow_of) := ⟨rfl, rfl, rfl, by decide +kernel, rfl, by decide +kernel, by decide +kernel⟩
theorem ok_row_of {f : Addr} {fd : FuncData} (F : Fun K "row_of" "row_of" strow_of f fd) (hare_lasts : Has P w K mg base "are_lasts" 2 ["thing"] spAre) : FnOk P w K mg base CX0 3 f fd ["lasts"] spRowOf := by
  refine F.ok scrow_of (fun vs H Q E h => ?_) (fun cdv A outer s H vs Q E hr h => ?_)
  · obtain ⟨a, ls, rfl, _⟩ := h
    rfl
  · obtain ⟨a, ls, rfl, ea, hls, hl, q⟩ := h
    refine ⟨_, (pss_cons (ps_if (pt_not (pt_val (pe_callH hare_lasts (hr.mono (by decide)) (by rfl) (pa_cons (pv 0) pa_nil))))
  (pss_one ps_never)
  pss_nil)
  (pss_cons (ps_set (i := 1) scrow_of.nd rfl (Or.inl rfl) (pe_lst pa_nil))
  (pss_cons (ps_set (i := 2) scrow_of.nd rfl (Or.inl rfl) pe_int)
  (pss_cons (ps_for PassesOwn.never rfl (piK (K := K) rfl (pv 0)) (pg_name (i := 3) scrow_of.nd rfl (Or.inl rfl))
  (pss_one (ps_if (pt_cmpR op_eq (pv 3) (pe_un un_neg pe_int) (nomark _))
  (pss_cons (ps_expr (pe_bm PySem.F.plainAttrs_list PySem.F.slot_list_append PySem.F.type_list_append mt_append (pv 1) (pa_cons (pv 2) pa_nil)))
  (pss_one (ps_aug (i := 2) scrow_of.nd rfl (Or.inl rfl) pe_int ip_add)))
  (pss_one (ps_expr (pe_bm PySem.F.plainAttrs_list PySem.F.slot_list_append PySem.F.type_list_append mt_append (pv 1) (pa_cons (pe_ix (ixK (K := K) rfl) (pv 1) (pv 3) (fun _ _ => rfl)) pa_nil)))))))
  (pss_one (ps_ret (pv 1))))))), ?_⟩
    refine ⟨_, rfl, a, ls, rfl, ea, hls, hl, fun H0 s0 => ⟨_, rfl, ?_⟩⟩
    refine ⟨by show 0 ≤ sizeLine; decide, fun R hR => ?_⟩
    have hRH : H R = none := s0.free hR
    have s1 := s0.trans (Same.new (o := .lst []) hR)
    refine ⟨_, rfl, a, rfl, ⟨_, SqL.of (s1 _ _ ea)⟩, for_list (K := K) (a := a) (xs := ls.map V.int) (fun i σ Hc => ∃ (v3 : Option V), σ = [some (.ref a), some (.ref R), some (.int (preR ls i).2), v3] ∧ Same H Hc ∧ Hc R = some (.lst ((preR ls i).1.map V.int)))
      ⟨none, rfl, s1, upd_same⟩ (fun i σ Hc _ ⟨_, _, s, _⟩ => SqL.of (s _ _ ea)) ?_ ?_⟩
    · rintro i x σ Hc hx ⟨v3, rfl, s, eR⟩
      obtain ⟨hi, rfl⟩ := int_at hx
      obtain ⟨g1, g2, g3⟩ := hls i hi
      have hlen := preR_len ls i (by omega)
      have sput : ∀ o, Same H (upd Hc R o) := fun o c u e => by rw [upd_ne (ne_of_none e hRH)]; exact s c u e
      refine ⟨_, rfl, _, rfl, rfl, _, rfl, ?_⟩
      refine ite2 (fun he => ?_) (fun he => ?_)
      · have he' : ls.getD i 0 = -1 := by simpa using he
        refine ⟨_, rfl, .inl ⟨rfl, _, SqL.of eR⟩, _, rfl, R, _, _, rfl, rfl, eR, small1000 (by rw [List.length_map]; omega), ?_⟩
        refine ⟨_, rfl, _, _, rfl, rfl, ?_⟩
        refine ⟨some (.int (ls.getD i 0)), ?_, sput _, ?_⟩
        · rw [preR_succ hi]; unfold stepR; rw [if_pos he']; rfl
        · rw [upd_same, preR_succ hi]; unfold stepR; rw [if_pos he', List.map_append]; rfl
      · have he' : ls.getD i 0 ≠ -1 := by simpa using he
        refine ⟨_, rfl, .inl ⟨rfl, _, SqL.of eR⟩, _, rfl, _, rfl, R, _, _, _, rfl, rfl, SqL.of eR, atI_int (by omega) (by omega), R, _, _, rfl, rfl, eR, small1000 (by rw [List.length_map]; omega), ?_⟩
        refine ⟨some (.int (ls.getD i 0)), ?_, sput _, ?_⟩
        · rw [preR_succ hi]; unfold stepR; rw [if_neg he']; rfl
        · rw [upd_same, preR_succ hi]; unfold stepR; rw [if_neg he', List.map_append]; rfl
    · rintro σ Hc ⟨v3, rfl, s, eR⟩
      refine ⟨_, rfl, q R Hc hRH s ?_⟩
      rw [eR, len_int]; rfl
end
section
variable {P : Program} {w : World} {K : PySem.W.Frag} {mg : Str → Option Value} {base : Heap} {cNoTable r : Addr} {ds : List Addr}
open My
theorem ok_row_ofE {f : Addr} {fd : FuncData} (xNoTable : XOwn K mg "NoTable" cNoTable r ds) (F : Fun K "row_of" "row_of" strow_of f fd) (hare_lasts : Has P w K mg base "are_lasts" 2 ["thing"] spAreV) : FnOk P w K mg base (CXe P w) 3 f fd ["lasts"] (spRowOfN cNoTable) := by
  refine F.okE scrow_of (fun vs H Q E h => ?_) (fun cdv A outer s H vs Q E hr h => ?_)
  · obtain ⟨v, rfl, _⟩ := h
    rfl
  · obtain ⟨v, rfl, t, hn, e⟩ := h
    refine ⟨_, (pss_cons (ps_if (pt_not (pt_val (pe_callH hare_lasts (hr.mono (by decide)) (by rfl) (pa_cons (pv 0) pa_nil))))
  (pss_one (ps_raise xNoTable.cl (by rfl) (pa_cons pe_str pa_nil)))
  pss_nil)
  (pss_cons (PS.nox (ps_set (i := 1) scrow_of.nd rfl (Or.inl rfl) (pe_lst pa_nil)))
  (pss_cons (PS.nox (ps_set (i := 2) scrow_of.nd rfl (Or.inl rfl) pe_int))
  (pss_cons (PS.nox (ps_for PassesOwn.never rfl (piK (K := K) rfl (pv 0)) (pg_name (i := 3) scrow_of.nd rfl (Or.inl rfl))
  (pss_one (ps_if (pt_cmpR op_eq (pv 3) (pe_un un_neg pe_int) (nomark _))
  (pss_cons (ps_expr (pe_bm PySem.F.plainAttrs_list PySem.F.slot_list_append PySem.F.type_list_append mt_append (pv 1) (pa_cons (pv 2) pa_nil)))
  (pss_one (ps_aug (i := 2) scrow_of.nd rfl (Or.inl rfl) pe_int ip_add)))
  (pss_one (ps_expr (pe_bm PySem.F.plainAttrs_list PySem.F.slot_list_append PySem.F.type_list_append mt_append (pv 1) (pa_cons (pe_ix (ixK (K := K) rfl) (pv 1) (pv 3) (fun _ _ => rfl)) pa_nil))))))))
  (pss_one (PS.nox (ps_ret (pv 1)))))))), ?_⟩
    refine ⟨_, rfl, v, rfl, t, fun H1 s1 => ?_⟩
    rw [hn]
    exact ⟨_, rfl, iteT ⟨by show 1 ≤ sizeLine; decide, e H1 s1⟩⟩
end
abbrev stline_of : Stmt := top 15
abbrev sttable_of : Stmt := top 16
section
variable {P : Program} {w : World} {K : PySem.W.Frag} {mg : Str → Option Value} {base : Heap}
open My
theorem scline_of : FnScope ["lasts", "first", "unlike", "line", "last"] ["lasts", "first"] (defScope stline_of) := ⟨rfl, rfl, rfl, by decide +kernel, rfl, by decide +kernel, by decide +kernel⟩
theorem ok_line_of {f : Addr} {fd : FuncData} (F : Fun K "line_of" "line_of" stline_of f fd) : FnOk P w K mg base CX0 1 f fd ["lasts", "first"] (spLineOf K) := by
  refine F.ok scline_of (fun vs H Q E h => ?_) (fun cdv A outer s H vs Q E hr h => ?_)
  · obtain ⟨a, ns, f, rfl, _⟩ := h
    rfl
  · obtain ⟨a, ns, f, rfl, hq, hf, hn, q⟩ := h
    refine ⟨_, (pss_cons (ps_set (i := 2) scline_of.nd rfl (Or.inl rfl) pe_int)
  (pss_cons (ps_set (i := 3) scline_of.nd rfl (Or.inl rfl) (pe_lst (pa_cons (pv 2) pa_nil)))
  (pss_cons (ps_for PassesOwn.never rfl (piK (K := K) rfl (pe_slice (slK (K := K) rfl) (pv 0) (po_some (pv 1)) po_none)) (pg_name (i := 4) scline_of.nd rfl (Or.inl rfl))
  (pss_cons (ps_if (pt_cmpR op_lt (pv 4) (pv 1) (nomark _))
  (pss_one (ps_aug (i := 2) scline_of.nd rfl (Or.inl rfl) pe_int ip_add))
  pss_nil)
  (pss_one (ps_expr (pe_bm PySem.F.plainAttrs_list PySem.F.slot_list_append PySem.F.type_list_append mt_append (pv 3) (pa_cons (pv 2) pa_nil))))))
  (pss_one (ps_ret (pv 3)))))), ?_⟩
    refine ⟨_, rfl, by show 1 ≤ sizeLine; decide, fun l nl => ?_⟩
    refine ⟨_, rfl, _, rfl, _, rfl, a, _, rfl, (Same.new nl).seq hq, fun R nR => ⟨R, rfl, ⟨_, SqL.of upd_same⟩, ?_⟩⟩
    have ec : cutV ((lastsM ns).map V.int) (some (f : Int)) none = ((lastsM ns).drop f).map V.int := by rw [cutV_drop, List.map_drop]
    rw [ec]
    have nRl : R ≠ l := (ne_of_none upd_same nR).symm
    have hRH : H R = none := (Same.new nl).free nR
    refine for_list (K := K) (a := R) (xs := ((lastsM ns).drop f).map V.int) (fun i σ Hc => ∃ (v4 : Option V), σ = [some (.ref a), some (.int f), some (.int (cnt ns f (f + i) : Int)), some (.ref l), v4] ∧ Same H Hc ∧ Hc R = some (.lst (((lastsM ns).drop f).map V.int)) ∧ Hc l = some (.lst (((List.range (i + 1)).map fun k => (cnt ns f (f + k) : Int)).map V.int)))
      ⟨none, by rw [Nat.add_zero, cnt_self]; rfl, (Same.new nl).trans (Same.new nR), upd_same, by rw [upd_ne nRl.symm, upd_same]; show _ = some (HO.lst [V.int (cnt ns f (f + 0) : Int)]); rw [Nat.add_zero, cnt_self]; rfl⟩ (fun i σ Hc _ ⟨_, _, _, e, _⟩ => SqL.of e) ?_ ?_
    · rintro i x σ Hc hx ⟨v4, rfl, sc, eR, el⟩
      obtain ⟨hi, rfl⟩ := int_at hx
      rw [List.length_drop, len_lasts] at hi
      have hfi : f + i < ns.length := by omega
      have ev : ((lastsM ns).drop f).getD i 0 = lastIx ns (ns.getD (f + i) 0) (f + i) := by rw [drop_at, List.getD_eq_getElem?_getD, get_lasts hfi]; rfl
      have hc := cnt_snoc (ns := ns) (f := f) (b := f + i) (Nat.le_add_right _ _)
      rw [ev]
      have fin : ∀ (c : Int), c = (cnt ns f (f + (i + 1)) : Int) → (∃ (v4 : Option V), [some (V.ref a), some (.int f), some (.int c), some (.ref l), some (.int (lastIx ns (ns.getD (f + i) 0) (f + i)))] = [some (.ref a), some (.int f), some (.int (cnt ns f (f + (i + 1)) : Int)), some (.ref l), v4] ∧ Same H (upd Hc l (.lst (((List.range (i + 1)).map fun k => (cnt ns f (f + k) : Int)).map V.int ++ [.int c]))) ∧ (upd Hc l (.lst (((List.range (i + 1)).map fun k => (cnt ns f (f + k) : Int)).map V.int ++ [.int c]))) R = some (.lst (((lastsM ns).drop f).map V.int)) ∧ (upd Hc l (.lst (((List.range (i + 1)).map fun k => (cnt ns f (f + k) : Int)).map V.int ++ [.int c]))) l = some (.lst (((List.range (i + 1 + 1)).map fun k => (cnt ns f (f + k) : Int)).map V.int))) := fun c e => by
        subst e
        refine ⟨_, rfl, fun b o y => ?_, by rw [upd_ne nRl]; exact eR, ?_⟩
        · rw [upd_ne (ne_of_none y nl)]; exact sc b o y
        · rw [upd_same, List.range_succ (n := i + 1), List.map_append, List.map_append]; rfl
      refine ⟨_, rfl, _, rfl, _, _, rfl, rfl, _, rfl, ite2 (fun z => ?_) (fun z => ?_)⟩
      · rw [if_pos (of_decide_eq_true z)] at hc
        refine ⟨_, rfl, _, _, rfl, rfl, ?_⟩
        exact ⟨_, rfl, .inl ⟨rfl, _, SqL.of el⟩, _, rfl, l, _, _, rfl, rfl, el, small1000 (by rw [List.length_map, List.length_map, List.length_range]; omega), fin _ (by show (cnt ns f (f + i) : Int) + 1 = _; rw [show f + (i + 1) = f + i + 1 by omega]; omega)⟩
      · rw [if_neg (fun h => z (decide_eq_true h))] at hc
        exact ⟨_, rfl, .inl ⟨rfl, _, SqL.of el⟩, _, rfl, l, _, _, rfl, rfl, el, small1000 (by rw [List.length_map, List.length_map, List.length_range]; omega), fin _ (by rw [show f + (i + 1) = f + i + 1 by omega]; omega)⟩
    · rintro σ Hc ⟨v4, rfl, sc, eR, el⟩
      refine ⟨_, rfl, q l Hc nl sc ?_⟩
      rw [el, len_int, List.length_drop, len_lasts]
      rfl
theorem sctable_of : FnScope ["row", "lasts"] ["row"] (defScope sttable_of) := ⟨rfl, rfl, rfl, by decide +kernel, rfl, by decide +kernel, by decide +kernel⟩
theorem ok_table_of {f : Addr} {fd : FuncData} (B : Blt mg) (F : Fun K "table_of" "table_of" sttable_of f fd) (hlast_places : Has P w K mg base "last_places" 1 ["row"] (spList K lastsM)) (hline_of : Has P w K mg base "line_of" 1 ["lasts", "first"] (spLineOf K)) : FnOk P w K mg base CX0 2 f fd ["row"] (spLines K) := by
  refine F.ok sctable_of (fun vs H Q E h => ?_) (fun cdv A outer s H vs Q E hr h => ?_)
  · obtain ⟨a, ns, rfl, _⟩ := h
    rfl
  · obtain ⟨a, ns, rfl, hq, hn, q⟩ := h
    refine ⟨_, (pss_cons (ps_set (i := 1) sctable_of.nd rfl (Or.inr rfl) (pe_callH hlast_places (hr.mono (by decide)) (by rfl) (pa_cons (pv 0) pa_nil)))
  (pss_one (ps_ret (pe_lc (own := ["first"]) (ix := [1]) (N := ["first", "lasts"]) rfl (LcOk.of (by rfl)) (pi_range1 (by rfl) B.range (pa_cons (pe_op op_add (pe_callB (lenK (K := K) rfl) (by rfl) B.len PySem.boot_len (pa_cons (pv 0) pa_nil)) pe_int) pa_nil)) (fun _ _ _ _ _ => (pg_name (i := 0) (show (["first", "lasts"] : List Str).Nodup by decide +kernel) rfl (by first | exact Or.inl rfl | exact Or.inr rfl))) (fun _ _ _ _ _ => pts_nil) (fun _ _ _ _ _ => (pe_callH hline_of (hr.mono (by decide)) (by rfl) (pa_cons (pv 1) (pa_cons (pv 0) pa_nil)))))))), ?_⟩
    refine ⟨_, rfl, a, ns, rfl, hq, by omega, fun la H1 n1 s1 e1 => ?_⟩
    refine ⟨_, rfl, a, _, rfl, .inl (s1.seq hq), _, _, rfl, rfl, _, rfl, by rw [len_int]; omega, by rw [len_int]; omega, fun D hD => ?_⟩
    have hDH : H D = none := s1.free hD
    refine lc_range (fun i σ Hc => ∃ (v0 : Option V) (as : List Addr), σ = [v0, some (.ref la)] ∧ Same H1 Hc ∧ Hc D = some (.lst (as.map V.ref)) ∧ as.length = i ∧ ∀ (f : Nat) (l : Addr), as[f]? = some l → (l ≠ D ∧ H l = none) ∧ Hc l = some (.lst ((lineM ns f).map V.int)))
      ⟨none, [], rfl, Same.new hD, upd_same, rfl, fun f l h => by simp at h⟩ ?_ ?_
    · rintro i σ Hc hi ⟨v0, as, rfl, sc, eD, hl, hat⟩
      rw [len_int] at hi
      refine ⟨_, rfl, _, rfl, la, ns, i, by rw [Int.zero_add]; rfl, SqL.of (sc _ _ e1), by omega, by omega, fun l H2 nl s2 el => ?_⟩
      have eD2 := s2 _ _ eD
      have nlD : l ≠ D := (ne_of_none eD nl).symm
      refine ⟨_, eD2, small1000 (by rw [List.length_map]; omega), _, as ++ [l], rfl, fun b o z => ?_, by rw [upd_same, List.map_append]; rfl, by rw [List.length_append, hl]; rfl, fun j t hj => ?_⟩
      · rw [upd_ne (ne_of_none z hD)]; exact s2 _ _ (sc b o z)
      · by_cases hjl : j < as.length
        · rw [List.getElem?_append_left hjl] at hj
          obtain ⟨n1, e1⟩ := hat j t hj
          exact ⟨n1, by rw [upd_ne n1.1]; exact s2 _ _ e1⟩
        · have hj' : j = as.length := by
            have := (List.getElem?_eq_some_iff.mp hj).1
            rw [List.length_append, List.length_singleton] at this; omega
          subst hj'
          rw [List.getElem?_append_right (Nat.le_refl _), Nat.sub_self] at hj
          have e' : l = t := by simpa using hj
          subst e'
          exact ⟨⟨nlD, s1.free (sc.free nl)⟩, by rw [upd_ne nlD, el, hl]⟩
    · rintro σ Hc ⟨v0, as, rfl, sc, eD, hl, hat⟩
      rw [len_int] at hl
      exact q D as Hc hDH (s1.trans sc) eD (by omega) fun f l h => ⟨(hat f l h).1.2, (hat f l h).2⟩
end
abbrev stis_line : Stmt := top 17
abbrev sthas_form : Stmt := top 18
abbrev stlast_in_table : Stmt := top 19
abbrev strow_of_table : Stmt := top 20
section
variable {P : Program} {w : World} {K : PySem.W.Frag} {mg : Str → Option Value} {base : Heap}
open My
theorem scis_line : FnScope ["thing", "length"] ["thing", "length"] (defScope stis_line) := ⟨rfl, rfl, rfl, by decide +kernel, rfl, by decide +kernel, by decide +kernel⟩
theorem ok_is_line {f : Addr} {fd : FuncData} (B : Blt mg) (F : Fun K "is_line" "is_line" stis_line f fd) (his_whole : Has P w K mg base "is_whole" 1 ["thing"] spWhole) : FnOk P w K mg base CX0 2 f fd ["thing", "length"] spLineIs := by
  refine F.ok scis_line (fun vs H Q E h => ?_) (fun cdv A outer s H vs Q E hr h => ?_)
  · obtain ⟨l, ns, m, rfl, _⟩ := h
    rfl
  · obtain ⟨l, ns, m, rfl, el, hn, q⟩ := h
    refine ⟨_, (pss_one (ps_ret (pe_and (pe_callB (isiK (K := K) rfl) (by rfl) B.isinstance boot_isinst' (pa_cons (pv 0) (pa_cons (pe_bltn (v := .ty "list") (by rfl) B.list boot_list' (by rfl)) pa_nil))) (pe_and (pe_cmpR op_eq (pe_callB (lenK (K := K) rfl) (by rfl) B.len PySem.boot_len (pa_cons (pv 0) pa_nil)) (pv 1) (nomark _)) (pe_one (pe_callB (allK (K := K) rfl rfl) (by rfl) B.all boot_all' (pa_cons (pe_lc (own := ["number"]) (ix := []) (N := ["number"]) rfl (LcOk.of (by rfl)) (piK (K := K) rfl (pv 0)) (fun _ _ _ _ _ => (pg_name (i := 0) (show (["number"] : List Str).Nodup by decide +kernel) rfl (by first | exact Or.inl rfl | exact Or.inr rfl))) (fun _ _ _ _ _ => pts_nil) (fun _ _ _ _ _ => (pe_callH his_whole (hr.mono (by decide)) (by rfl) (pa_cons (pv 0) pa_nil)))) pa_nil))))))), ?_⟩
    refine ⟨_, rfl, _, "list", _, _, rfl, .lst el, kit_same, _, rfl, iteT ?_⟩
    refine ⟨_, rfl, l, _, rfl, .inl (SqL.of el), _, rfl, rfl, _, rfl, ?_⟩
    rw [len_int]
    by_cases hm : (ns.length : Int) = m
    · have hq := q
      rw [decide_eq_true hm] at hq
      rw [decide_eq_true (show V.int (ns.length : Int) = V.int m by rw [hm])]
      refine iteT ?_
      refine ⟨_, rfl, l, rfl, ⟨_, SqL.of el⟩, fun D hD => ?_⟩
      refine lc_list_ev (cap := []) (xs := ns.map V.int) (fun _ => true) (fun _ => .bl true) (small1000 (by rw [len_int]; exact hn)) hD (SqL.of el) (fun _ _ _ _ => evYes) (fun v H' hx _ s' Q' k => ?_) (fun H4 s4 e4 => ?_)
      · obtain ⟨x, _, rfl⟩ := List.mem_map.mp hx
        exact ⟨_, rfl, x, rfl, k H' (Same.refl _)⟩
      refine ⟨D, List.replicate ns.length true, rfl, SqL.of ?_, ?_⟩
      · rw [e4, List.filter_eq_self.mpr (fun _ _ => rfl), List.map_replicate, List.map_const', List.length_map]
      · have : (List.replicate ns.length true).all id = true := List.all_eq_true.mpr fun b hb => by rw [(List.mem_replicate.mp hb).2]; rfl
        rw [this]
        exact hq _ s4
    · have hq := q
      rw [decide_eq_false hm] at hq
      rw [decide_eq_false (show ¬ V.int (ns.length : Int) = V.int m from fun e => hm (by injection e))]
      exact iteF (hq _ (Same.refl _))
theorem schas_form : FnScope ["thing"] ["thing"] (defScope sthas_form) := ⟨rfl, rfl, rfl, by decide +kernel, rfl, by decide +kernel, by decide +kernel⟩
theorem ok_has_form {f : Addr} {fd : FuncData} (B : Blt mg) (F : Fun K "has_form" "has_form" sthas_form f fd) (his_line : Has P w K mg base "is_line" 2 ["thing", "length"] spLineIs) : FnOk P w K mg base CX0 3 f fd ["thing"] spFormT := by
  refine F.ok schas_form (fun vs H Q E h => ?_) (fun cdv A outer s H vs Q E hr h => ?_)
  · obtain ⟨t, ts, xss, n, rfl, _⟩ := h
    rfl
  · obtain ⟨t, ts, xss, n, rfl, et, lt, hf, hn, q⟩ := h
    have htl : ts.length = n + 1 := by rw [lt.1, hf.1]
    refine ⟨_, (pss_cons (ps_if (PW.pt (pw_or (pt_not (pt_val (pe_callB (isiK (K := K) rfl) (by rfl) B.isinstance boot_isinst' (pa_cons (pv 0) (pa_cons (pe_bltn (v := .ty "list") (by rfl) B.list boot_list' (by rfl)) pa_nil))))) (pw_or1 (pt_cmpR op_eq (pe_callB (lenK (K := K) rfl) (by rfl) B.len PySem.boot_len (pa_cons (pv 0) pa_nil)) pe_int (nomark _)))))
  (pss_one (ps_ret pe_bl))
  pss_nil)
  (pss_one (ps_ret (pe_callB (allK (K := K) rfl rfl) (by rfl) B.all boot_all' (pa_cons (pe_lc (own := ["first", "line"]) (ix := [0]) (N := ["first", "line", "thing"]) rfl (LcOk.of (by rfl)) (pieK (K := K) rfl (by rfl) B.enumerate (pa_cons (pv 0) pa_nil)) (fun _ _ _ _ _ => (pgtK (K := K) (n := 2) rfl rfl (pgs_cons (pg_name (i := 0) (show (["first", "line", "thing"] : List Str).Nodup by decide +kernel) rfl (by first | exact Or.inl rfl | exact Or.inr rfl)) (pgs_cons (pg_name (i := 1) (show (["first", "line", "thing"] : List Str).Nodup by decide +kernel) rfl (by first | exact Or.inl rfl | exact Or.inr rfl)) pgs_nil)))) (fun _ _ _ _ _ => pts_nil) (fun _ _ _ _ _ => (pe_callH his_line (hr.mono (by decide)) (by rfl) (pa_cons (pv 1) (pa_cons (pe_op op_sub (pe_callB (lenK (K := K) rfl) (by rfl) B.len PySem.boot_len (pa_cons (pv 2) pa_nil)) (pv 0)) pa_nil))))) pa_nil))))), ?_⟩
    refine ⟨_, rfl, _, "list", _, _, rfl, .lst et, kit_same, _, rfl, iteF ?_⟩
    refine ⟨_, rfl, t, _, rfl, .inl (SqL.of et), rfl, _, rfl, ?_⟩
    rw [List.length_map, htl, decide_eq_false (show ¬ V.int ((n + 1 : Nat) : Int) = V.int 0 from fun e => by injection e with e; omega)]
    refine iteF ?_
    refine ⟨_, rfl, t, rfl, ⟨_, SqL.of et⟩, fun D hD => ?_⟩
    refine lc_enum_ev (cap := [some (.ref t)]) (xs := ts.map V.ref) (fun _ => .bl true) (small1000 (by rw [List.length_map]; omega)) hD (SqL.of et) (fun u i x v0 v1 H' R eu r => ?_) (fun i x H' hx s' Q' k => ?_) (fun H4 s4 e4 => ?_)
    · exact ⟨u, _, rfl, SqT.of eu, rfl, _, _, rfl, _, _, rfl, rfl, r⟩
    · obtain ⟨l, hl, rfl, hi⟩ := ref_at hx
      obtain ⟨l', hl', el⟩ := lt.at (f := i) (by rw [hf.1]; omega)
      rw [hl] at hl'
      obtain rfl := Option.some.inj hl'
      have hfl := hf.2 i (by omega)
      refine ⟨_, rfl, _, rfl, t, _, rfl, .inl (SqL.of (s' _ _ et)), _, rfl, _, _, rfl, rfl, l, xss.getD i [], _, rfl, s' _ _ el, by omega, fun H5 s5 => ?_⟩
      rw [decide_eq_true (show ((xss.getD i []).length : Int) = ((ts.map V.ref).length : Int) - (i : Int) by rw [List.length_map, htl, hfl]; omega)]
      exact k H5 s5
    · refine ⟨D, List.replicate (n + 1) true, rfl, SqL.of ?_, ?_⟩
      · rw [e4, List.map_replicate, List.map_const', List.length_range, List.length_map, htl]
      · have : (List.replicate (n + 1) true).all id = true := List.all_eq_true.mpr fun b hb => by rw [(List.mem_replicate.mp hb).2]; rfl
        rw [this]
        exact q _ s4
theorem sclast_in_table : FnScope ["table", "place", "firsts"] ["table", "place"] (defScope stlast_in_table) := ⟨rfl, rfl, rfl, by decide +kernel, rfl, by decide +kernel, by decide +kernel⟩
theorem ok_last_in_table {f : Addr} {fd : FuncData} (B : Blt mg) (F : Fun K "last_in_table" "last_in_table" stlast_in_table f fd) : FnOk P w K mg base CX0 1 f fd ["table", "place"] spLastT := by
  refine F.ok sclast_in_table (fun vs H Q E h => ?_) (fun cdv A outer s H vs Q E hr h => ?_)
  · obtain ⟨t, ts, xss, n, p, rfl, _⟩ := h
    rfl
  · obtain ⟨t, ts, xss, n, p, rfl, et, lt, hf, hn, hp, q⟩ := h
    refine ⟨_, (pss_cons (ps_setLc (i := 2) (own := ["first"]) (ix := [0, 1]) (N := ["first", "table", "place"]) rfl sclast_in_table.nd rfl rfl (LcOk.of (by rfl)) (pi_range1 (by rfl) B.range (pa_cons (pv 1) pa_nil)) (fun _ _ _ _ _ => (pg_name (i := 0) (show (["first", "table", "place"] : List Str).Nodup by decide +kernel) rfl (by first | exact Or.inl rfl | exact Or.inr rfl))) (fun _ _ _ _ _ => (pts_one (pt_cmpR op_eq (pe_ix (ixK (K := K) rfl) (pe_ix (ixK (K := K) rfl) (pv 1) (pv 0) (fun _ _ => rfl)) (pe_op op_sub (pv 2) (pv 0)) (fun _ _ => rfl)) (pe_ix (ixK (K := K) rfl) (pe_ix (ixK (K := K) rfl) (pv 1) (pv 0) (fun _ _ => rfl)) (pe_op op_add (pe_op op_sub (pv 2) (pv 0)) pe_int) (fun _ _ => rfl)) (nomark _)))) (fun _ _ _ _ _ => (pv 0)))
  (pss_one (ps_ret (pe_maxD (K := K) rfl rfl (by rfl) B.max (pv 2) (pe_un un_neg pe_int))))), ?_⟩
    refine ⟨_, rfl, _, rfl, by omega, by omega, fun D hD => ?_⟩
    have e0 : ((p : Int)).toNat = p := Int.toNat_natCast p
    rw [e0]
    refine lc_range_ev (cap := [some (.ref t), some (.int p)]) (fun i => decide (atT xss i (p - i) = atT xss i (p - i + 1))) (fun i => .int (i : Int)) (small1000 (by omega)) hD (fun i H' hi s' Q' k => ?_) (fun i H' hi _ s' Q' k => ⟨_, by rw [Int.zero_add]; rfl, k H' (Same.refl _)⟩) (fun H4 s4 e4 => ?_)
    · obtain ⟨l, hl, el⟩ := lt.at (f := i) (by rw [hf.1]; omega)
      have hfl := hf.2 i (by omega)
      have hat : atI (ts.map V.ref) ((0 : Int) + (i : Int)) = some (.ref l) := by rw [Int.zero_add]; exact atI_ref hl
      have h1 : atI ((xss.getD i []).map V.int) ((p : Int) - ((0 : Int) + (i : Int))) = some (.int (atT xss i (p - i))) := by
        rw [show (p : Int) - ((0 : Int) + (i : Int)) = ((p - i : Nat) : Int) by omega]; exact atI_at (by omega)
      have h2 : atI ((xss.getD i []).map V.int) ((p : Int) - ((0 : Int) + (i : Int)) + 1) = some (.int (atT xss i (p - i + 1))) := by
        rw [show (p : Int) - ((0 : Int) + (i : Int)) + 1 = ((p - i + 1 : Nat) : Int) by omega]; exact atI_at (by omega)
      refine ⟨_, rfl, _, rfl, t, _, _, _, rfl, rfl, SqL.of (s' _ _ et), hat, _, rfl, _, rfl, _, _, rfl, rfl, l, _, _, _, rfl, rfl, SqL.of (s' _ _ el), h1, ?_⟩
      refine ⟨_, rfl, _, rfl, t, _, _, _, rfl, rfl, SqL.of (s' _ _ et), hat, _, rfl, _, rfl, _, _, rfl, rfl, _, _, rfl, rfl, l, _, _, _, rfl, rfl, SqL.of (s' _ _ el), h2, rfl, _, rfl, ?_⟩
      rw [show decide (V.int (atT xss i (p - i)) = V.int (atT xss i (p - i + 1))) = decide (atT xss i (p - i) = atT xss i (p - i + 1)) from decide_eq_decide.mpr ⟨fun e => by injection e, fun e => by rw [e]⟩]
      exact k H' (Same.refl _)
    · have e4' : H4 D = some (.lst (((firT xss p).map fun (f : Nat) => (f : Int)).map V.int)) := by rw [e4, List.map_map]; rfl
      refine ⟨_, rfl, _, rfl, D, _, rfl, SqL.of e4', fun hnil H5 s5 => ?_, fun M hM hmax H5 s5 => ?_⟩
      · have : lastT xss p = -1 := by unfold lastT; rw [hnil]; rfl
        show Q (.int (-1)) H5
        rw [← this]
        exact q _ (s4.trans s5)
      · have : lastT xss p = M := by
          unfold lastT
          refine fold_is hM hmax ?_
          obtain ⟨f, _, rfl⟩ := List.mem_map.mp hM
          omega
        rw [← this]
        exact q _ (s4.trans s5)
theorem scrow_of_table : FnScope ["thing", "row"] ["thing"] (defScope strow_of_table) := ⟨rfl, rfl, rfl, by decide +kernel, rfl, by decide +kernel, by decide +kernel⟩
theorem ok_row_of_table {f : Addr} {fd : FuncData} (B : Blt mg) (F : Fun K "row_of_table" "row_of_table" strow_of_table f fd) (hhas_form : Has P w K mg base "has_form" 3 ["thing"] spFormT) (hlast_in_table : Has P w K mg base "last_in_table" 1 ["table", "place"] spLastT) (hrow_of : Has P w K mg base "row_of" 3 ["lasts"] spRowOf) (htable_of : Has P w K mg base "table_of" 2 ["row"] (spLines K)) : FnOk P w K mg base CX0 4 f fd ["thing"] spRowTab := by
  refine F.ok scrow_of_table (fun vs H Q E h => ?_) (fun cdv A outer s H vs Q E hr h => ?_)
  · obtain ⟨t, ts, ns, rfl, _⟩ := h
    rfl
  · obtain ⟨t, ts, ns, rfl, et, lt, hn, q⟩ := h
    have hu := hr.units0
    have hu1 := hu_of hr
    have hf := tab_form ns
    have htl : ts.length = ns.length + 1 := by rw [lt.1, hf.1]
    refine ⟨_, (pss_cons (ps_if (pt_not (pt_val (pe_callH hhas_form (hr.mono (by decide)) (by rfl) (pa_cons (pv 0) pa_nil))))
  (pss_one ps_never)
  pss_nil)
  (pss_cons (ps_set (i := 1) scrow_of_table.nd rfl (Or.inl rfl) (pe_callH hrow_of (hr.mono (by decide)) (by rfl) (pa_cons (pe_lc (own := ["place"]) (ix := [0]) (N := ["place", "thing"]) rfl (LcOk.of (by rfl)) (pi_range1 (by rfl) B.range (pa_cons (pe_op op_sub (pe_callB (lenK (K := K) rfl) (by rfl) B.len PySem.boot_len (pa_cons (pv 0) pa_nil)) pe_int) pa_nil)) (fun _ _ _ _ _ => (pg_name (i := 0) (show (["place", "thing"] : List Str).Nodup by decide +kernel) rfl (by first | exact Or.inl rfl | exact Or.inr rfl))) (fun _ _ _ _ _ => pts_nil) (fun _ _ _ _ _ => (pe_callH hlast_in_table (hr.mono (by decide)) (by rfl) (pa_cons (pv 1) (pa_cons (pv 0) pa_nil))))) pa_nil)))
  (pss_cons (ps_if (pt_cmpR (op_neLL (K := K) rfl hu1) (pe_callH htable_of (hr.mono (by decide)) (by rfl) (pa_cons (pv 1) pa_nil)) (pv 0) (nomark _))
  (pss_one ps_never)
  pss_nil)
  (pss_one (ps_ret (pv 1)))))), ?_⟩
    refine ⟨_, rfl, t, ts, _, _, rfl, et, lt, hf, by omega, fun H1 s1 => ⟨_, rfl, iteNB rfl ?_⟩⟩
    have et1 := s1 _ _ et
    refine ⟨_, rfl, t, _, rfl, .inl (SqL.of et1), _, _, rfl, rfl, _, rfl, by rw [List.length_map]; omega, by rw [List.length_map]; omega, fun D hD => ?_⟩
    have e0 : (((ts.map V.ref).length : Int) - 1).toNat = ns.length := by rw [List.length_map, htl]; omega
    rw [e0]
    refine lc_range_ev (cap := [some (.ref t)]) (fun _ => true) (fun i => .int (lastT (tabM ns) i)) (small1000 (by omega)) hD (fun _ _ _ _ => evYes) (fun i H' hi _ s' Q' k => ?_) (fun H4 s4 e4 => ?_)
    · refine ⟨_, rfl, _, rfl, t, ts, tabM ns, ns.length, i, by rw [Int.zero_add]; rfl, s' _ _ et1, (lt.same s1).same s', hf, by omega, hi, fun H5 s5 => k H5 s5⟩
    have e4' : H4 D = some (.lst ((lastsM ns).map V.int)) := by
      rw [e4, List.filter_eq_self.mpr (fun _ _ => rfl), ← tab_lasts]
      unfold lastsT
      rw [List.map_map]; rfl
    have S4 := s1.trans s4
    refine ⟨D, lastsM ns, rfl, e4', isLs_lasts ns, by rw [len_lasts]; omega, fun r H5 nr s5 er => ?_⟩
    have S5 := S4.trans s5
    have er' : H5 r = some (.lst ((plainM ns).map V.int)) := er
    refine ⟨_, rfl, r, plainM ns, rfl, SqL.of er', by rw [My.plain_len]; omega, fun S as H6 nS s6 eS hal hat => ?_⟩
    have S6 := S5.trans s6
    refine ⟨_, rfl, neLL eS (S6 _ _ et) (LstsAt.tab hal fun f l h => (hat f l h).2) (lt.same S6) ⟨_, rfl, iteNS (tab_plain ns) ?_⟩⟩
    exact ⟨_, rfl, q r H6 (S4.free nr) S6 (s6 _ _ er')⟩
end
section
variable {P : Program} {w : World} {K : PySem.W.Frag} {mg : Str → Option Value} {base : Heap} {cNoTable r : Addr} {ds : List Addr}
open My
theorem ok_row_of_tableE {f : Addr} {fd : FuncData} (B : Blt mg) (xNoTable : XOwn K mg "NoTable" cNoTable r ds) (F : Fun K "row_of_table" "row_of_table" strow_of_table f fd) (hhas_form : Has P w K mg base "has_form" 3 ["thing"] spFormT) (hlast_in_table : Has P w K mg base "last_in_table" 1 ["table", "place"] spLastT)
    (hErow_of : HasE P w K mg base "row_of" 3 ["lasts"] (spOr spRowOf (spRowOfN cNoTable))) (htable_of : Has P w K mg base "table_of" 2 ["row"] (spLines K)) : FnOk P w K mg base (CXe P w) 4 f fd ["thing"] (spRowTabN cNoTable) := by
  refine F.okE scrow_of_table (fun vs H Q E h => ?_) (fun cdv A outer s H vs Q E hr h => ?_)
  · obtain ⟨t, ts, xss, n, rfl, _⟩ := h
    rfl
  · obtain ⟨t, ts, xss, n, rfl, et, lt, hf, hn, hno, ex⟩ := h
    have hu := hr.units0
    have hu1 := hu_of hr
    have htl : ts.length = n + 1 := by rw [lt.1, hf.1]
    refine ⟨_, (pss_cons (ps_if (pt_not (pt_val (pe_callH hhas_form (hr.mono (by decide)) (by rfl) (pa_cons (pv 0) pa_nil))))
  (pss_one (ps_raise xNoTable.cl (by rfl) (pa_cons pe_str pa_nil)))
  pss_nil)
  (pss_cons (ps_set (i := 1) scrow_of_table.nd rfl (Or.inl rfl) (pe_callE hErow_of passed (hr.mono (by decide)) (by rfl) (pa_cons (pe_lc (own := ["place"]) (ix := [0]) (N := ["place", "thing"]) rfl (LcOk.of (by rfl)) (pi_range1 (by rfl) B.range (pa_cons (pe_op op_sub (pe_callB (lenK (K := K) rfl) (by rfl) B.len PySem.boot_len (pa_cons (pv 0) pa_nil)) pe_int) pa_nil)) (fun _ _ _ _ _ => (pg_name (i := 0) (show (["place", "thing"] : List Str).Nodup by decide +kernel) rfl (by first | exact Or.inl rfl | exact Or.inr rfl))) (fun _ _ _ _ _ => pts_nil) (fun _ _ _ _ _ => (pe_callH hlast_in_table (hr.mono (by decide)) (by rfl) (pa_cons (pv 1) (pa_cons (pv 0) pa_nil))))) pa_nil)))
  (pss_cons (ps_if (pt_cmpR (op_neLL (K := K) rfl hu1) (pe_callH htable_of (hr.mono (by decide)) (by rfl) (pa_cons (pv 1) pa_nil)) (pv 0) (nomark _))
  (pss_one (ps_raise xNoTable.cl (by rfl) (pa_cons pe_str pa_nil)))
  pss_nil)
  (pss_one (PS.nox (ps_ret (pv 1))))))), ?_⟩
    refine ⟨_, rfl, t, ts, _, _, rfl, et, lt, hf, by omega, fun H1 s1 => ⟨_, rfl, iteNB rfl ?_⟩⟩
    have et1 := s1 _ _ et
    refine ⟨_, rfl, t, _, rfl, .inl (SqL.of et1), _, _, rfl, rfl, _, rfl, by rw [List.length_map]; omega, by rw [List.length_map]; omega, fun D hD => ?_⟩
    have e0 : (((ts.map V.ref).length : Int) - 1).toNat = n := by rw [List.length_map, htl]; omega
    rw [e0]
    refine lc_range_ev (cap := [some (.ref t)]) (fun _ => true) (fun i => .int (lastT xss i)) (small1000 (by omega)) hD (fun _ _ _ _ => evYes) (fun i H' hi _ s' Q' k => ?_) (fun H4 s4 e4 => ?_)
    · refine ⟨_, rfl, _, rfl, t, ts, xss, n, i, by rw [Int.zero_add]; rfl, s' _ _ et1, (lt.same s1).same s', hf, by omega, hi, fun H5 s5 => k H5 s5⟩
    have e4' : H4 D = some (.lst ((lastsT xss n).map V.int)) := by
      rw [e4, List.filter_eq_self.mpr (fun _ _ => rfl)]
      unfold lastsT
      rw [List.map_map]; rfl
    have hll : (lastsT xss n).length = n := by unfold lastsT; rw [List.length_map, List.length_range]
    have S4 := s1.trans s4
    by_cases hls : IsLs (lastsT xss n)
    · refine .inl ⟨D, lastsT xss n, rfl, e4', hls, by omega, fun r H5 nr s5 er => ?_⟩
      have S5 := S4.trans s5
      refine ⟨_, rfl, r, rowOfM (lastsT xss n), rfl, SqL.of er, by rw [rowOf_len]; omega, fun S as H6 nS s6 eS hal hat => ?_⟩
      have S6 := S5.trans s6
      refine ⟨_, rfl, neLL eS (S6 _ _ et) (LstsAt.tab hal fun f l h => (hat f l h).2) (lt.same S6) ⟨_, rfl, ?_⟩⟩
      rw [decide_eq_false (fun e => hno _ e.symm)]
      exact iteT ⟨by show 1 ≤ sizeLine; decide, ex H6 S6⟩
    · refine .inr ⟨.ref D, rfl, thd_ints e4' (by omega), ?_, fun H5 s5 => ex H5 (S4.trans s5)⟩
      rw [areOf_lst e4']
      cases z : areB ((lastsT xss n).map V.int) with
      | false => rfl
      | true => exact absurd (are_isLs z) hls
end
section
variable {P : Program} {w : World} {K : PySem.W.Frag} {mg : Str → Option Value} {base : Heap}
open My
theorem ok_is_lineA {f : Addr} {fd : FuncData} (B : Blt mg) (F : Fun K "is_line" "is_line" stis_line f fd) (his_whole : Has P w K mg base "is_whole" 1 ["thing"] spWholeV) : FnOk P w K mg base CX0 2 f fd ["thing", "length"] spLineA := by
  refine F.ok scis_line (fun vs H Q E h => ?_) (fun cdv A outer s H vs Q E hr h => ?_)
  · obtain ⟨v, m, rfl, _⟩ := h
    rfl
  · obtain ⟨v, m, rfl, ⟨t, tl⟩, q⟩ := h
    obtain ⟨u, ty, _, _, k3⟩ := t.kinds (K := K)
    refine ⟨_, (pss_one (ps_ret (pe_and (pe_callB (isiK (K := K) rfl) (by rfl) B.isinstance boot_isinst' (pa_cons (pv 0) (pa_cons (pe_bltn (v := .ty "list") (by rfl) B.list boot_list' (by rfl)) pa_nil))) (pe_and (pe_cmpR op_eq (pe_callB (lenK (K := K) rfl) (by rfl) B.len PySem.boot_len (pa_cons (pv 0) pa_nil)) (pv 1) (nomark _)) (pe_one (pe_callB (allK (K := K) rfl rfl) (by rfl) B.all boot_all' (pa_cons (pe_lc (own := ["number"]) (ix := []) (N := ["number"]) rfl (LcOk.of (by rfl)) (piK (K := K) rfl (pv 0)) (fun _ _ _ _ _ => (pg_name (i := 0) (show (["number"] : List Str).Nodup by decide +kernel) rfl (by first | exact Or.inl rfl | exact Or.inr rfl))) (fun _ _ _ _ _ => pts_nil) (fun _ _ _ _ _ => (pe_callH his_whole (hr.mono (by decide)) (by rfl) (pa_cons (pv 0) pa_nil)))) pa_nil))))))), ?_⟩
    refine ⟨_, rfl, _, "list", _, _, rfl, ty, k3, _, rfl, ?_⟩
    cases hl : listV H v with
    | false =>
      have q' := q H (Same.refl _)
      rw [lineD_no t hl] at q'
      exact iteF q'
    | true =>
    obtain ⟨a, xs, rfl, ea⟩ := listV_yes hl
    obtain ⟨hlen, hth⟩ := tl a xs rfl ea
    rw [lineD_lst ea] at q
    refine iteT ?_
    refine ⟨_, rfl, a, _, rfl, .inl (SqL.of ea), _, rfl, rfl, _, rfl, ?_⟩
    by_cases hm : (xs.length : Int) = m
    case neg =>
      rw [decide_eq_false hm, Bool.false_and] at q
      rw [decide_eq_false (show ¬ V.int (xs.length : Int) = V.int m from fun e => hm (by injection e))]
      exact iteF (q _ (Same.refl _))
    rw [decide_eq_true hm, Bool.true_and] at q
    rw [decide_eq_true (show V.int (xs.length : Int) = V.int m by rw [hm])]
    refine iteT ?_
    refine ⟨_, rfl, a, rfl, ⟨_, SqL.of ea⟩, fun D hD => ?_⟩
    refine lc_list_ev (cap := []) (xs := xs) (fun _ => true) (fun x => .bl (wholeV x)) (small1000 hlen) hD (SqL.of ea) (fun _ _ _ _ => evYes) (fun x H' hx _ s' Q' k => ?_) (fun H1 s1 e1 => ?_)
    · exact ⟨_, rfl, x, rfl, (hth x hx).same s', k H' (Same.refl _)⟩
    rw [List.filter_eq_self.mpr (fun _ _ => rfl), show xs.map (fun x => V.bl (wholeV x)) = (xs.map wholeV).map V.bl by rw [List.map_map]; rfl] at e1
    exact ⟨D, _, rfl, SqL.of e1, q H1 s1⟩
theorem ok_has_formA {f : Addr} {fd : FuncData} (B : Blt mg) (F : Fun K "has_form" "has_form" sthas_form f fd) (his_line : Has P w K mg base "is_line" 2 ["thing", "length"] spLineA) : FnOk P w K mg base CX0 3 f fd ["thing"] spFormA := by
  refine F.ok schas_form (fun vs H Q E h => ?_) (fun cdv A outer s H vs Q E hr h => ?_)
  · obtain ⟨v, rfl, _⟩ := h
    rfl
  · obtain ⟨v, rfl, ⟨t, tl⟩, q⟩ := h
    obtain ⟨u, ty, _, _, k3⟩ := t.kinds (K := K)
    refine ⟨_, (pss_cons (ps_if (PW.pt (pw_or (pt_not (pt_val (pe_callB (isiK (K := K) rfl) (by rfl) B.isinstance boot_isinst' (pa_cons (pv 0) (pa_cons (pe_bltn (v := .ty "list") (by rfl) B.list boot_list' (by rfl)) pa_nil))))) (pw_or1 (pt_cmpR op_eq (pe_callB (lenK (K := K) rfl) (by rfl) B.len PySem.boot_len (pa_cons (pv 0) pa_nil)) pe_int (nomark _)))))
  (pss_one (ps_ret pe_bl))
  pss_nil)
  (pss_one (ps_ret (pe_callB (allK (K := K) rfl rfl) (by rfl) B.all boot_all' (pa_cons (pe_lc (own := ["first", "line"]) (ix := [0]) (N := ["first", "line", "thing"]) rfl (LcOk.of (by rfl)) (pieK (K := K) rfl (by rfl) B.enumerate (pa_cons (pv 0) pa_nil)) (fun _ _ _ _ _ => (pgtK (K := K) (n := 2) rfl rfl (pgs_cons (pg_name (i := 0) (show (["first", "line", "thing"] : List Str).Nodup by decide +kernel) rfl (by first | exact Or.inl rfl | exact Or.inr rfl)) (pgs_cons (pg_name (i := 1) (show (["first", "line", "thing"] : List Str).Nodup by decide +kernel) rfl (by first | exact Or.inl rfl | exact Or.inr rfl)) pgs_nil)))) (fun _ _ _ _ _ => pts_nil) (fun _ _ _ _ _ => (pe_callH his_line (hr.mono (by decide)) (by rfl) (pa_cons (pv 1) (pa_cons (pe_op op_sub (pe_callB (lenK (K := K) rfl) (by rfl) B.len PySem.boot_len (pa_cons (pv 2) pa_nil)) (pv 0)) pa_nil))))) pa_nil))))), ?_⟩
    refine ⟨_, rfl, _, "list", _, _, rfl, ty, k3, _, rfl, ?_⟩
    cases hl : listV H v with
    | false =>
      have q' := q H (Same.refl _)
      rw [formD_no t hl] at q'
      exact iteT q'
    | true =>
    obtain ⟨a, xs, rfl, ea⟩ := listV_yes hl
    obtain ⟨hlen, hth⟩ := tl a xs rfl ea
    rw [formD_lst ea] at q
    refine iteF ?_
    refine ⟨_, rfl, a, _, rfl, .inl (SqL.of ea), rfl, _, rfl, ?_⟩
    by_cases h0 : xs.length = 0
    · rw [decide_eq_true h0] at q
      rw [decide_eq_true (show V.int (xs.length : Int) = V.int 0 by rw [h0]; rfl)]
      exact iteT (q H (Same.refl _))
    rw [decide_eq_false h0] at q
    rw [decide_eq_false (show ¬ V.int (xs.length : Int) = V.int 0 from fun e => h0 (by injection e with e; omega))]
    refine iteF ?_
    refine ⟨_, rfl, a, rfl, ⟨_, SqL.of ea⟩, fun D hD => ?_⟩
    refine lc_enum_ev (cap := [some (.ref a)]) (xs := xs) (fun i => .bl (lineD H ((xs.length : Int) - (i : Int)) (xs.getD i .non))) (small1000 (by omega)) hD (SqL.of ea) (fun u i x v0 v1 H' R eu r => ?_) (fun i x H' hx s' Q' k => ?_) (fun H4 s4 e4 => ?_)
    · exact ⟨u, _, rfl, SqT.of eu, rfl, _, _, rfl, _, _, rfl, rfl, r⟩
    · have hxi : xs.getD i .non = x := by rw [List.getD_eq_getElem?_getD, hx]; rfl
      have tx := hth x (List.mem_of_getElem? hx)
      refine ⟨_, rfl, _, rfl, a, _, rfl, .inl (SqL.of (s' _ _ ea)), _, rfl, _, _, rfl, rfl, x, _, rfl, tx.same s', fun H5 s5 => ?_⟩
      rw [lineD_same tx.1 s', ← hxi]
      exact k H5 s5
    · refine ⟨D, formL H xs, rfl, SqL.of ?_, q _ s4⟩
      rw [e4]
      unfold formL
      rw [List.map_map]; rfl
end
section
variable {P : Program} {w : World} {K : PySem.W.Frag} {mg : Str → Option Value} {base : Heap} {cNoTable r : Addr} {ds : List Addr}
open My
theorem ok_row_of_tableA {f : Addr} {fd : FuncData} (B : Blt mg) (xNoTable : XOwn K mg "NoTable" cNoTable r ds) (F : Fun K "row_of_table" "row_of_table" strow_of_table f fd) (hhas_form : Has P w K mg base "has_form" 3 ["thing"] spFormA) (hlast_in_table : Has P w K mg base "last_in_table" 1 ["table", "place"] spLastT)
    (hErow_of : HasE P w K mg base "row_of" 3 ["lasts"] (spOr spRowOf (spRowOfN cNoTable))) (htable_of : Has P w K mg base "table_of" 2 ["row"] (spLines K)) : FnOk P w K mg base (CXe P w) 4 f fd ["thing"] (spRowTabA cNoTable) := by
  refine F.okE scrow_of_table (fun vs H Q E h => ?_) (fun cdv A outer s H vs Q E hr h => ?_)
  · obtain ⟨v, rfl, _⟩ := h
    rfl
  · obtain ⟨v, rfl, t, hno, ex⟩ := h
    have hu := hr.units0
    have hu1 := hu_of hr
    refine ⟨_, (pss_cons (ps_if (pt_not (pt_val (pe_callH hhas_form (hr.mono (by decide)) (by rfl) (pa_cons (pv 0) pa_nil))))
  (pss_one (ps_raise xNoTable.cl (by rfl) (pa_cons pe_str pa_nil)))
  pss_nil)
  (pss_cons (ps_set (i := 1) scrow_of_table.nd rfl (Or.inl rfl) (pe_callE hErow_of passed (hr.mono (by decide)) (by rfl) (pa_cons (pe_lc (own := ["place"]) (ix := [0]) (N := ["place", "thing"]) rfl (LcOk.of (by rfl)) (pi_range1 (by rfl) B.range (pa_cons (pe_op op_sub (pe_callB (lenK (K := K) rfl) (by rfl) B.len PySem.boot_len (pa_cons (pv 0) pa_nil)) pe_int) pa_nil)) (fun _ _ _ _ _ => (pg_name (i := 0) (show (["place", "thing"] : List Str).Nodup by decide +kernel) rfl (by first | exact Or.inl rfl | exact Or.inr rfl))) (fun _ _ _ _ _ => pts_nil) (fun _ _ _ _ _ => (pe_callH hlast_in_table (hr.mono (by decide)) (by rfl) (pa_cons (pv 1) (pa_cons (pv 0) pa_nil))))) pa_nil)))
  (pss_cons (ps_if (pt_cmpR (op_neLL (K := K) rfl hu1) (pe_callH htable_of (hr.mono (by decide)) (by rfl) (pa_cons (pv 1) pa_nil)) (pv 0) (nomark _))
  (pss_one (ps_raise xNoTable.cl (by rfl) (pa_cons pe_str pa_nil)))
  pss_nil)
  (pss_one (PS.nox (ps_ret (pv 1))))))), ?_⟩
    refine ⟨_, rfl, v, rfl, t, fun H1 s1 => ?_⟩
    rw [hno]
    exact ⟨_, rfl, iteT ⟨by show 1 ≤ sizeLine; decide, ex H1 s1⟩⟩
end
abbrev st_law_lines : Stmt := top 27
section
variable {P : Program} {w : World} {K : PySem.W.Frag} {mg : Str → Option Value} {base : Heap}
open My
theorem sc_law_lines : FnScope ["row", "lines", "first", "met", "line", "number"] ["row"] (defScope st_law_lines) := ⟨rfl, rfl, rfl, by decide +kernel, rfl, by decide +kernel, by decide +kernel⟩
theorem ok_law_lines {f : Addr} {fd : FuncData} (B : Blt mg) (F : Fun K "_law_lines" "_law_lines" st_law_lines f fd) : FnOk P w K mg base CX0 1 f fd ["row"] (spLines K) := by
  refine F.ok sc_law_lines (fun vs H Q E h => ?_) (fun cdv A outer s H vs Q E hr h => ?_)
  · obtain ⟨a, ns, rfl, _⟩ := h
    rfl
  · obtain ⟨a, ns, rfl, hq, hn, q⟩ := h
    have hu := hr.units0
    have hu1 := hu_of hr
    have hs : sizeLine = 16777216 := sizeLine_eq
    refine ⟨_, (pss_cons (ps_set (i := 1) sc_law_lines.nd rfl (Or.inl rfl) (pe_lst pa_nil))
  (pss_cons (ps_for PassesOwn.never rfl (pi_range1 (by rfl) B.range (pa_cons (pe_op op_add (pe_callB (lenK (K := K) rfl) (by rfl) B.len PySem.boot_len (pa_cons (pv 0) pa_nil)) pe_int) pa_nil)) (pg_name (i := 2) sc_law_lines.nd rfl (Or.inl rfl))
  (pss_cons (ps_set (i := 3) sc_law_lines.nd rfl (Or.inl rfl) pe_dnewK)
  (pss_cons (ps_set (i := 4) sc_law_lines.nd rfl (Or.inl rfl) (pe_lst (pa_cons pe_int pa_nil)))
  (pss_cons (ps_for PassesOwn.never rfl (piK (K := K) rfl (pe_slice (slK (K := K) rfl) (pv 0) (po_some (pv 2)) po_none)) (pg_name (i := 5) sc_law_lines.nd rfl (Or.inl rfl))
  (pss_cons (ps_dput hu1 (pv 3) (pv 5) pe_bl rfl)
  (pss_one (ps_expr (pe_bm PySem.F.plainAttrs_list PySem.F.slot_list_append PySem.F.type_list_append mt_append (pv 4) (pa_cons (pe_callB call_lenD (by rfl) B.len PySem.boot_len (pa_cons (pv 3) pa_nil)) pa_nil))))))
  (pss_one (ps_expr (pe_bm PySem.F.plainAttrs_list PySem.F.slot_list_append PySem.F.type_list_append mt_append (pv 1) (pa_cons (pv 4) pa_nil))))))))
  (pss_one (ps_ret (pv 1))))), ?_⟩
    refine ⟨by show 0 ≤ sizeLine; decide, fun S hS => ?_⟩
    have s0 : Same H (upd H S (.lst [])) := Same.new hS
    refine ⟨_, rfl, a, _, rfl, .inl (s0.seq hq), _, _, rfl, rfl, _, rfl, by rw [len_int]; omega, by rw [len_int]; omega, for_range (fun k σ Hc => ∃ (v2 v3 v4 v5 : Option V) (as : List Addr), σ = [some (.ref a), some (.ref S), v2, v3, v4, v5] ∧ Same H Hc ∧ Hc S = some (.lst (as.map V.ref)) ∧ as.length = k ∧ ∀ (f : Nat) (l : Addr), as[f]? = some l → (l ≠ S ∧ H l = none) ∧ Hc l = some (.lst ((lineM ns f).map V.int)))
      ⟨none, none, none, none, [], rfl, s0, upd_same, rfl, fun f l h => by simp at h⟩ ?_ ?_⟩
    · rintro k σ Hc hk ⟨v2, v3, v4, v5, as, rfl, sc, eS, hal, hat⟩
      have hk' : k ≤ ns.length := by rw [len_int] at hk; omega
      refine fun d hd => ⟨by show 1 ≤ sizeLine; decide, fun l hl => ?_⟩
      have ndl : d ≠ l := ne_of_none upd_same hl
      have ndS : d ≠ S := (ne_of_none eS hd).symm
      have eS1 : upd Hc d (.dK []) S = some (.lst (as.map V.ref)) := Same.new hd _ _ eS
      have nlS : l ≠ S := (ne_of_none eS1 hl).symm
      have eS2 := Same.new (o := .lst [V.int 0]) hl _ _ eS1
      have s2 : Same Hc (upd (upd Hc d (.dK [])) l (.lst [V.int 0])) := (Same.new hd).trans (Same.new hl)
      have ed2 : upd (upd Hc d (.dK [])) l (.lst [V.int 0]) d = some (.dK []) := by rw [upd_ne ndl]; exact upd_same
      have el2 : upd (upd Hc d (.dK [])) l (.lst [V.int 0]) l = some (.lst [V.int 0]) := upd_same
      have hdc : Hc d = none := hd
      have hlc : Hc l = none := (Same.new hd).free hl
      have hdH : H d = none := sc.free hdc
      have hlH : H l = none := sc.free hlc
      generalize upd (upd Hc d (.dK [])) l (.lst [V.int 0]) = H2 at s2 ed2 el2 eS2 ⊢
      clear hd hl eS1
      refine ⟨_, rfl, _, rfl, _, rfl, a, _, rfl, (sc.trans s2).seq hq, fun R hR => ⟨R, rfl, ⟨_, SqL.of upd_same⟩, ?_⟩⟩
      have ec : cutV (ns.map V.int) (some ((0 : Int) + (k : Int))) none = (ns.drop k).map V.int := by
        rw [Int.zero_add, cutV_drop, List.map_drop]
      rw [ec]
      have nRd : R ≠ d := (ne_of_none ed2 hR).symm
      have nRl : R ≠ l := (ne_of_none el2 hR).symm
      have nRS : R ≠ S := (ne_of_none eS2 hR).symm
      have hRc : Hc R = none := s2.free hR
      refine for_list (K := K) (a := R) (xs := (ns.drop k).map V.int) (fun j σ Hd => ∃ (v5 : Option V) (kvs : List (Key × V)), σ = [some (.ref a), some (.ref S), some (.int ((0 : Int) + (k : Int))), some (.ref d), some (.ref l), v5] ∧ Same Hc Hd ∧ Hd R = some (.lst ((ns.drop k).map V.int)) ∧ Hd d = some (.dK kvs) ∧ Hd l = some (.lst (((List.range (j + 1)).map fun i => (cnt ns k (k + i) : Int)).map V.int)) ∧ kvs.length = cnt ns k (k + j) ∧
        ∀ x : Int, (valV kvs (Sum.inl x : Key)).isSome = decide (x ∈ win ns k (k + j)))
        ⟨_, [], rfl, s2.trans (Same.new hR), upd_same, by rw [upd_ne nRd.symm]; exact ed2, by rw [upd_ne nRl.symm, el2]; show _ = some (HO.lst [V.int (cnt ns k (k + 0) : Int)]); rw [Nat.add_zero, cnt_self]; rfl, by rw [Nat.add_zero, cnt_self]; rfl, fun x => by rw [Nat.add_zero, win_self]; rfl⟩ (fun j σ Hd _ ⟨_, _, _, _, e, _⟩ => SqL.of e) ?_ ?_
      · rintro j y σ Hd hj ⟨v5, kvs, rfl, sd, eR, ed, el, hkv, hval⟩
        obtain ⟨hjl, rfl⟩ := int_at hj
        rw [List.length_drop] at hjl
        rw [drop_at]
        have hkj : k + j < ns.length := by omega
        have hlen : kvs.length ≤ 1000 := by have := cnt_le ns k (k + j); omega
        refine ⟨_, rfl, _, rfl, d, _, rfl, DPut.k (k := Sum.inl (ns.getD (k + j) 0)) (kvs := kvs) ed (small1000 hlen), ?_⟩
        have el3 := (upd_ne (H := Hd) (a := d) (b := l) (o := .dK (putK kvs (Sum.inl (ns.getD (k + j) 0)) (.bl true))) ndl.symm).trans el
        refine ⟨_, rfl, .inl ⟨rfl, _, SqL.of el3⟩, _, rfl, d, _, rfl, upd_same, l, _, _, rfl, rfl, el3, small1000 (by rw [List.length_map, List.length_map, List.length_range]; omega), ?_⟩
        have hc := cnt_snoc (ns := ns) (f := k) (b := k + j) (Nat.le_add_right _ _)
        have hw := last_win (ns := ns) (f := k) (b := k + j) hkj
        have hlen2 : (putK kvs (Sum.inl (ns.getD (k + j) 0)) (.bl true)).length = cnt ns k (k + (j + 1)) := by
          rw [valV_len, hkv, hval, show k + (j + 1) = k + j + 1 by omega, hc]
          congr 1
          by_cases z : ns.getD (k + j) 0 ∈ win ns k (k + j)
          · rw [if_pos (decide_eq_true z), if_neg (fun y => hw.mp y z)]
          · rw [if_neg (by rw [decide_eq_false z]; exact Bool.false_ne_true), if_pos (hw.mpr z)]
        refine ⟨_, _, rfl, ?_, ?_, ?_, ?_, hlen2, fun x => ?_⟩
        · intro b o z
          rw [upd_ne (ne_of_none z hlc), upd_ne (ne_of_none z hdc)]; exact sd b o z
        · rw [upd_ne nRl, upd_ne nRd]; exact eR
        · rw [upd_ne ndl]; exact upd_same
        · rw [upd_same, hlen2, List.range_succ (n := j + 1), List.map_append, List.map_append]; rfl
        · rw [valV_put]
          rw [show k + (j + 1) = k + j + 1 by omega, win_snoc (Nat.le_add_right _ _) hkj]
          by_cases z : x = ns.getD (k + j) 0
          · subst z
            rw [if_pos rfl]; simp
          · rw [if_neg (fun y => z (by injection y)), hval]
            exact decide_eq_decide.mpr ⟨fun h => List.mem_append_left _ h, fun h => (List.mem_append.mp h).resolve_right fun h => z (List.mem_singleton.mp h)⟩
      · rintro σ Hd ⟨v5, kvs, rfl, sd, eR, ed, el, hkv, hval⟩
        rw [len_int, List.length_drop] at el
        refine ⟨_, rfl, .inl ⟨rfl, _, SqL.of (sd _ _ eS)⟩, _, rfl, S, _, _, rfl, rfl, sd _ _ eS, small1000 (by rw [List.length_map]; omega), ?_⟩
        refine ⟨_, _, _, _, as ++ [l], rfl, ?_, by rw [upd_same, List.map_append]; rfl, by rw [List.length_append, hal]; rfl, fun f b hb => ?_⟩
        · intro b o z
          rw [upd_ne (ne_of_none z hS)]; exact sd b o (sc b o z)
        · by_cases hf : f < as.length
          · rw [List.getElem?_append_left hf] at hb
            obtain ⟨n1, e1⟩ := hat f b hb
            exact ⟨n1, by rw [upd_ne n1.1]; exact sd _ _ e1⟩
          · have hf' : f = as.length := by
              have := (List.getElem?_eq_some_iff.mp hb).1
              rw [List.length_append, List.length_singleton] at this; omega
            subst hf'
            rw [List.getElem?_append_right (Nat.le_refl _), Nat.sub_self] at hb
            have hb' : l = b := by simpa using hb
            subst hb'
            refine ⟨⟨nlS, hlH⟩, ?_⟩
            rw [upd_ne nlS, el, hal]; rfl
    · rintro σ Hc ⟨v2, v3, v4, v5, as, rfl, sc, eS, hal, hat⟩
      refine ⟨_, rfl, q S as Hc hS sc eS ?_ fun f l h => ⟨(hat f l h).1.2, (hat f l h).2⟩⟩
      rw [hal, len_int]; omega
end
abbrev st_law_plain : Stmt := top 28
section
variable {P : Program} {w : World} {K : PySem.W.Frag} {mg : Str → Option Value} {base : Heap}
open My
theorem sc_law_plain : FnScope ["row", "names", "found", "number"] ["row"] (defScope st_law_plain) := ⟨rfl, rfl, rfl, by decide +kernel, rfl, by decide +kernel, by decide +kernel⟩
theorem ok_law_plain {f : Addr} {fd : FuncData} (B : Blt mg) (F : Fun K "_law_plain" "_law_plain" st_law_plain f fd) : FnOk P w K mg base CX0 1 f fd ["row"] (spPlainD K) := by
  refine F.ok sc_law_plain (fun vs H Q E h => ?_) (fun cdv A outer s H vs Q E hr h => ?_)
  · obtain ⟨a, ns, rfl, _⟩ := h
    rfl
  · obtain ⟨a, ns, rfl, hq, hn, q⟩ := h
    have hu := hr.units0
    have hu1 := hu_of hr
    refine ⟨_, (pss_cons (ps_set (i := 1) sc_law_plain.nd rfl (Or.inl rfl) pe_dnewK)
  (pss_cons (ps_set (i := 2) sc_law_plain.nd rfl (Or.inl rfl) (pe_lst pa_nil))
  (pss_cons (ps_for PassesOwn.never rfl (piK (K := K) rfl (pv 0)) (pg_name (i := 3) sc_law_plain.nd rfl (Or.inl rfl))
  (pss_cons (ps_dput hu1 (pv 1) (pv 3) (pe_dget2 hu1 (pv 1) (pv 3) (pe_callB call_lenD (by rfl) B.len PySem.boot_len (pa_cons (pv 1) pa_nil)) ⟨rfl, rfl, rfl, rfl⟩) rfl)
  (pss_one (ps_expr (pe_bm PySem.F.plainAttrs_list PySem.F.slot_list_append PySem.F.type_list_append mt_append (pv 2) (pa_cons (pe_dget hu1 (pv 1) (pv 3) (fun _ _ => rfl)) pa_nil))))))
  (pss_one (ps_ret (pv 2)))))), ?_⟩
    refine fun d hd => ⟨by show 0 ≤ sizeLine; decide, fun fo nfo => ?_⟩
    have ndf : d ≠ fo := ne_of_none upd_same nfo
    have nfH : H fo = none := (Same.new hd).free nfo
    have s0 : Same H (upd (upd H d (.dK [])) fo (.lst [])) := (Same.new hd).trans (Same.new nfo)
    refine ⟨_, rfl, a, rfl, ⟨_, s0.seq hq⟩, for_list (K := K) (a := a) (xs := ns.map V.int) (fun i σ Hc => ∃ v3 kvs, σ = [some (.ref a), some (.ref d), some (.ref fo), v3] ∧ Same H Hc ∧ Hc d = some (.dK kvs) ∧ Hc fo = some (.lst (((plainM ns).take i).map V.int)) ∧ kvs.length = (dd (ns.take i)).length ∧
      ∀ x : Int, valV kvs (Sum.inl x : Key) = if x ∈ dd (ns.take i) then some (.int ((dd (ns.take (ns.idxOf x))).length : Int)) else none) ⟨none, [], rfl, s0, by rw [upd_ne ndf]; exact upd_same, upd_same, rfl, fun x => rfl⟩ (fun i σ Hc _ ⟨_, _, _, s, _⟩ => s.seq hq) ?_ ?_⟩
    · rintro i x σ Hc hx ⟨v3, kvs, rfl, s, ed, ef, hk, hv⟩
      obtain ⟨hi, rfl⟩ := int_at hx
      have hdd : (dd (ns.take i)).length ≤ 900 := by
        have := dd_take_le (ns := ns) (i := i) (by omega)
        omega
      have hpt : (plainM ns).take (i + 1) = (plainM ns).take i ++ [((dd (ns.take (ns.idxOf (ns.getD i 0)))).length : Int)] := by
        refine take_snoc ?_
        have := plain_at hi
        rw [List.getD_eq_getElem?_getD, List.getElem?_eq_getElem (by rw [My.plain_len]; exact hi)] at this
        rw [List.getElem?_eq_getElem (by rw [My.plain_len]; exact hi)]
        exact congrArg some this
      have put : ∀ (v : Int), v = ((dd (ns.take (ns.idxOf (ns.getD i 0)))).length : Int) → ∀ x : Int, valV (putK kvs (Sum.inl (ns.getD i 0)) (.int v)) (Sum.inl x : Key) = if x ∈ dd (ns.take (i + 1)) then some (.int ((dd (ns.take (ns.idxOf x))).length : Int)) else none := fun v ev x => by
        have hm : x ∈ dd (ns.take (i + 1)) ↔ x = ns.getD i 0 ∨ x ∈ dd (ns.take i) := by
          rw [dd_mem, dd_mem, take_snoc (getD_some hi), List.mem_append, List.mem_singleton]; exact or_comm
        rw [valV_put]
        by_cases hxe : x = ns.getD i 0
        · subst hxe
          rw [if_pos rfl, if_pos (hm.mpr (.inl rfl)), ev]
        · rw [if_neg (fun y => hxe (by injection y)), hv]
          by_cases y : x ∈ dd (ns.take i)
          · rw [if_pos y, if_pos (hm.mpr (.inr y))]
          · rw [if_neg y, if_neg (fun z => (hm.mp z).elim hxe y)]
      have val : (valV kvs (Sum.inl (ns.getD i 0) : Key)).getD (.int (kvs.length : Int)) = .int ((dd (ns.take (ns.idxOf (ns.getD i 0)))).length : Int) := by
        rw [hv]
        by_cases z : ns.getD i 0 ∈ dd (ns.take i)
        · rw [if_pos z]; rfl
        · rw [if_neg z]
          show V.int (kvs.length : Int) = _
          rw [idx_first hi ((last_none hi).mpr (fun y => z ((dd_mem _ _).mpr y))), hk]
      have hlk : (putK kvs (Sum.inl (ns.getD i 0)) (.int ((dd (ns.take (ns.idxOf (ns.getD i 0)))).length : Int))).length = (dd (ns.take (i + 1))).length := by
        rw [dd_take_succ hi]
        by_cases z : ns.getD i 0 ∈ dd (ns.take i)
        · rw [if_pos z, valV_len, hv, if_pos z, hk]; rfl
        · rw [if_neg z, putK_new _ (by rw [hv, if_neg z]), List.length_append, List.length_append, hk]; rfl
      refine ⟨_, rfl, d, rfl, .inl ⟨_, .inl ed⟩, _, rfl, _, rfl, d, _, rfl, ed, _, DGet.k (k := Sum.inl (ns.getD i 0)) ed, ?_⟩
      rw [val]
      refine ⟨_, rfl, _, rfl, d, _, rfl, DPut.k (k := Sum.inl (ns.getD i 0)) (kvs := kvs) ed (small1000 (by omega)), ?_⟩
      have ef2 := (upd_ne (H := Hc) (a := d) (b := fo) (o := .dK (putK kvs (Sum.inl (ns.getD i 0)) (.int ((dd (ns.take (ns.idxOf (ns.getD i 0)))).length : Int)))) ndf.symm).trans ef
      have ed2 := upd_same (H := Hc) (a := d) (o := .dK (putK kvs (Sum.inl (ns.getD i 0)) (.int ((dd (ns.take (ns.idxOf (ns.getD i 0)))).length : Int))))
      have hg := DGet.k (k := (Sum.inl (ns.getD i 0) : Key)) ed2
      rw [put _ rfl, if_pos (by rw [dd_mem, take_snoc (getD_some hi)]; exact List.mem_append_right _ (List.mem_singleton.mpr rfl))] at hg
      refine ⟨_, rfl, .inl ⟨rfl, _, SqL.of ef2⟩, _, rfl, _, rfl, d, _, rfl, hg, fo, _, _, rfl, rfl, ef2, small1000 (by rw [len_int, List.length_take, My.plain_len]; omega), ?_⟩
      refine ⟨_, _, rfl, fun c o y => ?_, ?_, ?_, hlk, put _ rfl⟩
      · rw [upd_ne (ne_of_none y nfH), upd_ne (ne_of_none y hd)]; exact s c o y
      · rw [upd_ne ndf]; exact ed2
      · rw [upd_same, hpt, List.map_append]; rfl
    · rintro σ Hc ⟨v3, kvs, rfl, s, ed, ef, hk, hv⟩
      rw [List.take_of_length_le (by rw [My.plain_len, len_int]; exact Nat.le_refl _)] at ef
      exact ⟨_, rfl, q fo Hc nfH s ef⟩
end
abbrev st_law_is_list : Stmt := top 29
abbrev st_law_row_of : Stmt := top 30
section
variable {P : Program} {w : World} {K : PySem.W.Frag} {mg : Str → Option Value} {base : Heap}
open My
theorem sc_law_is_list : FnScope ["thing", "size"] ["thing", "size"] (defScope st_law_is_list) := ⟨rfl, rfl, rfl, by decide +kernel, rfl, by decide +kernel, by decide +kernel⟩
theorem ok_law_is_list {f : Addr} {fd : FuncData} (B : Blt mg) (F : Fun K "_law_is_list" "_law_is_list" st_law_is_list f fd) : FnOk P w K mg base CX0 1 f fd ["thing", "size"] spIsList := by
  refine F.ok sc_law_is_list (fun vs H Q E h => ?_) (fun cdv A outer s H vs Q E hr h => ?_)
  · obtain ⟨v, m, rfl, _⟩ := h
    rfl
  · obtain ⟨v, m, rfl, t, q⟩ := h
    obtain ⟨u, ty, _, _, k3⟩ := t.kinds (K := K)
    refine ⟨_, (pss_one (ps_ret (pe_and (pe_callB (isiK (K := K) rfl) (by rfl) B.isinstance boot_isinst' (pa_cons (pv 0) (pa_cons (pe_bltn (v := .ty "list") (by rfl) B.list boot_list' (by rfl)) pa_nil))) (pe_one (pe_cmpR op_eq (pe_callB (lenK (K := K) rfl) (by rfl) B.len PySem.boot_len (pa_cons (pv 0) pa_nil)) (pv 1) (nomark _)))))), ?_⟩
    refine ⟨_, rfl, _, "list", _, _, rfl, ty, k3, _, rfl, ?_⟩
    cases hl : listV H v with
    | false =>
      rw [lenD_no t hl] at q
      exact iteF q
    | true =>
    obtain ⟨a, xs, rfl, ea⟩ := listV_yes hl
    rw [lenD_lst ea] at q
    refine iteT ?_
    refine ⟨_, rfl, a, _, rfl, .inl (SqL.of ea), _, rfl, rfl, ?_⟩
    by_cases hm : (xs.length : Int) = m
    · rw [decide_eq_true hm] at q
      rw [decide_eq_true (show V.int (xs.length : Int) = V.int m by rw [hm])]
      exact q
    · rw [decide_eq_false hm] at q
      rw [decide_eq_false (show ¬ V.int (xs.length : Int) = V.int m from fun e => hm (by injection e))]
      exact q
theorem sc_law_row_of : FnScope ["thing", "many", "first", "row", "place", "name"] ["thing"] (defScope st_law_row_of) := ⟨rfl, rfl, rfl, by decide +kernel, rfl, by decide +kernel, by decide +kernel⟩
theorem ok_law_row_of {f : Addr} {fd : FuncData} (B : Blt mg) (F : Fun K "_law_row_of" "_law_row_of" st_law_row_of f fd) (h_law_is_list : Has P w K mg base "_law_is_list" 1 ["thing", "size"] spIsList) (h_law_plain : Has P w K mg base "_law_plain" 1 ["row"] (spPlainD K)) (h_law_lines : Has P w K mg base "_law_lines" 1 ["row"] (spLines K)) : FnOk P w K mg base CX0 2 f fd ["thing"] spRowOfA := by
  refine F.ok sc_law_row_of (fun vs H Q E h => ?_) (fun cdv A outer s H vs Q E hr h => ?_)
  · obtain ⟨v, rfl, _⟩ := h
    rfl
  · obtain ⟨v, rfl, ⟨t, tl⟩, qn, qy⟩ := h
    have hu := hr.units0
    have hu1 := hu_of hr
    have hs : sizeLine = 16777216 := sizeLine_eq
    obtain ⟨u, ty, _, _, k3⟩ := t.kinds (K := K)
    refine ⟨_, (pss_cons (ps_if (PW.pt (pw_or (pt_not (pt_val (pe_callB (isiK (K := K) rfl) (by rfl) B.isinstance boot_isinst' (pa_cons (pv 0) (pa_cons (pe_bltn (v := .ty "list") (by rfl) B.list boot_list' (by rfl)) pa_nil))))) (pw_or1 (pt_cmpR op_eq (pe_callB (lenK (K := K) rfl) (by rfl) B.len PySem.boot_len (pa_cons (pv 0) pa_nil)) pe_int (nomark _)))))
  (pss_one (ps_ret pe_non))
  pss_nil)
  (pss_cons (ps_set (i := 1) sc_law_row_of.nd rfl (Or.inl rfl) (pe_op op_sub (pe_callB (lenK (K := K) rfl) (by rfl) B.len PySem.boot_len (pa_cons (pv 0) pa_nil)) pe_int))
  (pss_cons (ps_for PassesOwn.never rfl (pi_range1 (by rfl) B.range (pa_cons (pe_op op_add (pv 1) pe_int) pa_nil)) (pg_name (i := 2) sc_law_row_of.nd rfl (Or.inl rfl))
  (pss_cons (ps_if (pt_not (pt_val (pe_callH h_law_is_list (hr.mono (by decide)) (by rfl) (pa_cons (pe_ix (ixK (K := K) rfl) (pv 0) (pv 2) (fun _ _ => rfl)) (pa_cons (pe_op op_sub (pe_op op_add (pv 1) pe_int) (pv 2)) pa_nil)))))
  (pss_one (ps_ret pe_non))
  pss_nil)
  (pss_one (ps_if (pt_cmpR (neLK (K := K) rfl hu) (pe_lc (own := ["one"]) (ix := []) (N := ["one"]) rfl (LcOk.of (by rfl)) (piK (K := K) rfl (pe_ix (ixK (K := K) rfl) (pv 0) (pv 2) (fun _ _ => rfl))) (fun _ _ _ _ _ => (pg_name (i := 0) (show (["one"] : List Str).Nodup by decide +kernel) rfl (by first | exact Or.inl rfl | exact Or.inr rfl))) (fun _ _ _ _ _ => (pts_one (PW.pt (pw_or (pt_not (pt_val (pe_callB (isiK (K := K) rfl) (by rfl) B.isinstance boot_isinst' (pa_cons (pv 0) (pa_cons (pe_bltn (v := .ty "int") (by rfl) B.int boot_int' (by rfl)) pa_nil))))) (pw_or1 (pt_val (pe_callB (isiK (K := K) rfl) (by rfl) B.isinstance boot_isinst' (pa_cons (pv 0) (pa_cons (pe_bltn (v := .ty "bool") (by rfl) B.bool boot_bool' (by rfl)) pa_nil))))))))) (fun _ _ _ _ _ => (pv 0))) (pe_lst pa_nil) (nomark _))
  (pss_one (ps_ret pe_non))
  pss_nil))))
  (pss_cons (ps_set (i := 3) sc_law_row_of.nd rfl (Or.inl rfl) (pe_lst pa_nil))
  (pss_cons (ps_for PassesOwn.never rfl (pi_range1 (by rfl) B.range (pa_cons (pv 1) pa_nil)) (pg_name (i := 4) sc_law_row_of.nd rfl (Or.inl rfl))
  (pss_cons (ps_set (i := 5) sc_law_row_of.nd rfl (Or.inl rfl) (pe_callB call_len_setO (by rfl) B.len PySem.boot_len (pa_cons (pe_callTy (call_set_ints (K := K) rfl rfl) (by rfl) B.set boot_set' (pa_cons (pv 3) pa_nil)) pa_nil)))
  (pss_cons (ps_for PassesOwn.never rfl (pi_range1 (by rfl) B.range (pa_cons (pv 4) pa_nil)) (pg_name (i := 2) sc_law_row_of.nd rfl (Or.inl rfl))
  (pss_one (ps_if (pt_cmpR op_eq (pe_ix (ixK (K := K) rfl) (pe_ix (ixK (K := K) rfl) (pv 0) (pv 2) (fun _ _ => rfl)) (pe_op op_add (pe_op op_sub (pv 4) (pv 2)) pe_int) (fun _ _ => rfl)) (pe_ix (ixK (K := K) rfl) (pe_ix (ixK (K := K) rfl) (pv 0) (pv 2) (fun _ _ => rfl)) (pe_op op_sub (pv 4) (pv 2)) (fun _ _ => rfl)) (nomark _))
  (pss_one (ps_set (i := 5) sc_law_row_of.nd rfl (Or.inl rfl) (pe_ix (ixK (K := K) rfl) (pv 3) (pv 2) (fun _ _ => rfl))))
  pss_nil)))
  (pss_one (ps_expr (pe_bm PySem.F.plainAttrs_list PySem.F.slot_list_append PySem.F.type_list_append mt_append (pv 3) (pa_cons (pv 5) pa_nil)))))))
  (pss_one (ps_ret (pe_ix (ixK (K := K) rfl) (pe_lst (pa_cons pe_non (pa_cons (pe_callH h_law_plain (hr.mono (by decide)) (by rfl) (pa_cons (pv 3) pa_nil)) pa_nil))) (pe_callTy call_int1 (by rfl) B.int boot_int' (pa_cons (pe_cmpR (op_eqLL (K := K) rfl hu1) (pe_callH h_law_lines (hr.mono (by decide)) (by rfl) (pa_cons (pv 3) pa_nil)) (pv 0) (nomark _)) pa_nil)) (fun _ _ => rfl))))))))), ?_⟩
    refine ⟨_, rfl, _, "list", _, _, rfl, ty, k3, _, rfl, ?_⟩
    cases hl : listV H v with
    | false => exact iteT (qn (.inl (formD_no t hl)) H (Same.refl _))
    | true =>
    obtain ⟨a, xs, rfl, ea⟩ := listV_yes hl
    obtain ⟨hlen, hth⟩ := tl a xs rfl ea
    refine iteF ?_
    refine ⟨_, rfl, a, _, rfl, .inl (SqL.of ea), rfl, _, rfl, ?_⟩
    have hform := formD_lst ea
    by_cases h0 : xs.length = 0
    · rw [decide_eq_true (show V.int (xs.length : Int) = V.int 0 by rw [h0]; rfl)]
      refine iteT (qn (.inl ?_) H (Same.refl _))
      rw [hform, decide_eq_true h0]; rfl
    rw [decide_eq_false (show ¬ V.int (xs.length : Int) = V.int 0 from fun e => h0 (by injection e with e; omega))]
    refine iteF ?_
    refine ⟨_, rfl, a, _, rfl, .inl (SqL.of ea), _, _, rfl, rfl, ?_⟩
    dsimp only [L2.start, List.set]
    obtain ⟨n, hn⟩ : ∃ n : Nat, xs.length = n + 1 := ⟨xs.length - 1, by omega⟩
    rw [hn, show ((n + 1 : Nat) : Int) - 1 = (n : Int) by omega]
    have bad : ∀ i, i < xs.length → lineD H ((xs.length : Int) - (i : Int)) (xs.getD i .non) = false → formD H (.ref a) = false := fun i hi z => by
      rw [hform]
      cases y : (formL H xs).all id with
      | false => rw [Bool.and_false]
      | true =>
        have := List.all_eq_true.mp y _ (List.mem_map.mpr ⟨i, List.mem_range.mpr hi, rfl⟩)
        have z' : (lineD H ((xs.length : Int) - (i : Int)) (xs.getD i .non)) = true := this
        rw [z] at z'; cases z'
    refine ⟨_, rfl, _, _, rfl, rfl, _, rfl, by omega, by omega, for_range (fun i σ Hc => ∃ (v2 : Option V), σ = [some (.ref a), some (.int n), v2, none, none, none] ∧ Same H Hc ∧ ∀ j, j < i → lineD H ((xs.length : Int) - (j : Int)) (xs.getD j .non) = true) ⟨none, rfl, Same.refl _, fun j hj => by omega⟩ ?_ ?_⟩
    · rintro i σ Hc hi ⟨v2, rfl, sc, hok⟩
      have hi' : i < xs.length := by omega
      have hat : atI xs ((0 : Int) + (i : Int)) = some (xs.getD i .non) := by rw [Int.zero_add]; exact atI_nat (getV hi')
      have tx := hth _ (List.mem_of_getElem? (getV hi'))
      have bad' := bad i hi'
      have em : (n : Int) + 1 - ((0 : Int) + (i : Int)) = (xs.length : Int) - (i : Int) := by rw [hn]; omega
      generalize hx : xs.getD i .non = x at hat tx bad'
      have txc := tx.same sc
      refine ⟨_, rfl, _, rfl, a, _, _, _, rfl, rfl, SqL.of (sc _ _ ea), hat, _, rfl, _, _, rfl, rfl, _, rfl, _, _, rfl, rfl, x, _, rfl, txc.1, _, rfl, ?_⟩
      rw [em]
      cases hlx : listV Hc x with
      | false =>
        rw [lenD_no txc.1 hlx]
        refine iteT (qn (.inl (bad' ?_)) _ sc)
        rw [← lineD_same tx.1 sc]; exact lineD_no txc.1 hlx
      | true =>
      obtain ⟨b, ys, rfl, eb⟩ := listV_yes hlx
      obtain ⟨hyl, hyt⟩ := txc.2 b ys rfl eb
      have hld : lineD H ((xs.length : Int) - (i : Int)) (.ref b) = (decide ((ys.length : Int) = (xs.length : Int) - (i : Int)) && (ys.map wholeV).all id) := by rw [← lineD_same tx.1 sc, lineD_lst eb]
      rw [lenD_lst eb]
      by_cases hle : (ys.length : Int) = (xs.length : Int) - (i : Int)
      case neg =>
        rw [decide_eq_false hle]
        refine iteT (qn (.inl (bad' ?_)) _ sc)
        rw [hld, decide_eq_false hle]; rfl
      rw [decide_eq_true hle] at hld ⊢
      refine iteNB rfl ?_
      refine ⟨_, rfl, _, rfl, a, _, _, _, rfl, rfl, SqL.of (sc _ _ ea), hat, b, rfl, ⟨_, SqL.of eb⟩, fun D hD => ?_⟩
      refine lc_list_ev (cap := []) (xs := ys) (fun x => !wholeV x) (fun x => x) (small1000 hyl) hD (SqL.of eb) (fun x H' hx s' Q' k => ?_) (fun x H' hx _ s' Q' k => ⟨_, rfl, k H' (Same.refl _)⟩) (fun H4 s4 e4 => ?_)
      · obtain ⟨u, ty, k1, k2, _⟩ := ((hyt x hx).same s').kinds (K := K)
        refine ⟨_, rfl, _, "int", _, _, rfl, ty, k1, _, rfl, ?_⟩
        cases x with
        | int m => exact iteF ⟨_, rfl, _, "bool", _, _, rfl, ty, k2, _, rfl, k H' (Same.refl _)⟩
        | bl c => exact iteF ⟨_, rfl, _, "bool", _, _, rfl, ty, k2, _, rfl, k H' (Same.refl _)⟩
        | _ => exact iteT (k H' (Same.refl _))
      rw [List.map_id'] at e4
      refine ⟨by show 0 ≤ sizeLine; decide, fun z nz => neNil (SqL.of (Same.new nz _ _ e4)) (SqL.of upd_same) ⟨_, rfl, ?_⟩⟩
      have scz := (sc.trans s4).trans (Same.new (o := .lst []) nz)
      by_cases hw : ys.filter (fun x => !wholeV x) = []
      · rw [decide_eq_true hw]
        refine iteF ⟨_, rfl, scz, fun j hj => ?_⟩
        by_cases y : j = i
        · rw [y, hx, hld, Bool.true_and]
          refine List.all_eq_true.mpr fun c hc => ?_
          obtain ⟨x, hx, rfl⟩ := List.mem_map.mp hc
          have := List.filter_eq_nil_iff.mp hw x hx
          simpa using this
        · exact hok j (by omega)
      · rw [decide_eq_false hw]
        refine iteT (qn (.inl (bad' ?_)) _ scz)
        rw [hld, Bool.true_and]
        cases y : (ys.map wholeV).all id with
        | false => rfl
        | true =>
          exfalso
          refine hw (List.filter_eq_nil_iff.mpr fun x hx => ?_)
          have : wholeV x = true := List.all_eq_true.mp y _ (List.mem_map.mpr ⟨x, hx, rfl⟩)
          rw [this]; decide
    · rintro σ Hc ⟨v2, rfl, sc, hok⟩
      have hfd : formD H (.ref a) = true := by
        rw [hform, decide_eq_false h0]
        show (formL H xs).all id = true
        refine List.all_eq_true.mpr fun c hc => ?_
        obtain ⟨i, hi, rfl⟩ := List.mem_map.mp hc
        have := List.mem_range.mp hi
        exact hok i (by omega)
      obtain ⟨t', ts, xss, n', et, ea', lt, hf⟩ := formD_yes hfd
      injection et with et
      subst et
      have hxs : xs = ts.map V.ref := by rw [ea] at ea'; cases ea'; rfl
      subst hxs
      have htl : ts.length = n + 1 := by rw [← hn, List.length_map]
      have hn' : n' = n := by have := lt.1; rw [hf.1] at this; omega
      subst hn'
      have eac := sc _ _ ea
      have ltc := lt.same sc
      refine ⟨by show 0 ≤ sizeLine; decide, fun ro nro => ?_⟩
      refine ⟨_, rfl, _, rfl, by omega, by omega, for_range (fun p σ Hd => ∃ (v2 v4 v5 : Option V), σ = [some (.ref a), some (.int n'), v2, some (.ref ro), v4, v5] ∧ Same Hc (off ro Hd) ∧ Hd ro = some (.lst ((rowN xss p).map V.int))) ⟨_, none, none, rfl, off_of (Same.new nro) nro, upd_same⟩ ?_ ?_⟩
      · rintro p σ Hd hp ⟨v2, v4, v5, rfl, sd, ero⟩
        have hpn : p < n' := by omega
        have hrl := rowN_len xss p
        refine ⟨_, rfl, ro, _, rfl, SqL.of ero, by omega, fun pT nT => ⟨pT, _, _, rfl, upd_same, ?_⟩⟩
        have sT := Same.new (o := .set (fun k => (dd (rowN xss p)).any (· == k)) (dd (rowN xss p)).length) nT
        have eroT := sT _ _ ero
        have sdT : Same Hc (off ro (upd Hd pT (.set (fun k => (dd (rowN xss p)).any (· == k)) (dd (rowN xss p)).length))) := sd.trans (off_x sT.x)
        generalize upd Hd pT (.set (fun k => (dd (rowN xss p)).any (· == k)) (dd (rowN xss p)).length) = HT at sT eroT sdT ⊢
        refine ⟨_, rfl, _, rfl, by omega, by omega, for_range (fun j σ He => ∃ (v2 : Option V), σ = [some (.ref a), some (.int n'), v2, some (.ref ro), some (.int ((0 : Int) + (p : Int))), some (.int (nmT (lastJ xss p j) (rowN xss p)))] ∧ Same Hc (off ro He) ∧ He ro = some (.lst ((rowN xss p).map V.int))) ⟨_, rfl, sdT, eroT⟩ ?_ ?_⟩
        · rintro j σ He hj ⟨v2, rfl, se, eroe⟩
          have hjp : j < p := by omega
          have seH := se.trans (off_same _ _)
          obtain ⟨l, hl, el⟩ := ltc.at (f := j) (by rw [hf.1]; omega)
          have elen := hf.2 j (by omega)
          have ele := seH _ _ el
          have hix : atI (ts.map V.ref) ((0 : Int) + (j : Int)) = some (.ref l) := by rw [Int.zero_add]; exact atI_ref hl
          have h1 : atI ((xss.getD j []).map V.int) ((0 : Int) + (p : Int) - ((0 : Int) + (j : Int)) + 1) = some (.int (atT xss j (p - j + 1))) := by
            rw [show (0 : Int) + (p : Int) - ((0 : Int) + (j : Int)) + 1 = ((p - j + 1 : Nat) : Int) by omega]; exact atI_at (by omega)
          have h2 : atI ((xss.getD j []).map V.int) ((0 : Int) + (p : Int) - ((0 : Int) + (j : Int))) = some (.int (atT xss j (p - j))) := by
            rw [show (0 : Int) + (p : Int) - ((0 : Int) + (j : Int)) = ((p - j : Nat) : Int) by omega]; exact atI_at (by omega)
          have hsucc := lastJ_succ xss p j
          refine ⟨_, rfl, _, rfl, a, _, _, _, rfl, rfl, SqL.of (seH _ _ eac), hix, _, rfl, _, rfl, _, _, rfl, rfl, _, _, rfl, rfl, l, _, _, _, rfl, rfl, SqL.of ele, h1, ?_⟩
          refine ⟨_, rfl, _, rfl, a, _, _, _, rfl, rfl, SqL.of (seH _ _ eac), hix, _, rfl, _, rfl, _, _, rfl, rfl, l, _, _, _, rfl, rfl, SqL.of ele, h2, rfl, _, rfl, ite2 (fun z => ?_) (fun z => ?_)⟩
          · have hz : atT xss j (p - j) = atT xss j (p - j + 1) := by
              have := of_decide_eq_true z
              injection this with this
              exact this.symm
            rw [if_pos hz] at hsucc
            refine ⟨_, rfl, _, rfl, ro, _, _, _, rfl, rfl, SqL.of eroe, by rw [Int.zero_add]; exact atI_at (by omega), ?_⟩
            refine ⟨some (.int ((0 : Int) + (j : Int))), ?_, se, eroe⟩
            rw [hsucc]
            unfold nmT
            rw [if_neg (show ¬ ((j : Nat) : Int) = -1 by omega), Int.toNat_natCast]; rfl
          · have hz : ¬ atT xss j (p - j) = atT xss j (p - j + 1) := fun y => z (by rw [y]; exact decide_eq_true rfl)
            rw [if_neg hz] at hsucc
            refine ⟨some (.int ((0 : Int) + (j : Int))), ?_, se, eroe⟩
            rw [hsucc]; rfl
        · rintro σ He ⟨v2, rfl, se, eroe⟩
          rw [show ((0 : Int) + (p : Int)).toNat = p by omega, lastJ_T]
          refine ⟨_, rfl, .inl ⟨rfl, _, SqL.of eroe⟩, _, rfl, ro, _, _, rfl, rfl, eroe, small1000 (by rw [len_int]; omega), ?_⟩
          refine ⟨_, _, _, rfl, se.trans (off_x SameX.of_upd), ?_⟩
          rw [upd_same]
          show _ = some (HO.lst ((rowN xss p ++ [nmT (lastT xss p) (rowN xss p)]).map V.int))
          rw [List.map_append]; rfl
      · rintro σ Hd ⟨v2, v4, v5, rfl, sd, ero⟩
        rw [Int.toNat_natCast] at ero
        have hrl := rowN_len xss n'
        have sdH := sd.trans (off_same _ _)
        refine ⟨_, rfl, ro, rowN xss n', rfl, SqL.of ero, by omega, fun pl H5 npl s5 epl => ⟨by show 2 ≤ sizeLine; decide, fun ll nll => ?_⟩⟩
        have s6 := s5.trans (Same.new (o := .lst [.non, .ref pl]) nll)
        have ell : upd H5 ll (.lst [.non, .ref pl]) ll = some (.lst [.non, .ref pl]) := upd_same
        have epl6 := Same.new (o := .lst [.non, .ref pl]) nll _ _ epl
        generalize upd H5 ll (.lst [.non, .ref pl]) = H6 at s6 ell epl6 ⊢
        refine ⟨_, rfl, ro, rowN xss n', rfl, SqL.of (s6 _ _ ero), by omega, fun S as H7 nS s7 eS hal hat => ?_⟩
        have s07 := sdH.trans (s6.trans s7)
        have sH7 := sc.trans s07
        refine ⟨_, rfl, eqLL eS (s07 _ _ eac) (LstsAt.tab hal fun f l h => (hat f l h).2) (ltc.same s07) (.inr ⟨_, rfl, ?_⟩)⟩
        by_cases he : tabM (rowN xss n') = xss
        · rw [decide_eq_true he]
          refine ⟨ll, _, _, .ref pl, rfl, rfl, SqL.of (s7 _ _ ell), rfl, ?_⟩
          rw [← he] at lt
          exact qy a ts (rowN xss n') rfl ea lt (by omega) pl H7 (sc.free (sdH.free npl)) sH7 (s7 _ _ epl6)
        · rw [decide_eq_false he]
          refine ⟨ll, _, _, .non, rfl, rfl, SqL.of (s7 _ _ ell), rfl, ?_⟩
          refine qn (.inr ⟨a, ts, xss, n', rfl, ea, lt, hf, by omega, fun ns e => he ?_⟩) H7 sH7
          have hnl : ns.length = n' := by have := hf.1; rw [e, tab_len] at this; omega
          rw [e, ← hnl, rowN_plain, tab_plain]
end
abbrev st_law_asked : Stmt := top 31
section
variable {P : Program} {w : World} {K : PySem.W.Frag} {mg : Str → Option Value} {base : Heap} {r cNoTable cNoCommand cNoNeeds cNoPlace cNoRow cNoWindow : Addr}
open My
theorem len4 : ∀ {σ : St}, σ.length = 4 → ∃ a b c d, σ = [a, b, c, d]
  | [a, b, c, d], _ => ⟨a, b, c, d, rfl⟩
theorem sc_law_asked : FnScope ["thing", "found", "kinds", "e"] ["thing"] (defScope st_law_asked) := ⟨rfl, rfl, rfl, by decide +kernel, rfl, by decide +kernel, by decide +kernel⟩
theorem ok_law_asked {f : Addr} {fd : FuncData} (B : Blt mg) (xRowError : XCl K mg "RowError" r) (xNoTable : XOwn K mg "NoTable" cNoTable r [cNoCommand, cNoNeeds, cNoPlace, cNoRow, cNoWindow]) (bNoCommand : mg "NoCommand" = some (.ref cNoCommand)) (bNoNeeds : mg "NoNeeds" = some (.ref cNoNeeds)) (bNoPlace : mg "NoPlace" = some (.ref cNoPlace))
    (bNoRow : mg "NoRow" = some (.ref cNoRow)) (bNoWindow : mg "NoWindow" = some (.ref cNoWindow)) (bValueError : mg "ValueError" = none) (F : Fun K "_law_asked" "_law_asked" st_law_asked f fd) (hErow_of_table : HasE P w K mg base "row_of_table" 4 ["thing"] (spOr spRowTab (spOr (spRowTabN cNoTable) (spRowTabA cNoTable)))) : FnOk P w K mg base CX0 5 f fd ["thing"] spAskedT := by
  refine F.ok sc_law_asked (fun vs H Q E h => ?_) (fun cdv A outer s H vs Q E hr h => ?_)
  · obtain ⟨v, rfl, _⟩ := h
    rfl
  · obtain ⟨v, rfl, t, qn, qy⟩ := h
    have hu := hr.units0
    have bNoTable := xNoTable.cl.bound
    refine ⟨_, (pss_cons (ps_set (i := 1) sc_law_asked.nd rfl (Or.inl rfl) pe_non)
  (pss_cons (ps_set (i := 2) sc_law_asked.nd rfl (Or.inl rfl) (pe_lst pa_nil))
  (pss_cons (ps_tryB (i := 3) xRowError (by rfl) rfl rfl sc_law_asked.nd rfl rfl rfl (fun _ _ _ hx => (pss_one (ps_set (i := 1) sc_law_asked.nd rfl (Or.inl rfl) (pe_callE hErow_of_table hx (hr.mono (by decide)) (by rfl) (pa_cons (pv 0) pa_nil))))) (fun _ => (pss_cons (ps_set (i := 2) sc_law_asked.nd rfl (Or.inl rfl) (pe_lst (pa_cons (pe_callB (isiX (K := K) rfl) (by rfl) B.isinstance boot_isinst' (pa_cons (pv 3) (pa_cons (pe_glob (v := .ref cNoTable) (by rfl) bNoTable rfl) pa_nil))) (pa_cons (pe_callB (isiX (K := K) rfl) (by rfl) B.isinstance boot_isinst' (pa_cons (pv 3) (pa_cons (pe_bltn (v := .ty "ValueError") (by rfl) bValueError boot_ValueError' (by rfl)) pa_nil))) pa_nil))))
  (pss_one (ps_expr (pe_bmK (K := K) rfl PySem.F.plainAttrs_list PySem.F.slot_list_append PySem.F.type_list_append mt_append (pv 2) (pa_cons (pe_callB (isiX (K := K) rfl) (by rfl) B.isinstance boot_isinst' (pa_cons (pv 3) (pa_cons (pe_tup (pa_cons (pe_glob (v := .ref cNoCommand) (by rfl) bNoCommand rfl) (pa_cons (pe_glob (v := .ref cNoNeeds) (by rfl) bNoNeeds rfl) (pa_cons (pe_glob (v := .ref cNoPlace) (by rfl) bNoPlace rfl) (pa_cons (pe_glob (v := .ref cNoRow) (by rfl) bNoRow rfl) (pa_cons (pe_glob (v := .ref cNoWindow) (by rfl) bNoWindow rfl) pa_nil)))))) pa_nil))) pa_nil)))))))
  (pss_cons (ps_if (pt_cmpR (neLK (K := K) rfl hu) (pv 2) (pe_lst pa_nil) (nomark _))
  (pss_one (ps_ret (pe_cmpR (eqLK (K := K) rfl hu) (pv 2) (pe_lst (pa_cons pe_bl (pa_cons pe_bl (pa_cons pe_bl pa_nil)))) (nomark _))))
  pss_nil)
  (pss_one (ps_ret (pv 1))))))), ?_⟩
    refine ⟨by show 0 ≤ sizeLine; decide, fun k0 nk0 => ?_⟩
    have sk := Same.new (o := .lst []) nk0
    have ek0 : upd H k0 (.lst []) k0 = some (.lst []) := upd_same
    generalize upd H k0 (.lst []) = H0 at sk ek0 ⊢
    dsimp only [tSeq, tAsg, tC, gName]
    refine tTryB_of fun EX hEX => ?_
    have ex : NoTab H v → ∀ H1, Same H0 H1 → EX (.ref cNoTable) none H1 := fun hno H1 s0 => hEX _ _ _ ⟨cNoTable, rfl, xNoTable.cl.exc, xNoTable.up, fun σ' ea hl he => by
      obtain ⟨a0, a1, a2, a3, rfl⟩ := len4 hl
      have s1 := Same.new (o := excO ea cNoTable) he
      refine ⟨_, rfl, ea, cNoTable, _, true, rfl, upd_same, xNoTable.at_, .inl ⟨_, rfl, xNoTable.self⟩, ?_⟩
      refine ⟨_, rfl, ea, cNoTable, _, true, rfl, upd_same, xNoTable.at_, .inr (.inl ⟨_, rfl, xNoTable.val⟩), by show 2 ≤ sizeLine; decide, fun kd nkd => ?_⟩
      have s2 := Same.new (o := .lst [.bl true, .bl true]) nkd
      have ek : upd (upd H1 ea (excO ea cNoTable)) kd (.lst [.bl true, .bl true]) kd = some (.lst [.bl true, .bl true]) := upd_same
      have ee := s2 _ _ (upd_same (H := H1) (a := ea) (o := excO ea cNoTable))
      have s12 := s1.trans s2
      generalize upd (upd H1 ea (excO ea cNoTable)) kd (.lst [.bl true, .bl true]) = H2 at ek ee s12 ⊢
      refine ⟨_, rfl, .inl ⟨rfl, _, SqL.of ek⟩, _, rfl, by show 5 ≤ sizeLine; decide, fun tp ntp => ?_⟩
      have s3 := Same.new (o := .tup ([cNoCommand, cNoNeeds, cNoPlace, cNoRow, cNoWindow].map V.ref)) ntp
      refine ⟨ea, cNoTable, _, false, rfl, s3 _ _ ee, xNoTable.at_, .inr (.inr ⟨tp, _, rfl, upd_same, xNoTable.any fun d h => h⟩), kd, _, _, rfl, rfl, s3 _ _ ek, small1000 (by show 2 ≤ 1000; decide), ?_⟩
      have nkH : H kd = none := sk.free (s0.free (s1.free nkd))
      have ek4 : upd (upd H2 tp (.tup ([cNoCommand, cNoNeeds, cNoPlace, cNoRow, cNoWindow].map V.ref))) kd (.lst ([.bl true, .bl true] ++ [.bl false])) kd = some (.lst [.bl true, .bl true, .bl false]) := upd_same
      have sH4 : Same H (upd (upd H2 tp (.tup ([cNoCommand, cNoNeeds, cNoPlace, cNoRow, cNoWindow].map V.ref))) kd (.lst ([.bl true, .bl true] ++ [.bl false]))) := fun b o e => by
        rw [upd_ne (ne_of_none e nkH)]
        exact s3 _ _ (s12 _ _ (s0 _ _ (sk _ _ e)))
      refine ⟨_, rfl, by show 0 ≤ sizeLine; decide, fun z nz => neNil (SqL.of (Same.new nz _ _ ek4)) (SqL.of upd_same) ⟨_, rfl, iteT ?_⟩⟩
      refine ⟨_, rfl, by show 3 ≤ sizeLine; decide, fun l2 nl2 => ?_⟩
      have s5 := (Same.new (o := .lst []) nz).trans (Same.new (o := .lst [.bl true, .bl true, .bl false]) nl2)
      exact ⟨kd, l2, _, _, rfl, rfl, SqL.of (s5 _ _ ek4), SqL.of upd_same, fun _ => ⟨rfl, rfl⟩, qn hno _ (sH4.trans s5)⟩⟩
    rcases tab_or t with hno | ⟨a, ts, ns, rfl, ea, lt, hn⟩
    · have ex' := ex hno
      rcases NoTab.same t sk hno with hf | ⟨a, ts, xss, n, rfl, ea, lt, hf, hn, hns⟩
      · exact ⟨_, rfl, .inr (.inr ⟨v, rfl, t.same sk, hf, ex'⟩)⟩
      · exact ⟨_, rfl, .inr (.inl ⟨a, ts, xss, n, rfl, ea, lt, hf, hn, hns, ex'⟩)⟩
    · refine ⟨_, rfl, .inl ⟨a, ts, ns, rfl, sk _ _ ea, lt.same sk, hn, fun l H' nl s' el => ?_⟩⟩
      refine ⟨_, rfl, by show 0 ≤ sizeLine; decide, fun z nz => neNil (SqL.of (Same.new nz _ _ (s' _ _ ek0))) (SqL.of upd_same) ⟨_, rfl, iteF ?_⟩⟩
      exact ⟨_, rfl, qy a ts ns rfl ea lt hn l _ (sk.free nl) ((sk.trans s').trans (Same.new nz)) (Same.new nz _ _ el)⟩
end
abbrev st_law_right : Stmt := top 32
section
variable {P : Program} {w : World} {K : PySem.W.Frag} {mg : Str → Option Value} {base : Heap}
open My
theorem bTt {Q : VK} {H : Hp} {c : Prop} [Decidable c] (q : Q (.bl true) H) (hc : c := by rfl) : Q (.bl (decide c)) H := by rw [decide_eq_true hc]; exact q
theorem sc_law_right : FnScope ["thing", "due", "found"] ["thing"] (defScope st_law_right) := ⟨rfl, rfl, rfl, by decide +kernel, rfl, by decide +kernel, by decide +kernel⟩
theorem ok_law_right {f : Addr} {fd : FuncData} (B : Blt mg) (F : Fun K "_law_right" "_law_right" st_law_right f fd) (h_law_row_of : Has P w K mg base "_law_row_of" 2 ["thing"] spRowOfA) (h_law_asked : Has P w K mg base "_law_asked" 5 ["thing"] spAskedT) : FnOk P w K mg base CX0 6 f fd ["thing"] spRightT := by
  refine F.ok sc_law_right (fun vs H Q E h => ?_) (fun cdv A outer s H vs Q E hr h => ?_)
  · obtain ⟨v, rfl, _⟩ := h
    rfl
  · obtain ⟨v, rfl, t, q⟩ := h
    have hu := hr.units0
    refine ⟨_, (pss_cons (ps_set (i := 1) sc_law_right.nd rfl (Or.inl rfl) (pe_callH h_law_row_of (hr.mono (by decide)) (by rfl) (pa_cons (pv 0) pa_nil)))
  (pss_cons (ps_set (i := 2) sc_law_right.nd rfl (Or.inl rfl) (pe_callH h_law_asked (hr.mono (by decide)) (by rfl) (pa_cons (pv 0) pa_nil)))
  (pss_cons (ps_if (pt_cmpR op_isN (pv 1) pe_non (nomark _))
  (pss_one (ps_ret (pe_cmpR op_isB (pv 2) pe_bl (nomark _))))
  pss_nil)
  (pss_one (ps_ret (pe_and (pe_callB (isiK (K := K) rfl) (by rfl) B.isinstance boot_isinst' (pa_cons (pv 2) (pa_cons (pe_bltn (v := .ty "list") (by rfl) B.list boot_list' (by rfl)) pa_nil))) (pe_one (pe_cmpR op_eq (pe_callB (call_repr_ints hr) (by rfl) B.repr boot_repr' (pa_cons (pv 2) pa_nil)) (pe_callB (call_repr_ints hr) (by rfl) B.repr boot_repr' (pa_cons (pv 1) pa_nil)) (nomark _))))))))), ?_⟩
    rcases tab_or t with hno | ⟨a, ts, ns, rfl, ea, lt, hn⟩
    · refine ⟨_, rfl, v, rfl, t, fun _ H1 s1 => ?_, fun a ts ns e ea lt hn => ?_⟩
      · refine ⟨_, rfl, v, rfl, t.same s1, fun _ H2 s2 => ?_, fun a ts ns e ea lt hn => ?_⟩
        · exact ⟨_, rfl, rfl, _, rfl, iteT ⟨_, rfl, true, true, rfl, rfl, q H2 (s1.trans s2)⟩⟩
        · exact (noTab_tab (hno.same t s1) e ea lt).elim
      · exact (noTab_tab hno e ea lt).elim
    · refine ⟨_, rfl, .ref a, rfl, t, fun hno => (noTab_tab hno rfl ea lt).elim, fun a' ts' ns' e ea' lt' hn' l1 H1 n1 s1 e1 => ?_⟩
      injection e with e
      subst e
      have ets : ts = ts' := by rw [ea] at ea'; injection ea' with z; injection z with z; exact (List.map_inj_right (fun x y h => by injection h)).mp z
      subst ets
      have ex := lsts_eq lt lt'
      refine ⟨_, rfl, .ref a, rfl, t.same s1, fun hno => (noTab_tab hno rfl (s1 _ _ ea) (lt.same s1)).elim, fun a2 ts2 ns2 e2 ea2 lt2 hn2 l2 H2 n2 s2 e3 => ?_⟩
      injection e2 with e2
      subst e2
      have ets2 : ts = ts2 := by rw [s1 _ _ ea] at ea2; injection ea2 with z; injection z with z; exact (List.map_inj_right (fun x y h => by injection h)).mp z
      subst ets2
      have ex2 := lsts_eq (lt.same s1) lt2
      have hp1 : plainM ns = plainM ns' := tab_iff.mp ex
      have hp2 : plainM ns = plainM ns2 := tab_iff.mp ex2
      have hps := plain_small (ns := ns) (by omega)
      rw [← hp1] at e1
      rw [← hp2] at e3
      have hpl := My.plain_len ns
      refine ⟨_, rfl, rfl, _, rfl, iteF ?_⟩
      refine ⟨_, rfl, _, "list", _, _, rfl, .lst e3, kit_same, _, rfl, iteT ?_⟩
      exact ⟨_, rfl, l2, _, rfl, e3, by omega, hps, _, rfl, l1, _, rfl, s2 _ _ e1, by omega, hps, rfl, bTt (q H2 (s1.trans s2))⟩
end
/-! ### a purse of numbers -/
abbrev st_law_mixed : Stmt := top 22
abbrev st_law_purse : Stmt := top 23
abbrev st_law_next : Stmt := top 24
abbrev st_law_value : Stmt := top 25
section
variable {P : Program} {w : World} {K : PySem.W.Frag} {mg : Str → Option Value} {base : Heap}
theorem sc_law_mixed : FnScope ["cell", "k", "number"] ["cell", "k"] (defScope st_law_mixed) := ⟨rfl, rfl, rfl, by decide +kernel, rfl, by decide +kernel, by decide +kernel⟩
theorem ok_law_mixed {f : Addr} {fd : FuncData} (F : Fun K "_law_mixed" "_law_mixed" st_law_mixed f fd) : FnOk P w K mg base CX0 1 f fd ["cell", "k"] spMixed := by
  refine F.ok sc_law_mixed (fun vs H Q E h => ?_) (fun cdv A outer s H vs Q E hr h => ?_)
  · obtain ⟨c, k, rfl, _⟩ := h
    rfl
  · obtain ⟨c, k, rfl, q⟩ := h
    refine ⟨_, (pss_cons (ps_set (i := 2) sc_law_mixed.nd rfl (Or.inl rfl) (pe_op op_mod (pe_op op_add (pe_op op_mod (pv 0) pe_int) (pe_op op_mul pe_int (pe_op op_add (pv 1) pe_int))) pe_int))
  (pss_cons (ps_set (i := 2) sc_law_mixed.nd rfl (Or.inl rfl) (pe_op op_mod (pe_op op_add (pe_op op_add (pe_op op_mul (pv 2) (pv 2)) (pe_op op_mul pe_int (pv 2))) (pv 1)) pe_int))
  (pss_cons (ps_set (i := 2) sc_law_mixed.nd rfl (Or.inl rfl) (pe_op op_mod (pe_op op_mul (pv 2) (pv 2)) pe_int))
  (pss_one (ps_ret (pe_op op_fdiv (pe_op op_mod (pe_op op_mul (pv 2) pe_int) pe_int) pe_int)))))), ?_⟩
    refine ⟨_, rfl, _, _, rfl, rfl, (show (0 : Int) < 2147483647 by decide), _, rfl, _, _, rfl, rfl, _, _, rfl, rfl, .inl ⟨by decide, by decide⟩, _, _, rfl, rfl, _, _, rfl, rfl, (show (0 : Int) < 2147483647 by decide), ?_⟩
    have b0 : 0 ≤ (c % 2147483647 + 40692 * (k + 1)) % 2147483647 ∧ (c % 2147483647 + 40692 * (k + 1)) % 2147483647 < 2147483647 := ⟨Int.emod_nonneg _ (by decide), Int.emod_lt_of_pos _ (by decide)⟩
    dsimp only [List.set]
    generalize (c % 2147483647 + 40692 * (k + 1)) % 2147483647 = n at b0
    refine ⟨_, rfl, _, rfl, _, _, rfl, rfl, .inl ⟨by omega, by omega⟩, _, rfl, _, _, rfl, rfl, .inl ⟨by decide, by decide⟩, _, _, rfl, rfl, _, rfl, _, _, rfl, rfl, _, _, rfl, rfl, (show (0 : Int) < 2147483647 by decide), ?_⟩
    have b1 : 0 ≤ (n * n + 48271 * n + k) % 2147483647 ∧ (n * n + 48271 * n + k) % 2147483647 < 2147483647 := ⟨Int.emod_nonneg _ (by decide), Int.emod_lt_of_pos _ (by decide)⟩
    dsimp only [List.set]
    generalize (n * n + 48271 * n + k) % 2147483647 = n1 at b1
    refine ⟨_, rfl, _, rfl, _, _, rfl, rfl, .inl ⟨by omega, by omega⟩, _, _, rfl, rfl, (show (0 : Int) < 2147483629 by decide), ?_⟩
    have b2 : 0 ≤ n1 * n1 % 2147483629 ∧ n1 * n1 % 2147483629 < 2147483629 := ⟨Int.emod_nonneg _ (by decide), Int.emod_lt_of_pos _ (by decide)⟩
    dsimp only [List.set]
    generalize n1 * n1 % 2147483629 = n2 at b2
    refine ⟨_, rfl, _, _, rfl, rfl, .inl ⟨by omega, by omega⟩, _, _, rfl, rfl, (show (0 : Int) < 2147483629 by decide), _, _, rfl, rfl, ⟨by decide, by decide⟩, q _ ?_⟩
    have := Int.emod_nonneg (n2 * 69621) (show (2147483629 : Int) ≠ 0 by decide)
    omega
theorem sc_law_purse : FnScope ["script", "at", "step", "many", "cells", "rests", "purse", "k", "place"] ["script", "at", "step", "many"] (defScope st_law_purse) := ⟨rfl, rfl, rfl, by decide +kernel, rfl, by decide +kernel, by decide +kernel⟩
theorem b01 (b : Bool) : -(2 ^ 64) < (if b = true then (1 : Int) else 0) ∧ (if b = true then (1 : Int) else 0) < 2 ^ 64 := by cases b <;> decide
def restM (c : Int) : Int := (if c < 0 then -c else c) * (if decide ((10 : Int) ^ (18 : Int).toNat ≤ if c < 0 then -c else c) = true then 1 else 0)
def restV : V → V
  | .int c => .int (restM c)
  | _ => .non
theorem rest_map (cs : List Int) : ((cs.map V.int).filter fun _ => true).map restV = (cs.map restM).map V.int := by
  rw [List.filter_eq_self.mpr (fun _ _ => rfl), List.map_map, List.map_map]; rfl
theorem rest_nn (c : Int) : 0 ≤ restM c := by
  unfold restM
  refine Int.mul_nonneg ?_ ?_
  · split <;> omega
  · generalize decide ((10 : Int) ^ (18 : Int).toNat ≤ if c < 0 then -c else c) = b
    cases b <;> decide
theorem ok_law_purse {f : Addr} {fd : FuncData} (B : Blt mg) (F : Fun K "_law_purse" "_law_purse" st_law_purse f fd) (h_law_mixed : Has P w K mg base "_law_mixed" 1 ["cell", "k"] spMixed) : FnOk P w K mg base CX0 2 f fd ["script", "at", "step", "many"] (spPurse K) := by
  refine F.ok sc_law_purse (fun vs H Q E h => ?_) (fun cdv A outer s H vs Q E hr h => ?_)
  · obtain ⟨a, ns, i, c, m, rfl, _⟩ := h
    rfl
  · obtain ⟨a, ns, i, c, m, rfl, hq, hn, hc, hm, q⟩ := h
    have hu := hr.units0
    have hs : sizeLine = 16777216 := sizeLine_eq
    refine ⟨_, (pss_cons (ps_set (i := 4) sc_law_purse.nd rfl (Or.inl rfl) (pe_slice3 (K := K) rfl (pv 0) (pv 1) pe_int (pv 2)))
  (pss_cons (ps_if (pt_cmpR (eqLK (K := K) rfl hu) (pv 4) (pe_lst pa_nil) (nomark _))
  (pss_one (ps_set (i := 4) sc_law_purse.nd rfl (Or.inl rfl) (pe_lst (pa_cons (pv 1) pa_nil))))
  pss_nil)
  (pss_cons (ps_setLc (i := 5) (own := ["cell"]) (ix := []) (N := ["cell"]) rfl sc_law_purse.nd rfl rfl (LcOk.of (by rfl)) (piK (K := K) rfl (pv 4)) (fun _ _ _ _ _ => (pg_name (i := 0) (show (["cell"] : List Str).Nodup by decide +kernel) rfl (by first | exact Or.inl rfl | exact Or.inr rfl))) (fun _ _ _ _ _ => pts_nil) (fun _ _ _ _ _ => (pe_op op_mul (pe_callB call_abs (by rfl) B.abs boot_abs' (pa_cons (pv 0) pa_nil)) (pe_callTy call_int1 (by rfl) B.int boot_int' (pa_cons (pe_cmpR op_ge (pe_callB call_abs (by rfl) B.abs boot_abs' (pa_cons (pv 0) pa_nil)) (pe_op op_pow pe_int pe_int) (nomark _)) pa_nil)))))
  (pss_cons (ps_set (i := 6) sc_law_purse.nd rfl (Or.inl rfl) (pe_lst pa_nil))
  (pss_cons (ps_for PassesOwn.never rfl (pi_range1 (by rfl) B.range (pa_cons (pv 3) pa_nil)) (pg_name (i := 7) sc_law_purse.nd rfl (Or.inl rfl))
  (pss_cons (ps_set (i := 8) sc_law_purse.nd rfl (Or.inl rfl) (pe_op op_mod (pv 7) (pe_callB (lenK (K := K) rfl) (by rfl) B.len PySem.boot_len (pa_cons (pv 4) pa_nil))))
  (pss_one (ps_if (pt_cmpR op_gt (pe_ix (ixK (K := K) rfl) (pv 5) (pv 8) (fun _ _ => rfl)) pe_int (nomark _))
  (pss_cons (ps_expr (pe_bm PySem.F.plainAttrs_list PySem.F.slot_list_append PySem.F.type_list_append mt_append (pv 6) (pa_cons (pe_op op_mod (pe_ix (ixK (K := K) rfl) (pv 5) (pv 8) (fun _ _ => rfl)) pe_int) pa_nil)))
  (pss_one (ps_asg (pe_op op_fdiv (pe_ix (ixK (K := K) rfl) (pv 5) (pv 8) (fun _ _ => rfl)) pe_int) (pg_sub (pv 5) (pv 8) set_list))))
  (pss_one (ps_expr (pe_bm PySem.F.plainAttrs_list PySem.F.slot_list_append PySem.F.type_list_append mt_append (pv 6) (pa_cons (pe_callH h_law_mixed (hr.mono (by decide)) (by rfl) (pa_cons (pe_ix (ixK (K := K) rfl) (pv 4) (pv 8) (fun _ _ => rfl)) (pa_cons (pe_op op_fdiv (pv 7) (pe_callB (lenK (K := K) rfl) (by rfl) B.len PySem.boot_len (pa_cons (pv 4) pa_nil))) pa_nil))) pa_nil))))))))
  (pss_one (ps_ret (pe_listRev (K := K) rfl rfl (by rfl) B.reversed (by rfl) B.list (pa_cons (pv 6) pa_nil))))))))), ?_⟩
    refine ⟨_, rfl, _, rfl, i, rfl, _, rfl, _, rfl, c, a, _, rfl, hc, rfl, hq, fun p1 h1 hle => ?_⟩
    obtain ⟨cs, ecs⟩ := My.ints_of (ys := pick3 (ns.map V.int) i 126 c) fun y hy => by
      obtain ⟨z, _, e⟩ := List.mem_map.mp (pick3_mem hy); exact ⟨z, e.symm⟩
    rw [ecs] at hle ⊢
    rw [len_int, len_int] at hle
    have s1 : Same H (upd H p1 (.lst (cs.map V.int))) := Same.new h1
    have e1 : upd H p1 (.lst (cs.map V.int)) p1 = some (.lst (cs.map V.int)) := upd_same
    generalize upd H p1 (.lst (cs.map V.int)) = H1 at s1 e1 ⊢
    refine ⟨_, rfl, by show 0 ≤ sizeLine; decide, fun p2 h2 => ?_⟩
    refine eqNil (SqL.of (Same.new h2 _ _ e1)) (SqL.of upd_same) ⟨_, rfl, ?_⟩
    have s2 : Same H (upd H1 p2 (.lst [])) := s1.trans (Same.new h2)
    have e2 : upd H1 p2 (.lst []) p1 = some (.lst (cs.map V.int)) := Same.new h2 _ _ e1
    generalize upd H1 p2 (.lst []) = H2 at s2 e2 ⊢
    clear s1 e1 h2
    refine ite2 (fun z => ?A) (fun z => ?B)
    case' A =>
      refine ⟨_, rfl, by show 1 ≤ sizeLine; decide, fun p3 h3 => ?_⟩
      have s3 : Same H (upd H2 p3 (.lst [.int i])) := s2.trans (Same.new h3)
      have e3 : upd H2 p3 (.lst [.int i]) p3 = some (.lst (([i] : List Int).map V.int)) := upd_same
      have hpos : 0 < ([i] : List Int).length := Nat.zero_lt_one
      have hle3 : ([i] : List Int).length ≤ 63 := by show 1 ≤ 63; decide
      have h3H : H p3 = none := s2.free h3
      clear h3 s2 e2 hle ecs h1
      revert e3 hpos hle3 h3H s3
      generalize upd H2 p3 (.lst [.int i]) = H3
      generalize ([i] : List Int) = ds
      intro s3 e3 hpos hle3 h3H
    case' B =>
      have s3 := s2
      have e3 := e2
      have hpos : 0 < cs.length := by
        cases cs with
        | nil => exact absurd (decide_eq_true rfl) z
        | cons x r => exact Nat.succ_pos _
      have hle3 : cs.length ≤ 63 := by omega
      have h3H : H p1 = none := h1
      clear s2 e2 h1 ecs hle
      revert e3 hpos hle3 h3H s3
      generalize H2 = H3
      generalize p1 = p3
      generalize cs = ds
      intro s3 e3 hpos hle3 h3H
    all_goals
      clear z
      refine ⟨_, rfl, p3, rfl, ⟨_, SqL.of e3⟩, fun D hD => ?_⟩
      refine lc_list_ev (cap := []) (xs := ds.map V.int) (fun _ => true) restV (small1000 (by rw [len_int]; omega)) hD (SqL.of e3) (fun x H' hx s' => evYes) (fun x H' hx _ s' Q' k => ?_) (fun H4 s4 e4 => ?_)
      · obtain ⟨n, _, rfl⟩ := List.mem_map.mp hx
        refine ⟨_, rfl, _, rfl, _, rfl, _, rfl, _, _, rfl, rfl, ⟨by decide, by decide, by decide⟩, _, _, rfl, rfl, .inr ⟨_, rfl, _, _, rfl, rfl, .inr (b01 _), k H' (Same.refl _)⟩⟩
      rw [rest_map] at e4
      have hDH : H D = none := s3.free hD
      have s34 := s3.trans s4
      have e34 := s4 _ _ e3
      have hrs : (ds.map restM).length = ds.length := List.length_map _
      have hrn : ∀ x ∈ ds.map restM, 0 ≤ x := fun x hx => by obtain ⟨y, _, rfl⟩ := List.mem_map.mp hx; exact rest_nn y
      have nD3 : D ≠ p3 := (ne_of_none e3 hD).symm
      clear hD s4 s3 e3
      generalize ds.map restM = rs at e4 hrs hrn
      refine ⟨by show 0 ≤ sizeLine; decide, fun U hU => ?_⟩
      have hUH : H U = none := s34.free hU
      have nUD : U ≠ D := (ne_of_none e4 hU).symm
      have nU3 : U ≠ p3 := (ne_of_none e34 hU).symm
      refine ⟨_, rfl, _, rfl, by omega, by omega, for_range (fun k σ Hc => ∃ (v7 v8 : Option V) (rs ps : List Int), σ = [some (.ref a), some (.int i), some (.int c), some (.int m), some (.ref p3), some (.ref D), some (.ref U), v7, v8] ∧ Same H Hc ∧ Hc p3 = some (.lst (ds.map V.int)) ∧
        Hc D = some (.lst (rs.map V.int)) ∧ rs.length = ds.length ∧ (∀ x ∈ rs, 0 ≤ x) ∧ Hc U = some (.lst (ps.map V.int)) ∧ ps.length = k ∧ ∀ x ∈ ps, 0 ≤ x) ⟨none, none, rs, [], rfl, s34.trans (Same.new hU), Same.new hU _ _ e34, Same.new hU _ _ e4, hrs, hrn, upd_same, rfl, fun x hx => by simp at hx⟩ ?_ ?_⟩
      · rintro k σ Hc hk ⟨v7, v8, rs, ps, rfl, sc, ec, er, hrl, hrn, eu, hpl, hpn⟩
        have hlpos : (0 : Int) < (ds.map V.int).length := by rw [len_int]; omega
        have m0 := Int.emod_nonneg ((0 : Int) + (k : Int)) (Int.ne_of_gt hlpos)
        have m1 := Int.emod_lt_of_pos ((0 : Int) + (k : Int)) hlpos
        refine ⟨_, rfl, _, rfl, p3, _, rfl, .inl (SqL.of ec), _, _, rfl, rfl, hlpos, ?_⟩
        dsimp only [List.set]
        generalize ((0 : Int) + (k : Int)) % ((ds.map V.int).length : Int) = pl at m0 m1
        rw [len_int] at m1
        refine ⟨_, rfl, _, rfl, D, _, pl, _, rfl, rfl, SqL.of er, atI_int m0 (by omega), _, _, rfl, rfl, _, rfl, ?_⟩
        have hx0 : 0 ≤ rs.getD pl.toNat 0 := getD_all (R := fun x : Int => 0 ≤ x) hrn (by omega)
        refine ite2 (fun _ => ?_) (fun _ => ?_)
        · refine ⟨_, rfl, .inl ⟨rfl, _, SqL.of eu⟩, _, rfl, _, rfl, D, _, pl, _, rfl, rfl, SqL.of er, atI_int m0 (by omega), _, _, rfl, rfl, (show (0 : Int) < 1000003 by decide), U, _, _, rfl, rfl, eu, small1000 (by rw [len_int]; omega), ?_⟩
          refine ⟨_, rfl, _, rfl, D, _, pl, _, rfl, rfl, SqL.of (by rw [upd_ne nUD.symm]; exact er), atI_int m0 (by omega), _, _, rfl, rfl, ⟨by decide, by decide⟩, _, rfl, _, rfl, D, _, _, pl.toNat, rfl, rfl, by rw [upd_ne nUD.symm]; exact er, ixN_int m0 (by rw [len_int]; omega), ?_⟩
          refine ⟨_, _, rs.set pl.toNat (rs.getD pl.toNat 0 / 1000003), ps ++ [rs.getD pl.toNat 0 % 1000003], rfl, ?_, ?_, ?_, by rw [List.length_set]; exact hrl, ?_, ?_, by rw [List.length_append, hpl]; rfl, ?_⟩
          · intro b o z
            rw [upd_ne (ne_of_none z hDH), upd_ne (ne_of_none z hUH)]; exact sc b o z
          · rw [upd_ne nD3.symm, upd_ne nU3.symm]; exact ec
          · rw [upd_same, List.map_set]
          · intro x hx
            rcases List.mem_or_eq_of_mem_set hx with z | z
            · exact hrn x z
            · rw [z]; omega
          · rw [upd_ne nUD, upd_same, List.map_append]; rfl
          · intro x hx
            rcases List.mem_append.mp hx with z | z
            · exact hpn x z
            · rw [List.mem_singleton.mp z]; exact Int.emod_nonneg _ (by decide)
        · refine ⟨_, rfl, .inl ⟨rfl, _, SqL.of eu⟩, _, rfl, _, rfl, p3, _, pl, _, rfl, rfl, SqL.of ec, atI_int m0 (by omega), _, rfl, _, rfl, p3, _, rfl, .inl (SqL.of ec), _, _, rfl, rfl, ⟨hlpos, by rw [len_int]; omega⟩, _, _, rfl, fun r hr0 => ⟨U, _, _, rfl, rfl, eu, small1000 (by rw [len_int]; omega), ?_⟩⟩
          refine ⟨_, _, rs, ps ++ [r], rfl, ?_, ?_, ?_, hrl, hrn, ?_, by rw [List.length_append, hpl]; rfl, ?_⟩
          · intro b o z
            rw [upd_ne (ne_of_none z hUH)]; exact sc b o z
          · rw [upd_ne nU3.symm]; exact ec
          · rw [upd_ne nUD.symm]; exact er
          · rw [upd_same, List.map_append]; rfl
          · intro x hx
            rcases List.mem_append.mp hx with z | z
            · exact hpn x z
            · rw [List.mem_singleton.mp z]; exact hr0
      · rintro σ Hc ⟨v7, v8, rs, ps, rfl, sc, ec, er, hrl, hrn, eu, hpl, hpn⟩
        refine ⟨_, rfl, U, _, rfl, SqL.of eu, fun l nl => ?_⟩
        refine q l _ (sc.free nl) (sc.trans (Same.new nl)) ⟨ps.reverse, by rw [upd_same, List.map_reverse], by rw [List.length_reverse]; omega, fun x hx => hpn x (List.mem_reverse.mp hx)⟩
theorem sc_law_next : FnScope ["purse"] ["purse"] (defScope st_law_next) := ⟨rfl, rfl, rfl, by decide +kernel, rfl, by decide +kernel, by decide +kernel⟩
theorem ok_law_next {f : Addr} {fd : FuncData} (B : Blt mg) (F : Fun K "_law_next" "_law_next" st_law_next f fd) : FnOk P w K mg base CX0 1 f fd ["purse"] spNext := by
  refine F.ok sc_law_next (fun vs H Q E h => ?_) (fun cdv A outer s H vs Q E hr h => ?_)
  · obtain ⟨p, rfl, _⟩ := h
    rfl
  · obtain ⟨p, rfl, ⟨ps, ep, hpl, hpn⟩, q⟩ := h
    have hu := hr.units0
    refine ⟨_, (pss_cons (ps_if (pt_cmpR (eqLK (K := K) rfl hu) (pv 0) (pe_lst pa_nil) (nomark _))
  (pss_one (ps_ret pe_int))
  pss_nil)
  (pss_one (ps_ret (pe_bm0 PySem.F.plainAttrs_list PySem.F.slot_list_pop PySem.F.type_list_pop mt_pop (pv 0))))), ?_⟩
    refine ⟨_, rfl, by show 0 ≤ sizeLine; decide, fun p2 h2 => ?_⟩
    have e2 : upd H p2 (.lst []) p = some (.lst (ps.map V.int)) := Same.new h2 _ _ ep
    refine eqNil (SqL.of e2) (SqL.of upd_same) ⟨_, rfl, ite2 (fun z => ?_) (fun z => ?_)⟩
    · exact q 0 _ (Int.le_refl _) ⟨ps, e2, hpl, hpn⟩ (Same.new h2).x
    · have hne : ps ≠ [] := fun y => z (by rw [y]; rfl)
      have hlen : 0 < ps.length := List.length_pos_iff.mpr hne
      have hlast : (ps.map V.int)[(ps.map V.int).length - 1]? = some (.int (ps.getD (ps.length - 1) 0)) := by
        rw [len_int, List.getElem?_map, List.getD_eq_getElem?_getD, List.getElem?_eq_getElem (by omega)]; rfl
      refine ⟨_, rfl, .inl ⟨rfl, _, SqL.of e2⟩, p, _, _, rfl, rfl, e2, hlast, ?_⟩
      refine q _ _ (getD_all (R := fun x : Int => 0 ≤ x) hpn (by omega)) ⟨ps.dropLast, by rw [upd_same, List.map_dropLast], by rw [List.length_dropLast]; omega, fun x hx => hpn x ((List.dropLast_sublist ps).subset hx)⟩ ?_
      exact (Same.new h2).x.trans SameX.of_upd
theorem sc_law_value : FnScope ["way", "at"] ["way", "at"] (defScope st_law_value) := ⟨rfl, rfl, rfl, by decide +kernel, rfl, by decide +kernel, by decide +kernel⟩
theorem ok_law_value {f : Addr} {fd : FuncData} (F : Fun K "_law_value" "_law_value" st_law_value f fd) : FnOk P w K mg base CX0 1 f fd ["way", "at"] spValue := by
  refine F.ok sc_law_value (fun vs H Q E h => ?_) (fun cdv A outer s H vs Q E hr h => ?_)
  · obtain ⟨x, a, rfl, _⟩ := h
    rfl
  · obtain ⟨x, a, rfl, q⟩ := h
    refine ⟨_, (pss_cons (ps_if (pt_cmpR op_eq (pv 0) pe_int (nomark _))
  (pss_one (ps_ret (pv 1)))
  pss_nil)
  (pss_cons (ps_if (pt_cmpR op_eq (pv 0) pe_int (nomark _))
  (pss_one (ps_ret (pe_op op_sub (pe_op op_pow pe_int pe_int) (pv 1))))
  pss_nil)
  (pss_cons (ps_if (pt_cmpR op_eq (pv 0) pe_int (nomark _))
  (pss_one (ps_ret (pe_op op_mul (pe_ix (ixK (K := K) rfl) (pe_lst (pa_cons (pe_un un_neg pe_int) (pa_cons pe_int pa_nil))) (pe_op op_mod (pv 1) pe_int) (fun _ _ => rfl)) (pe_op op_add (pe_op op_pow pe_int pe_int) (pv 1)))))
  pss_nil)
  (pss_cons (ps_if (pt_cmpR op_eq (pv 0) pe_int (nomark _))
  (pss_one (ps_ret (pe_op op_sub (pv 1) pe_int)))
  pss_nil)
  (pss_one (ps_ret (pe_op op_sub (pe_op op_mul pe_int (pv 1)) (pe_op op_pow pe_int pe_int)))))))), ?_⟩
    unfold valM at q
    refine ⟨_, rfl, rfl, _, rfl, ite2 (fun z => ?_) (fun z => ?_)⟩
    · have z' : x = 0 := by simpa using z
      rw [if_pos z'] at q
      exact ⟨_, rfl, q H (Same.refl _)⟩
    have z0 : ¬ x = 0 := fun y => z (by subst y; rfl)
    rw [if_neg z0] at q
    refine ⟨_, rfl, rfl, _, rfl, ite2 (fun z => ?_) (fun z => ?_)⟩
    · have z' : x = 1 := by simpa using z
      rw [if_pos z'] at q
      exact ⟨_, _, rfl, rfl, ⟨by decide, by decide, by decide⟩, _, rfl, _, _, rfl, rfl, q H (Same.refl _)⟩
    have z1 : ¬ x = 1 := fun y => z (by subst y; rfl)
    rw [if_neg z1] at q
    refine ⟨_, rfl, rfl, _, rfl, ite2 (fun z => ?_) (fun z => ?_)⟩
    · have z' : x = 2 := by simpa using z
      rw [if_pos z'] at q
      have m0 := Int.emod_nonneg a (show (2 : Int) ≠ 0 by decide)
      have m1 := Int.emod_lt_of_pos a (show (0 : Int) < 2 by decide)
      refine ⟨_, rfl, by show 2 ≤ sizeLine; decide, fun p hp => ⟨_, rfl, _, _, rfl, rfl, (show (0 : Int) < 2 by decide), p, _, _, _, rfl, rfl, SqL.of upd_same, atI_int (ns := [-1, 1]) m0 m1, ?_⟩⟩
      have hb : -(2 ^ 64) < [-1, 1].getD (a % 2).toNat (0 : Int) ∧ [-1, 1].getD (a % 2).toNat (0 : Int) < 2 ^ 64 := getD_all (R := fun y : Int => -(2 ^ 64) < y ∧ y < 2 ^ 64) (fun y hy => by
        simp only [List.mem_cons, List.not_mem_nil, or_false] at hy
        rcases hy with rfl | rfl <;> decide) (by show (a % 2).toNat < 2; omega)
      exact ⟨_, _, rfl, rfl, ⟨by decide, by decide, by decide⟩, _, rfl, _, _, rfl, rfl, _, _, rfl, rfl, .inl hb, q _ (Same.new hp)⟩
    have z2 : ¬ x = 2 := fun y => z (by subst y; rfl)
    rw [if_neg z2] at q
    refine ⟨_, rfl, rfl, _, rfl, ite2 (fun z => ?_) (fun z => ?_)⟩
    · have z' : x = 3 := by simpa using z
      rw [if_pos z'] at q
      exact ⟨_, rfl, _, _, rfl, rfl, q H (Same.refl _)⟩
    have z3 : ¬ x = 3 := fun y => z (by subst y; rfl)
    rw [if_neg z3] at q
    exact ⟨_, rfl, _, _, rfl, rfl, .inl ⟨by decide, by decide⟩, _, _, rfl, rfl, ⟨by decide, by decide, by decide⟩, _, _, rfl, rfl, q H (Same.refl _)⟩
end
abbrev st_law_row : Stmt := top 26
section
variable {P : Program} {w : World} {K : PySem.W.Frag} {mg : Str → Option Value} {base : Heap}
def valW (w : Int) : V → V
  | .int a => .int (valM w a)
  | _ => .non
theorem val_map (w : Int) (cs : List Int) : ((cs.map V.int).filter fun _ => true).map (valW w) = (cs.map (valM w)).map V.int := by
  rw [List.filter_eq_self.mpr (fun _ _ => rfl), List.map_map, List.map_map]; rfl
theorem sc_law_row : FnScope ["purse", "most", "unlike", "way", "many", "kind", "places", "k", "drawn", "turns", "size", "wide", "again"] ["purse", "most"] (defScope st_law_row) := ⟨rfl, rfl, rfl, by decide +kernel, rfl, by decide +kernel, by decide +kernel⟩
theorem ok_law_row {f : Addr} {fd : FuncData} (B : Blt mg) (F : Fun K "_law_row" "_law_row" st_law_row f fd) (h_law_next : Has P w K mg base "_law_next" 1 ["purse"] spNext) (h_law_value : Has P w K mg base "_law_value" 1 ["way", "at"] spValue) : FnOk P w K mg base CX0 2 f fd ["purse", "most"] spRowQ := by
  refine F.ok sc_law_row (fun vs H Q E h => ?_) (fun cdv A outer s H vs Q E hr h => ?_)
  · obtain ⟨p, m, nMx, rfl, _⟩ := h
    rfl
  · obtain ⟨p, m, nMx, rfl, hd, hm, hm1, hm2, q⟩ := h
    have hu := hr.units0
    have hs : sizeLine = 16777216 := sizeLine_eq
    refine ⟨_, (pss_cons (ps_set (i := 2) sc_law_row.nd rfl (Or.inl rfl) (pe_op op_add pe_int (pe_op op_mod (pe_callH h_law_next (hr.mono (by decide)) (by rfl) (pa_cons (pv 0) pa_nil)) (pe_ix (ixK (K := K) rfl) (pe_lst (pa_cons pe_int (pa_cons pe_int (pa_cons pe_int (pa_cons pe_int pa_nil))))) (pe_op op_mod (pe_callH h_law_next (hr.mono (by decide)) (by rfl) (pa_cons (pv 0) pa_nil)) pe_int) (fun _ _ => rfl)))))
  (pss_cons (ps_set (i := 3) sc_law_row.nd rfl (Or.inr rfl) (pe_op op_mod (pe_callH h_law_next (hr.mono (by decide)) (by rfl) (pa_cons (pv 0) pa_nil)) pe_int))
  (pss_cons (ps_set (i := 4) sc_law_row.nd rfl (Or.inl rfl) (pe_op op_mod (pe_callH h_law_next (hr.mono (by decide)) (by rfl) (pa_cons (pv 0) pa_nil)) (pe_ix (ixK (K := K) rfl) (pe_lst (pa_cons pe_int (pa_cons pe_int (pa_cons pe_int (pa_cons pe_int pa_nil))))) (pe_op op_mod (pe_callH h_law_next (hr.mono (by decide)) (by rfl) (pa_cons (pv 0) pa_nil)) pe_int) (fun _ _ => rfl))))
  (pss_cons (ps_set (i := 5) sc_law_row.nd rfl (Or.inl rfl) (pe_op op_mod (pe_callH h_law_next (hr.mono (by decide)) (by rfl) (pa_cons (pv 0) pa_nil)) pe_int))
  (pss_cons (ps_set (i := 6) sc_law_row.nd rfl (Or.inl rfl) (pe_lst pa_nil))
  (pss_cons (ps_for PassesOwn.never rfl (pi_range1 (by rfl) B.range (pa_cons (pv 4) pa_nil)) (pg_name (i := 7) sc_law_row.nd rfl (Or.inl rfl))
  (pss_cons (ps_set (i := 8) sc_law_row.nd rfl (Or.inl rfl) (pe_callH h_law_next (hr.mono (by decide)) (by rfl) (pa_cons (pv 0) pa_nil)))
  (pss_one (ps_expr (pe_bm PySem.F.plainAttrs_list PySem.F.slot_list_append PySem.F.type_list_append mt_append (pv 6) (pa_cons (pe_op op_mod (pe_ix (ixK (K := K) rfl) (QE.un (qe_lst (qa_cons (pv 7) (qa_cons (pe_op op_fdiv (pv 7) pe_int) (qa_cons (pv 8) (qa_cons (pv 8) (qa_cons (pv 8) (qa_cons (pv 8) qa_nil)))))))) (pv 5) (fun _ _ => rfl)) (pv 2)) pa_nil))))))
  (pss_cons (ps_if (PW.pt (pw_and (pt_cmpR op_eq (pe_op op_mod (pe_callH h_law_next (hr.mono (by decide)) (by rfl) (pa_cons (pv 0) pa_nil)) pe_int) pe_int (nomark _)) (pw_and1 (pt_cmpR (neLK (K := K) rfl hu) (pv 6) (pe_lst pa_nil) (nomark _)))))
  (pss_cons (ps_set (i := 9) sc_law_row.nd rfl (Or.inl rfl) (pe_op op_add pe_int (pe_op op_mod (pe_callH h_law_next (hr.mono (by decide)) (by rfl) (pa_cons (pv 0) pa_nil)) (pe_ix (ixK (K := K) rfl) (pe_lst (pa_cons pe_int (pa_cons pe_int pa_nil))) (pe_op op_mod (pe_callH h_law_next (hr.mono (by decide)) (by rfl) (pa_cons (pv 0) pa_nil)) pe_int) (fun _ _ => rfl)))))
  (pss_cons (ps_set (i := 10) sc_law_row.nd rfl (Or.inl rfl) (pe_callB (lenK (K := K) rfl) (by rfl) B.len PySem.boot_len (pa_cons (pv 6) pa_nil)))
  (pss_cons (ps_set (i := 11) sc_law_row.nd rfl (Or.inl rfl) (pe_op op_add (pv 2) (pv 9)))
  (pss_cons (ps_set (i := 12) sc_law_row.nd rfl (Or.inl rfl) (pe_lst pa_nil))
  (pss_cons (ps_for PassesOwn.never rfl (pi_range1 (by rfl) B.range (pa_cons (pv 1) pa_nil)) (pg_name (i := 7) sc_law_row.nd rfl (Or.inl rfl))
  (pss_one (ps_expr (pe_bm PySem.F.plainAttrs_list PySem.F.slot_list_append PySem.F.type_list_append mt_append (pv 12) (pa_cons (pe_op op_mod (pe_op op_add (pe_ix (ixK (K := K) rfl) (pv 6) (pe_op op_mod (pv 7) (pv 10)) (fun _ _ => rfl)) (pe_op op_mod (pe_op op_fdiv (pv 7) (pv 10)) (pv 9))) (pv 11)) pa_nil)))))
  (pss_one (ps_set (i := 6) sc_law_row.nd rfl (Or.inl rfl) (pv 12))))))))
  pss_nil)
  (pss_one (ps_ret (pe_lc (own := ["at"]) (ix := [3]) (N := ["at", "way"]) rfl (LcOk.of (by rfl)) (piK (K := K) rfl (pv 6)) (fun _ _ _ _ _ => (pg_name (i := 0) (show (["at", "way"] : List Str).Nodup by decide +kernel) rfl (by first | exact Or.inl rfl | exact Or.inr rfl))) (fun _ _ _ _ _ => pts_nil) (fun _ _ _ _ _ => (pe_callH h_law_value (hr.mono (by decide)) (by rfl) (pa_cons (pv 1) (pa_cons (pv 0) pa_nil)))))))))))))), ?_⟩
    -- unlike
    refine ⟨_, rfl, p, rfl, hd, fun r1 H1 r10 hd1 sx1 => ⟨by show 4 ≤ sizeLine; decide, fun p1 hp1 => ⟨_, rfl, p, rfl, hd1.new hp1, fun r2 H2 r20 hd2 sx2 => ?_⟩⟩⟩
    refine ⟨_, _, rfl, rfl, (show (0 : Int) < 4 by decide), p1, _, _, _, rfl, rfl, SqL.of (sx2 p1 _ (hd1.ne hp1) upd_same), atI_int (ns := [2, 4, 9, 40]) (Int.emod_nonneg _ (by decide)) (Int.emod_lt_of_pos _ (by decide)), ?_⟩
    have g1 : 0 < [2, 4, 9, 40].getD (r2 % 4).toNat (0 : Int) := getD_all (R := fun x : Int => 0 < x) (fun x hx => by
      simp only [List.mem_cons, List.not_mem_nil, or_false] at hx
      rcases hx with rfl | rfl | rfl | rfl <;> decide) (by show (r2 % 4).toNat < 4; omega)
    generalize [2, 4, 9, 40].getD (r2 % 4).toNat (0 : Int) = lim1 at g1
    refine ⟨_, _, rfl, rfl, g1, _, _, rfl, rfl, ?_⟩
    have u0 : 0 < 1 + r1 % lim1 := by have := Int.emod_nonneg r1 (Int.ne_of_gt g1); omega
    dsimp only [L2.start, List.set]
    generalize 1 + r1 % lim1 = U at u0
    have x2 : SameX p H H2 := sx1.trans ((Same.new hp1).x.trans sx2)
    clear sx1 sx2 hp1 hd1 g1 p1
    -- way
    refine ⟨_, rfl, p, rfl, hd2, fun r3 H3 r30 hd3 sx3 => ⟨_, _, rfl, rfl, (show (0 : Int) < 5 by decide), ?_⟩⟩
    dsimp only [List.set]
    generalize r3 % 5 = way
    have x3 := x2.trans sx3
    clear x2 sx3 hd2
    -- many
    refine ⟨_, rfl, p, rfl, hd3, fun r4 H4 r40 hd4 sx4 => ⟨by show 4 ≤ sizeLine; decide, fun p1 hp1 => ⟨_, rfl, p, rfl, hd4.new hp1, fun r5 H5 r50 hd5 sx5 => ?_⟩⟩⟩
    refine ⟨_, _, rfl, rfl, (show (0 : Int) < 4 by decide), p1, _, _, _, rfl, rfl, SqL.of (sx5 p1 _ (hd4.ne hp1) upd_same), atI_int (ns := [5, 12, 30, 41]) (Int.emod_nonneg _ (by decide)) (Int.emod_lt_of_pos _ (by decide)), ?_⟩
    have g2 : 0 < [5, 12, 30, 41].getD (r5 % 4).toNat (0 : Int) ∧ [5, 12, 30, 41].getD (r5 % 4).toNat (0 : Int) ≤ 41 := getD_all (R := fun x : Int => 0 < x ∧ x ≤ 41) (fun x hx => by
      simp only [List.mem_cons, List.not_mem_nil, or_false] at hx
      rcases hx with rfl | rfl | rfl | rfl <;> decide) (by show (r5 % 4).toNat < 4; omega)
    generalize [5, 12, 30, 41].getD (r5 % 4).toNat (0 : Int) = lim2 at g2
    refine ⟨_, _, rfl, rfl, g2.1, ?_⟩
    have n0 : 0 ≤ r4 % lim2 ∧ r4 % lim2 < 41 := by
      have h1 := Int.emod_nonneg r4 (Int.ne_of_gt g2.1)
      have h2 := Int.emod_lt_of_pos r4 g2.1
      omega
    dsimp only [List.set]
    generalize r4 % lim2 = M at n0
    have x5 : SameX p H H5 := x3.trans (sx4.trans ((Same.new hp1).x.trans sx5))
    clear x3 sx4 sx5 hp1 hd3 hd4 g2 p1
    -- kind
    refine ⟨_, rfl, p, rfl, hd5, fun r6 H6 r60 hd6 sx6 => ⟨_, _, rfl, rfl, (show (0 : Int) < 6 by decide), ?_⟩⟩
    have k0 : 0 ≤ r6 % 6 ∧ r6 % 6 < 6 := by omega
    dsimp only [List.set]
    generalize r6 % 6 = kd at k0
    have x6 := x5.trans sx6
    clear x5 sx6 hd5
    -- places
    refine ⟨by show 0 ≤ sizeLine; decide, fun pl hpl => ?_⟩
    have nplp : pl ≠ p := hd6.ne hpl
    have hplH : H pl = none := x6.free nplp hpl
    refine ⟨_, rfl, _, rfl, by omega, by omega, for_range (fun k σ Hc => ∃ (v7 v8 : Option V) (ms : List Int), σ = [some (.ref p), some (.int m), some (.int U), some (.int way), some (.int M), some (.int kd), some (.ref pl), v7, v8, none, none, none, none] ∧ Hc pl = some (.lst (ms.map V.int)) ∧ ms.length = k ∧ PurseAt Hc p ∧ SameX p H Hc)
      ⟨none, none, [], rfl, upd_same, rfl, hd6.new hpl, x6.put hplH⟩ ?_ ?_⟩
    · rintro k σ Hc hk ⟨v7, v8, ms, rfl, el, hl, hdc, xc⟩
      refine ⟨_, rfl, p, rfl, hdc, fun r Hd r0 hdd sxd => ?_⟩
      have eld := sxd pl _ nplp el
      refine ⟨_, rfl, .inl ⟨rfl, _, SqL.of eld⟩, _, rfl, _, rfl, _, _, rfl, rfl, ⟨by decide, by decide⟩, _, rfl, _, rfl, _, rfl, _, rfl, by show 6 ≤ sizeLine; decide, fun q6 hq6 => ?_⟩
      refine ⟨_, rfl, q6, _, _, _, rfl, rfl, SqL.of upd_same, atI_int (ns := [_, _, _, _, _, _]) k0.1 k0.2, _, rfl, _, _, rfl, rfl, u0, pl, _, _, rfl, rfl, Same.new hq6 _ _ eld, small1000 (by rw [len_int]; omega), ?_⟩
      refine ⟨_, _, ms ++ [_], rfl, by rw [upd_same, List.map_append]; rfl, by rw [List.length_append, hl]; rfl, (hdd.new hq6).put nplp, (((xc.trans sxd).trans (Same.new hq6).x).put hplH)⟩
    · rintro σ Hc ⟨v7, v8, ms, rfl, el, hl, hdc, xc⟩
      refine ⟨_, rfl, p, rfl, hdc, fun r Hd r0 hdd sxd => ⟨_, _, rfl, rfl, (show (0 : Int) < 8 by decide), rfl, _, rfl, ite2 (fun z => ?T) (fun z => iteF ?F)⟩⟩
      case' T =>
        have eld := sxd pl _ nplp el
        refine ⟨_, rfl, by show 0 ≤ sizeLine; decide, fun pe hpe => ?_⟩
        refine neNil (SqL.of (Same.new hpe _ _ eld)) (SqL.of upd_same) ⟨_, rfl, ite2 (fun z2 => ?A) (fun z2 => ?B)⟩
        case' B =>
          have ez : upd Hd pe (.lst []) pl = some (.lst (ms.map V.int)) := Same.new hpe _ _ eld
          have hz := hdd.new (o := .lst []) hpe
          have xz := (xc.trans sxd).trans (Same.new (o := .lst []) hpe).x
          have lz : ms.length ≤ nMx := by omega
          clear hpe eld hdd sxd xc hdc el hplH nplp
          revert ez hz xz lz
          generalize upd Hd pe (.lst []) = Hz
          generalize pl = pz
          generalize ms = ls
          intro ez hz xz lz
        case' A =>
          have hms : 0 < ms.length := by
            cases ms with
            | nil => exact absurd z2 (by decide)
            | cons x r => exact Nat.succ_pos _
          have ela : upd Hd pe (.lst []) pl = some (.lst (ms.map V.int)) := Same.new hpe _ _ eld
          have hda := hdd.new (o := .lst []) hpe
          have xa := (xc.trans sxd).trans (Same.new (o := .lst []) hpe).x
          clear hpe eld hdd sxd xc hdc el
          revert ela hda xa
          generalize upd Hd pe (.lst []) = Ha
          intro ela hda xa
          -- turns
          refine ⟨_, rfl, p, rfl, hda, fun t1 G1 t10 hg1 gx1 => ⟨by show 2 ≤ sizeLine; decide, fun p1 hp1 => ⟨_, rfl, p, rfl, hg1.new hp1, fun t2 G2 t20 hg2 gx2 => ?_⟩⟩⟩
          refine ⟨_, _, rfl, rfl, (show (0 : Int) < 2 by decide), p1, _, _, _, rfl, rfl, SqL.of (gx2 p1 _ (hg1.ne hp1) upd_same), atI_int (ns := [7, 300]) (Int.emod_nonneg _ (by decide)) (Int.emod_lt_of_pos _ (by decide)), ?_⟩
          have g3 : 0 < [7, 300].getD (t2 % 2).toNat (0 : Int) := getD_all (R := fun x : Int => 0 < x) (fun x hx => by
            simp only [List.mem_cons, List.not_mem_nil, or_false] at hx
            rcases hx with rfl | rfl <;> decide) (by show (t2 % 2).toNat < 2; omega)
          generalize [7, 300].getD (t2 % 2).toNat (0 : Int) = lim3 at g3
          refine ⟨_, _, rfl, rfl, g3, _, _, rfl, rfl, ?_⟩
          have u3 : 0 < 1 + t1 % lim3 := by have := Int.emod_nonneg t1 (Int.ne_of_gt g3); omega
          dsimp only [List.set]
          generalize 1 + t1 % lim3 = tn at u3
          have elb : G2 pl = some (.lst (ms.map V.int)) := gx2 pl _ nplp (Same.new hp1 _ _ (gx1 pl _ nplp ela))
          have xb : SameX p H G2 := xa.trans (gx1.trans ((Same.new hp1).x.trans gx2))
          clear xa gx1 gx2 hp1 ela hda hg1
          -- size, wide, again
          refine ⟨_, rfl, pl, _, rfl, .inl (SqL.of elb), ?_⟩
          refine ⟨_, rfl, _, rfl, _, _, rfl, rfl, ?_⟩
          refine ⟨by show 0 ≤ sizeLine; decide, fun ag hag => ?_⟩
          have nagp : ag ≠ p := hg2.ne hag
          have hagH : H ag = none := xb.free nagp hag
          have nagl : ag ≠ pl := (ne_of_none elb hag).symm
          have hsz : (0 : Int) < ((ms.map V.int).length : Int) := by rw [len_int]; omega
          refine ⟨_, rfl, _, rfl, by omega, by omega, for_range (fun k σ Hc => ∃ (v7 : Option V) (ks : List Int), σ = [some (.ref p), some (.int m), some (.int U), some (.int way), some (.int M), some (.int kd), some (.ref pl), v7, v8, some (.int tn), some (.int (ms.map V.int).length), some (.int (U + tn)), some (.ref ag)] ∧ Hc ag = some (.lst (ks.map V.int)) ∧ Hc pl = some (.lst (ms.map V.int)) ∧ ks.length = k ∧ PurseAt Hc p ∧ SameX p H Hc)
            ⟨_, [], rfl, upd_same, Same.new hag _ _ elb, rfl, hg2.new hag, xb.put hagH⟩ ?A1 ?A2⟩
          case A1 =>
            rintro k σ Hc hk ⟨v7, ks, rfl, ea, el, hl, hdc, xc⟩
            have m0 := Int.emod_nonneg ((0 : Int) + (k : Int)) (Int.ne_of_gt hsz)
            have m1 := Int.emod_lt_of_pos ((0 : Int) + (k : Int)) hsz
            have hlm : (ms.map V.int).length ≤ 41 := by rw [len_int]; omega
            refine ⟨_, rfl, .inl ⟨rfl, _, SqL.of ea⟩, _, rfl, _, rfl, _, rfl, _, _, rfl, rfl, hsz, pl, _, _, _, rfl, rfl, SqL.of el, atI_int m0 (by rw [len_int] at m1 ⊢; exact m1), _, rfl, _, rfl, _, _, rfl, rfl, ⟨hsz, by omega⟩, _, rfl, _, _, rfl, rfl, u3, _, _, rfl, rfl, _, rfl, _, _, rfl, rfl, (show 0 < U + tn by omega), ag, _, _, rfl, rfl, ea, small1000 (by rw [len_int]; omega), ?_⟩
            refine ⟨_, ks ++ [_], rfl, by rw [upd_same, List.map_append]; rfl, by rw [upd_ne nagl.symm]; exact el, by rw [List.length_append, hl]; rfl, hdc.put nagp, xc.put hagH⟩
          case' A2 =>
            rintro σ Hc ⟨v7, ks, rfl, ez, el, hl, hz, xz⟩
            refine ⟨_, rfl, ?_⟩
            have lz : ks.length ≤ nMx := by omega
            clear el hl
            revert ez hz xz lz
            generalize Hc = Hz
            generalize ag = pz
            generalize ks = ls
            intro ez hz xz lz
      case' F =>
        have ez := sxd pl _ nplp el
        have hz := hdd
        have xz := xc.trans sxd
        have lz : ms.length ≤ nMx := by omega
        clear hdd sxd xc hdc el hplH nplp
        revert ez hz xz lz
        generalize Hd = Hz
        generalize pl = pz
        generalize ms = ls
        intro ez hz xz lz
      all_goals
        refine ⟨_, rfl, pz, rfl, ⟨_, SqL.of ez⟩, fun D hD => ?_⟩
        have nDp : D ≠ p := hz.ne hD
        refine lc_list_ev (cap := [some (.int way)]) (xs := ls.map V.int) (fun _ => true) (valW way) (small1000 (by rw [len_int]; omega)) hD (SqL.of ez) (fun x H' hx s' => evYes) (fun x H' hx _ s' Q' k => ?_) (fun H4 s4 e4 => ?_)
        · obtain ⟨n, _, rfl⟩ := List.mem_map.mp hx
          exact ⟨_, rfl, _, rfl, _, _, rfl, fun H'' s'' => k H'' s''⟩
        · rw [val_map] at e4
          exact q D _ H4 (xz.free nDp hD) e4 (by rw [List.length_map]; exact lz) (hz.same s4) (xz.trans s4.x)
end
abbrev st_law_most : Stmt := top 36
section
variable {P : Program} {w : World} {K : PySem.W.Frag} {mg : Str → Option Value} {base : Heap}
theorem sc_law_most : FnScope ["script", "k"] ["script", "k"] (defScope st_law_most) := ⟨rfl, rfl, rfl, by decide +kernel, rfl, by decide +kernel, by decide +kernel⟩
theorem ok_law_most {f : Addr} {fd : FuncData} (F : Fun K "_law_most" "_law_most" st_law_most f fd) (h_law_purse : Has P w K mg base "_law_purse" 2 ["script", "at", "step", "many"] (spPurse K)) (h_law_next : Has P w K mg base "_law_next" 1 ["purse"] spNext) : FnOk P w K mg base CX0 3 f fd ["script", "k"] (spMostP K) := by
  refine F.ok sc_law_most (fun vs H Q E h => ?_) (fun cdv A outer s H vs Q E hr h => ?_)
  · obtain ⟨a, ns, k, rfl, _⟩ := h
    rfl
  · obtain ⟨a, ns, k, rfl, hq, hn, hk0, hk1, q⟩ := h
    refine ⟨_, (pss_one (ps_ret (pe_ix (ixK (K := K) rfl) (pe_lst (pa_cons pe_int (pa_cons (pe_op op_add pe_int (pe_op op_mod (pe_callH h_law_next (hr.mono (by decide)) (by rfl) (pa_cons (pe_callH h_law_purse (hr.mono (by decide)) (by rfl) (pa_cons (pv 0) (pa_cons pe_int (pa_cons pe_int (pa_cons pe_int pa_nil))))) pa_nil)) pe_int)) (pa_cons pe_int pa_nil)))) (pv 1) (fun _ _ => rfl)))), ?_⟩
    refine ⟨_, rfl, a, ns, _, _, 1, rfl, hq, hn, by decide, by decide, fun pu H1 n1 s1 hp1 => ⟨pu, rfl, hp1, fun r H2 r0 hp2 sx2 => ?_⟩⟩
    have s2 : Same H H2 := fun b o e => sx2 _ _ (ne_of_none e n1) (s1 _ _ e)
    refine ⟨_, _, rfl, rfl, (show (0 : Int) < 90 by decide), _, _, rfl, rfl, by show 3 ≤ sizeLine; decide, fun p hp => ?_⟩
    refine ⟨_, rfl, p, _, _, _, rfl, rfl, SqL.of upd_same, atI_int (ns := [60, 61 + r % 90, 60]) hk0 hk1, ?_⟩
    have m0 := Int.emod_nonneg r (show (90 : Int) ≠ 0 by decide)
    have m1 := Int.emod_lt_of_pos r (show (0 : Int) < 90 by decide)
    have g : 1 ≤ ([60, 61 + r % 90, 60] : List Int).getD k.toNat 0 ∧ ([60, 61 + r % 90, 60] : List Int).getD k.toNat 0 ≤ 150 := getD_all (R := fun x : Int => 1 ≤ x ∧ x ≤ 150) (fun x hx => by
      simp only [List.mem_cons, List.not_mem_nil, or_false] at hx
      rcases hx with rfl | rfl | rfl <;> omega) (by show k.toNat < 3; omega)
    generalize ([60, 61 + r % 90, 60] : List Int).getD k.toNat 0 = z at g ⊢
    obtain ⟨m, rfl⟩ : ∃ m : Nat, z = (m : Int) := ⟨z.toNat, by omega⟩
    exact q m _ (by omega) (by omega) (s2.trans (Same.new hp))
end
abbrev st_law_with : Stmt := top 33
section
variable {P : Program} {w : World} {K : PySem.W.Frag} {mg : Str → Option Value} {base : Heap}
open My
theorem sc_law_with : FnScope ["table", "first", "at", "thing", "line"] ["table", "first", "at", "thing"] (defScope st_law_with) := ⟨rfl, rfl, rfl, by decide +kernel, rfl, by decide +kernel, by decide +kernel⟩
theorem ok_law_with {f : Addr} {fd : FuncData} (F : Fun K "_law_with" "_law_with" st_law_with f fd) : FnOk P w K mg base CX0 1 f fd ["table", "first", "at", "thing"] spWithT := by
  refine F.ok sc_law_with (fun vs H Q E h => ?_) (fun cdv A outer s H vs Q E hr h => ?_)
  · obtain ⟨p, t, l, B, f, a, ts, xs, x, rfl, _⟩ := h
    rfl
  · obtain ⟨p, t, l, B, f, a, ts, xs, x, rfl, ⟨op, ep⟩, td, hf, ln, ha, tx, bx, q⟩ := h
    have hs : sizeLine = 16777216 := sizeLine_eq
    have hfl := (List.getElem?_eq_some_iff.mp hf).1
    have hat : atI (ts.map V.ref) (f : Int) = some (.ref l) := atI_ref hf
    have htl := td.len
    have hxl := ln.len
    refine ⟨_, (pss_cons (ps_set (i := 4) sc_law_with.nd rfl (Or.inl rfl) (pe_op op_cat (pe_op op_cat (pe_slice (slK (K := K) rfl) (pe_ix (ixK (K := K) rfl) (pv 0) (pv 1) (fun _ _ => rfl)) po_none (po_some (pv 2))) (pe_lst (pa_cons (pv 3) pa_nil))) (pe_slice (slK (K := K) rfl) (pe_ix (ixK (K := K) rfl) (pv 0) (pv 1) (fun _ _ => rfl)) (po_some (pe_op op_add (pv 2) pe_int)) po_none)))
  (pss_one (ps_ret (pe_op op_cat (pe_op op_cat (pe_slice (slK (K := K) rfl) (pv 0) po_none (po_some (pv 1))) (pe_lst (pa_cons (pv 4) pa_nil))) (pe_slice (slK (K := K) rfl) (pv 0) (po_some (pe_op op_add (pv 1) pe_int)) po_none))))), ?_⟩
    refine ⟨_, rfl, _, rfl, t, _, _, _, rfl, rfl, SqL.of td.ob, hat, _, rfl, _, rfl, l, _, rfl, SqL.of ln.ob, fun p1 n1 => ?_⟩
    rw [cutV_take]
    refine ⟨_, rfl, by show 1 ≤ sizeLine; decide, fun p2 n2 => ⟨p1, p2, _, _, rfl, rfl, Same.new n2 _ _ upd_same, upd_same, by rw [List.length_take]; show _ + 1 ≤ _; omega, fun p3 n3 => ?_⟩⟩
    have s3 := ((Same.new (o := .lst (xs.take a)) n1).trans (Same.new (o := .lst [x]) n2)).trans (Same.new (o := .lst (xs.take a ++ [x])) n3)
    have e3 : upd (upd (upd H p1 (.lst (xs.take a))) p2 (.lst [x])) p3 (.lst (xs.take a ++ [x])) p3 = some (.lst (xs.take a ++ [x])) := upd_same
    generalize upd (upd (upd H p1 (.lst (xs.take a))) p2 (.lst [x])) p3 (.lst (xs.take a ++ [x])) = H3 at s3 e3 ⊢
    clear n1 n2 n3
    refine ⟨_, rfl, _, rfl, t, _, _, _, rfl, rfl, SqL.of (s3 _ _ td.ob), hat, _, rfl, _, _, rfl, rfl, (a : Int) + 1, rfl, l, _, rfl, SqL.of (s3 _ _ ln.ob), fun p4 n4 => ?_⟩
    rw [cutV_drop']
    refine ⟨p3, p4, _, _, rfl, rfl, Same.new n4 _ _ e3, upd_same, by rw [List.length_append, List.length_take, List.length_drop]; show _ + 1 + _ ≤ _; omega, fun d n5 => ?_⟩
    have s5 := (s3.trans (Same.new (o := .lst (xs.drop (a + 1))) n4)).trans (Same.new (o := .lst (xs.take a ++ [x] ++ xs.drop (a + 1))) n5)
    have nd : H d = none := (s3.trans (Same.new n4)).free n5
    have e5 : upd (upd H3 p4 (.lst (xs.drop (a + 1)))) d (.lst (xs.take a ++ [x] ++ xs.drop (a + 1))) d = some (.lst (xs.take a ++ [x] ++ xs.drop (a + 1))) := upd_same
    generalize upd (upd H3 p4 (.lst (xs.drop (a + 1)))) d (.lst (xs.take a ++ [x] ++ xs.drop (a + 1))) = H5 at s5 e5 ⊢
    clear n4 n5 s3 e3
    have ndp : d ≠ p := fun z => by rw [z, ep] at nd; cases nd
    -- the new line
    have lnd : LnD p B H5 d (xs.take a ++ [x] ++ xs.drop (a + 1)) := ⟨ndp, e5, by rw [List.length_append, List.length_append]; show 0 < _ + 1 + _; omega, by rw [List.length_append, List.length_append, List.length_take, List.length_drop]; show _ + 1 + _ ≤ _; omega, fun y hy => by
      rcases List.mem_append.mp hy with hy | hy
      · rcases List.mem_append.mp hy with hy | hy
        · exact (ln.th y (List.mem_of_mem_take hy)).same s5
        · rw [List.mem_singleton.mp hy]; exact tx.same s5
      · exact (ln.th y (List.mem_of_mem_drop hy)).same s5, fun n hy => by
      rcases List.mem_append.mp hy with hy | hy
      · rcases List.mem_append.mp hy with hy | hy
        · exact ln.bd n (List.mem_of_mem_take hy)
        · exact bx n (List.mem_singleton.mp hy).symm
      · exact ln.bd n (List.mem_of_mem_drop hy)⟩
    refine ⟨_, rfl, _, rfl, f, rfl, t, _, rfl, SqL.of (s5 _ _ td.ob), fun p1 n1 => ?_⟩
    rw [cutV_take]
    refine ⟨_, rfl, by show 1 ≤ sizeLine; decide, fun p2 n2 => ⟨p1, p2, _, _, rfl, rfl, Same.new n2 _ _ upd_same, upd_same, by rw [List.length_take, List.length_map]; show _ + 1 ≤ _; omega, fun p3 n3 => ?_⟩⟩
    have s8 := ((Same.new (o := .lst ((ts.map V.ref).take f)) n1).trans (Same.new (o := .lst [.ref d]) n2)).trans (Same.new (o := .lst ((ts.map V.ref).take f ++ [.ref d])) n3)
    have e8 : upd (upd (upd H5 p1 (.lst ((ts.map V.ref).take f))) p2 (.lst [.ref d])) p3 (.lst ((ts.map V.ref).take f ++ [.ref d])) p3 = some (.lst ((ts.map V.ref).take f ++ [.ref d])) := upd_same
    generalize upd (upd (upd H5 p1 (.lst ((ts.map V.ref).take f))) p2 (.lst [.ref d])) p3 (.lst ((ts.map V.ref).take f ++ [.ref d])) = H8 at s8 e8 ⊢
    clear n1 n2 n3
    have s08 := s5.trans s8
    refine ⟨_, rfl, _, rfl, _, _, rfl, rfl, (f : Int) + 1, rfl, t, _, rfl, SqL.of (s08 _ _ td.ob), fun p4 n4 => ?_⟩
    rw [cutV_drop']
    refine ⟨p3, p4, _, _, rfl, rfl, Same.new n4 _ _ e8, upd_same, by rw [List.length_append, List.length_take, List.length_drop, List.length_map]; show _ + 1 + _ ≤ _; omega, fun r n5 => ?_⟩
    have e10 := upd_same (H := upd H8 p4 (.lst ((ts.map V.ref).drop (f + 1)))) (a := r) (o := .lst ((ts.map V.ref).take f ++ [.ref d] ++ (ts.map V.ref).drop (f + 1)))
    have s10 := ((s8.trans (Same.new (o := .lst ((ts.map V.ref).drop (f + 1))) n4)).trans (Same.new (o := .lst ((ts.map V.ref).take f ++ [.ref d] ++ (ts.map V.ref).drop (f + 1))) n5))
    have nr : H r = none := (s08.trans (Same.new n4)).free n5
    have nrp : r ≠ p := fun z => by rw [z, ep] at nr; cases nr
    generalize upd (upd H8 p4 (.lst ((ts.map V.ref).drop (f + 1)))) r (.lst ((ts.map V.ref).take f ++ [.ref d] ++ (ts.map V.ref).drop (f + 1))) = H10 at s10 e10 ⊢
    have sA := s5.trans s10
    refine q r (ts.take f ++ [d] ++ ts.drop (f + 1)) H10 sA ⟨nrp, ?_, by rw [List.length_append, List.length_append]; show 0 < _ + 1 + _; omega, by rw [List.length_append, List.length_append, List.length_take, List.length_drop]; show _ + 1 + _ ≤ _; omega, fun y hy => ?_⟩
    · rw [e10, List.map_append, List.map_append, List.map_take, List.map_drop]; rfl
    · have old : y ∈ ts → ∃ xs, LnD p B H10 y xs := fun hy => let ⟨xs, z⟩ := td.ln y hy; ⟨xs, z.sx sA.x⟩
      rcases List.mem_append.mp hy with hy | hy
      · rcases List.mem_append.mp hy with hy | hy
        · exact old (List.mem_of_mem_take hy)
        · rw [List.mem_singleton.mp hy]; exact ⟨_, lnd.sx s10.x⟩
      · exact old (List.mem_of_mem_drop hy)
end
abbrev st_law_one_otherwise : Stmt := top 34
section
variable {P : Program} {w : World} {K : PySem.W.Frag} {mg : Str → Option Value} {base : Heap}
open My
theorem pickL {H : Hp} {a : Addr} {xs : List V} {r : Int} (e : H a = some (.lst xs)) (h0 : 0 ≤ r) (h1 : r < (xs.length : Int)) : ∃ x, atI xs r = some x ∧ x ∈ xs := atI_mem h0 h1
theorem log_small {n : Nat} (h : n ≤ 10 ^ 30 + 2001) : n.log2 < 1920 := by
  by_cases h0 : n = 0
  · subst h0; decide
  · exact (Nat.log2_lt h0).mpr (Nat.lt_of_le_of_lt h (by decide +kernel))
theorem sc_law_one_otherwise : FnScope ["purse", "table", "first", "at", "number", "some", "kind"] ["purse", "table"] (defScope st_law_one_otherwise) := ⟨rfl, rfl, rfl, by decide +kernel, rfl, by decide +kernel, by decide +kernel⟩
theorem ok_law_one_otherwise {f : Addr} {fd : FuncData} (B : Blt mg) (bstr : mg "str" = none) (F : Fun K "_law_one_otherwise" "_law_one_otherwise" st_law_one_otherwise f fd) (h_law_next : Has P w K mg base "_law_next" 1 ["purse"] spNext)
    (h_law_with : Has P w K mg base "_law_with" 1 ["table", "first", "at", "thing"] spWithT) : FnOk P w K mg base CX0 2 f fd ["purse", "table"] spOneT := by
  refine F.ok sc_law_one_otherwise (fun vs H Q E h => ?_) (fun cdv A outer s H vs Q E hr h => ?_)
  · obtain ⟨p, t, B, ts, rfl, _⟩ := h
    rfl
  · obtain ⟨p, t, Bd, ts, rfl, hp, td, hB, q⟩ := h
    have hu := hr.units0
    have hu1 := hu_of hr
    have hs : sizeLine = 16777216 := sizeLine_eq
    have htl := td.len
    have htp := td.pos
    refine ⟨_, (pss_cons (ps_set (i := 2) sc_law_one_otherwise.nd rfl (Or.inl rfl) (pe_op op_mod (pe_callH h_law_next (hr.mono (by decide)) (by rfl) (pa_cons (pv 0) pa_nil)) (pe_callB (lenK (K := K) rfl) (by rfl) B.len PySem.boot_len (pa_cons (pv 1) pa_nil))))
  (pss_cons (ps_set (i := 3) sc_law_one_otherwise.nd rfl (Or.inl rfl) (pe_op op_mod (pe_callH h_law_next (hr.mono (by decide)) (by rfl) (pa_cons (pv 0) pa_nil)) (pe_callB (lenK (K := K) rfl) (by rfl) B.len PySem.boot_len (pa_cons (pe_ix (ixK (K := K) rfl) (pv 1) (pv 2) (fun _ _ => rfl)) pa_nil))))
  (pss_cons (ps_set (i := 4) sc_law_one_otherwise.nd rfl (Or.inl rfl) (pe_ix (ixK (K := K) rfl) (pe_ix (ixK (K := K) rfl) (pv 1) (pv 2) (fun _ _ => rfl)) (pv 3) (fun _ _ => rfl)))
  (pss_cons (ps_if (pt_not (pt_val (pe_callB (isiK (K := K) rfl) (by rfl) B.isinstance boot_isinst' (pa_cons (pv 4) (pa_cons (pe_bltn (v := .ty "int") (by rfl) B.int boot_int' (by rfl)) pa_nil)))))
  (pss_one (ps_set (i := 4) sc_law_one_otherwise.nd rfl (Or.inl rfl) pe_int))
  pss_nil)
  (pss_cons (QS.un (qs_set (i := 5) sc_law_one_otherwise.nd rfl (Or.inl rfl) (qe_lst (qa_cons (pe_op op_addN (pv 4) pe_int) (qa_cons (pe_op op_subN (pv 4) pe_int) (qa_cons (pe_op op_addN (pv 4) pe_int) (qa_cons pe_int (qa_cons (pe_callB (lenK (K := K) rfl) (by rfl) B.len PySem.boot_len (pa_cons (pv 1) pa_nil)) (qa_cons (pe_un un_neg pe_int) (qa_cons (pe_op op_pow pe_int pe_int) (qa_cons (pe_cmpR (op_eqAny hu) (pv 4) pe_int (nomark _)) (qa_cons (pe_cmpR op_gtN (pv 4) pe_int (nomark _)) (qa_cons pe_non qa_nil)))))))))))))
  (pss_cons (QS.un (qs_set (i := 5) sc_law_one_otherwise.nd rfl (Or.inl rfl) (qe_op op_cat (pv 5) (qe_lst (qa_cons (pe_callTy call_strN (by rfl) bstr boot_str' (pa_cons (pv 4) pa_nil)) (qa_cons (pe_lst (pa_cons (pv 4) pa_nil)) (qa_cons (QE.un (qe_tup (qa_cons (pv 4) qa_nil))) (qa_cons pe_dnewK (qa_cons pe_str (qa_cons pe_bl (qa_cons pe_bl qa_nil)))))))))))
  (pss_cons (ps_set (i := 6) sc_law_one_otherwise.nd rfl (Or.inl rfl) (pe_op op_mod (pe_callH h_law_next (hr.mono (by decide)) (by rfl) (pa_cons (pv 0) pa_nil)) pe_int))
  (pss_one (ps_ret (pe_callH h_law_with (hr.mono (by decide)) (by rfl) (pa_cons (pv 1) (pa_cons (pv 2) (pa_cons (pv 3) (pa_cons (pe_ix (ixK (K := K) rfl) (pv 5) (pe_ix (ixK (K := K) rfl) (pe_lst (pa_cons (pv 6) (pa_cons (pe_op op_mod (pv 6) pe_int) pa_nil))) (pe_callTy call_int1 (by rfl) B.int boot_int' (pa_cons (pe_cmpR op_gt (pv 6) pe_int (nomark _)) pa_nil)) (fun _ _ => rfl)) (fun _ _ => rfl)) pa_nil)))))))))))))), ?_⟩
    refine ⟨_, rfl, p, rfl, hp, fun r1 H1 r10 hp1 sx1 => ?_⟩
    have td1 := td.sx sx1
    refine ⟨_, rfl, t, _, rfl, .inl (SqL.of td1.ob), _, _, rfl, rfl, (show (0 : Int) < ((ts.map V.ref).length : Int) by rw [List.length_map]; omega), ?_⟩
    rw [List.length_map]
    have f0 := Int.emod_nonneg r1 (show (ts.length : Int) ≠ 0 by omega)
    have f1 := Int.emod_lt_of_pos r1 (show (0 : Int) < (ts.length : Int) by omega)
    dsimp only [L2.start, List.set]
    generalize r1 % (ts.length : Int) = f' at f0 f1
    obtain ⟨f, rfl⟩ : ∃ f : Nat, f' = (f : Int) := ⟨f'.toNat, by omega⟩
    obtain ⟨l, hfl, hlm, hat⟩ := refs_at (ts := ts) (f := f) (by omega)
    obtain ⟨xs, ln⟩ := td.ln l hlm
    have hxp := ln.pos
    have hxl := ln.len
    refine ⟨_, rfl, p, rfl, hp1, fun r2 H2 r20 hp2 sx2 => ?_⟩
    have x2 := sx1.trans sx2
    have td2 := td.sx x2
    have ln2 := ln.sx x2
    refine ⟨_, rfl, _, rfl, t, _, _, _, rfl, rfl, SqL.of td2.ob, hat, l, _, rfl, .inl (SqL.of ln2.ob), _, _, rfl, rfl, (show (0 : Int) < (xs.length : Int) by omega), ?_⟩
    have g0 := Int.emod_nonneg r2 (show (xs.length : Int) ≠ 0 by omega)
    have g1 := Int.emod_lt_of_pos r2 (show (0 : Int) < (xs.length : Int) by omega)
    dsimp only [List.set]
    generalize r2 % (xs.length : Int) = a' at g0 g1
    obtain ⟨a, rfl⟩ : ∃ a : Nat, a' = (a : Int) := ⟨a'.toNat, by omega⟩
    have ha : a < xs.length := by omega
    obtain ⟨x, hx, hxm⟩ := atI_mem (xs := xs) (r := (a : Int)) (by omega) (by omega)
    refine ⟨_, rfl, _, rfl, t, _, _, _, rfl, rfl, SqL.of td2.ob, hat, _, rfl, l, _, _, _, rfl, rfl, SqL.of ln2.ob, hx, ?_⟩
    dsimp only [List.set]
    have tx := ln2.th x hxm
    obtain ⟨u, ty, k1, _, _⟩ := tx.1.kinds (K := K)
    refine ⟨_, rfl, _, "int", _, _, rfl, ty, k1, _, rfl, ?_⟩
    have hbx := ln.bd
    clear td1 sx1 sx2 hp1 hp
    -- the number
    have hv0 : ∃ n, numV (V.int 0) = some n ∧ n.natAbs ≤ Bd + 1 := ⟨0, rfl, by show 0 ≤ _; omega⟩
    have tv0 : Th p H2 (V.int 0) := ⟨.int _, fun z => by cases z⟩
    refine ite2 (fun z => ?A) (fun z => ?B)
    case' A =>
      have hv := hv0
      have tv := tv0
    case' B =>
      have hv : ∃ n, numV x = some n ∧ n.natAbs ≤ Bd + 1 := by
        have z' : intV x = true := by
          cases h : intV x with
          | true => rfl
          | false => rw [h] at z; exact absurd rfl z
        cases x with
        | int n => exact ⟨n, rfl, by have := hbx n hxm; omega⟩
        | bl b => exact ⟨_, rfl, by cases b <;> simp⟩
        | _ => cases z'
      have tv := tx
    all_goals
      clear z hv0 tv0
      obtain ⟨n, hn, hnb⟩ := hv
      refine ⟨_, rfl, n, 1, hn, rfl, _, rfl, n, 1, hn, rfl, _, rfl, n, 2, hn, rfl, _, rfl, t, _, rfl, .inl (SqL.of td2.ob), _, rfl, _, _, rfl, rfl, ⟨by decide, by decide, by decide⟩, _, rfl, 1, rfl, tv.1, _, rfl, n, 0, hn, rfl, by show 10 ≤ sizeLine; decide, fun S nS => ?_⟩
      generalize hS : upd H2 S _ = G1
      have sS : Same H2 G1 := hS ▸ Same.new nS
      have eS := (congrFun hS S).symm.trans upd_same
      refine ⟨_, rfl, _, rfl, _, n, rfl, hn, log_small (by omega), fun z => ?_⟩
      refine ⟨_, rfl, by show 1 ≤ sizeLine; decide, fun b nb => ?_⟩
      generalize hb : upd G1 b _ = G2
      have sb : Same G1 G2 := hb ▸ Same.new nb
      have eb := (congrFun hb b).symm.trans upd_same
      refine ⟨_, rfl, by show 1 ≤ sizeLine; decide, fun c nc => ?_⟩
      generalize hc : upd G2 c _ = G3
      have sc : Same G2 G3 := hc ▸ Same.new nc
      have ec := (congrFun hc c).symm.trans upd_same
      refine fun d nd => ?_
      generalize hd : upd G3 d _ = G4
      have sd : Same G3 G4 := hd ▸ Same.new nd
      have ed := (congrFun hd d).symm.trans upd_same
      refine ⟨by show 7 ≤ sizeLine; decide, fun S2 nS2 => ?_⟩
      generalize h2 : upd G4 S2 _ = G5
      have s2 : Same G4 G5 := h2 ▸ Same.new nS2
      have e2 := (congrFun h2 S2).symm.trans upd_same
      have s15 := sb.trans (sc.trans (sd.trans s2))
      refine ⟨S, S2, _, _, rfl, rfl, s15 _ _ eS, e2, by show 10 + 7 ≤ sizeLine; decide, fun S3 nS3 => ?_⟩
      generalize h3 : upd G5 S3 _ = H3
      have s3' : Same G5 H3 := h3 ▸ Same.new nS3
      have eS3 := (congrFun h3 S3).symm.trans upd_same
      have hpG1 := hp2.same sS
      have hpG2 := hpG1.same sb
      have hpG3 := hpG2.same sc
      have hpG4 := hpG3.same sd
      have hpG5 := hpG4.same s2
      have mb := hpG1.ne nb
      have mc := hpG2.ne nc
      have md := hpG3.ne nd
      have m3 := hpG5.ne nS3
      have eb3 := s3' _ _ (s2 _ _ (sd _ _ (sc _ _ eb)))
      have ec3 := s3' _ _ (s2 _ _ (sd _ _ ec))
      have ed3 := s3' _ _ (s2 _ _ ed)
      have s3 : Same H2 H3 := sS.trans (s15.trans s3')
      dsimp only [List.set]
      clear hS hb hc hd h2 h3 eb ec ed eS e2 hpG1 hpG2 hpG3 hpG4 hpG5 s15 s3' sS sb sc sd s2 nS nb nc nd nS2 nS3
      refine ⟨_, rfl, p, rfl, hp2.same s3, fun r3 H4 r30 hp4 sx4 => ⟨_, _, rfl, rfl, (show (0 : Int) < 34 by decide), ?_⟩⟩
      have k0 := Int.emod_nonneg r3 (show (34 : Int) ≠ 0 by decide)
      have k1 := Int.emod_lt_of_pos r3 (show (0 : Int) < 34 by decide)
      dsimp only [List.set]
      generalize r3 % 34 = kd at k0 k1
      have eS := sx4 _ _ m3 eS3
      have eb := sx4 _ _ mb eb3
      have ec := sx4 _ _ mc ec3
      have ed := sx4 _ _ md ed3
      have x4 : SameX p H2 H4 := s3.x.trans sx4
      refine ⟨_, rfl, _, rfl, _, rfl, _, rfl, _, rfl, _, rfl, _, _, rfl, rfl, (show (0 : Int) < 2 by decide), by show 2 ≤ sizeLine; decide, fun D nD => ?_⟩
      generalize hD : upd H4 D _ = HD
      have sD : Same H4 HD := hD ▸ Same.new nD
      have eD := (congrFun hD D).symm.trans upd_same
      refine ⟨_, rfl, _, _, rfl, rfl, .inr ⟨_, rfl, ?_⟩⟩
      have i0 : 0 ≤ (if decide ((16 : Int) < kd) = true then (1 : Int) else 0) ∧ (if decide ((16 : Int) < kd) = true then (1 : Int) else 0) < 2 := by split <;> decide
      have hix := atI_int (ns := [kd, kd % 2]) i0.1 i0.2
      have hixv : 0 ≤ ([kd, kd % 2] : List Int).getD (if decide ((16 : Int) < kd) = true then (1 : Int) else 0).toNat 0 ∧ ([kd, kd % 2] : List Int).getD (if decide ((16 : Int) < kd) = true then (1 : Int) else 0).toNat 0 < 17 := by
        by_cases h : (16 : Int) < kd
        · rw [if_pos (decide_eq_true h)]; show 0 ≤ kd % 2 ∧ kd % 2 < 17; omega
        · rw [if_neg (by rw [decide_eq_false h]; exact Bool.false_ne_true)]; show 0 ≤ kd ∧ kd < 17; omega
      refine ⟨D, _, _, _, rfl, rfl, SqL.of eD, hix, ?_⟩
      revert hixv
      generalize ([kd, kd % 2] : List Int).getD (if decide ((16 : Int) < kd) = true then (1 : Int) else 0).toNat 0 = ix
      intro hixv
      obtain ⟨y, hy, hym⟩ := pickL eS hixv.1 (by show ix < 17; exact hixv.2)
      refine ⟨S3, _, _, _, rfl, rfl, SqL.of (sD _ _ eS), hy, ?_⟩
      have xD : SameX p H2 HD := x4.trans sD.x
      refine ⟨p, t, l, 10 ^ 30 + Bd + 2, f, a, ts, xs, y, rfl, (hp4.same sD).obj, ⟨td2.ne, (td2.sx xD).ob, td2.pos, td2.len, fun m hm => let ⟨zs, e⟩ := (td2.sx xD).ln m hm; ⟨zs, e.up (by omega)⟩⟩, hfl, (ln2.sx xD).up (by omega), ha, ?_, ?_, fun r us H5 s5 td5 => q r us H5 ((hp4.same sD).same s5) (x2.trans (xD.trans s5.x)) td5⟩
      · simp only [List.cons_append, List.nil_append, List.mem_cons, List.not_mem_nil, or_false] at hym
        rcases hym with rfl | rfl | rfl | rfl | rfl | rfl | rfl | rfl | rfl | rfl | rfl | rfl | rfl | rfl | rfl | rfl | rfl
        · exact ⟨.int _, fun z => by cases z⟩
        · exact ⟨.int _, fun z => by cases z⟩
        · exact ⟨.int _, fun z => by cases z⟩
        · exact ⟨.int _, fun z => by cases z⟩
        · exact ⟨.int _, fun z => by cases z⟩
        · exact ⟨.int _, fun z => by cases z⟩
        · exact ⟨.int _, fun z => by cases z⟩
        · exact ⟨.bl _, fun z => by cases z⟩
        · exact ⟨.bl _, fun z => by cases z⟩
        · exact ⟨.non, fun z => by cases z⟩
        · exact ⟨.str _, fun z => by cases z⟩
        · exact ⟨.lst (sD _ _ eb), fun z => mb (by injection z)⟩
        · exact ⟨.tup (sD _ _ ec), fun z => mc (by injection z)⟩
        · exact ⟨.dK (sD _ _ ed), fun z => md (by injection z)⟩
        · exact ⟨.str _, fun z => by cases z⟩
        · exact ⟨.bl _, fun z => by cases z⟩
        · exact ⟨.bl _, fun z => by cases z⟩
      · intro m hm
        subst hm
        simp only [List.cons_append, List.nil_append, List.mem_cons, List.not_mem_nil, or_false, V.int.injEq, reduceCtorEq, false_or] at hym
        have e30 : ((10 : Int) ^ (30 : Int).toNat).natAbs = 10 ^ 30 := by decide +kernel
        have hlt : ((ts.map V.ref).length : Int) ≤ 300 := by rw [List.length_map]; omega
        rcases hym with rfl | rfl | rfl | rfl | rfl | rfl | rfl
        · omega
        · omega
        · omega
        · show 0 ≤ _; omega
        · have h30 : (300 : Nat) ≤ 10 ^ 30 := by decide +kernel
          omega
        · show 1 ≤ _; omega
        · rw [e30]; omega
end
abbrev st_law_lines_otherwise : Stmt := top 35
section
variable {P : Program} {w : World} {K : PySem.W.Frag} {mg : Str → Option Value} {base : Heap}
open My
theorem ixN_nat {n k : Nat} (h : k < n) : ixN n (k : Int) = some k := by rw [ixN_int (by omega) (by omega), Int.toNat_natCast]
theorem cut_le {xs : List V} {lo hi : Option Int} {n : Nat} (h : xs.length ≤ n) : (cutV xs lo hi).length ≤ n := Nat.le_trans (cutV_length xs lo hi) h
theorem sc_law_lines_otherwise : FnScope ["purse", "table", "first", "other", "line", "some", "kind", "rows"] ["purse", "table"] (defScope st_law_lines_otherwise) := ⟨rfl, rfl, rfl, by decide +kernel, rfl, by decide +kernel, by decide +kernel⟩
theorem ok_law_lines_otherwise {f : Addr} {fd : FuncData} (B : Blt mg) (F : Fun K "_law_lines_otherwise" "_law_lines_otherwise" st_law_lines_otherwise f fd) (h_law_next : Has P w K mg base "_law_next" 1 ["purse"] spNext) : FnOk P w K mg base CX0 2 f fd ["purse", "table"] spLinesT := by
  refine F.ok sc_law_lines_otherwise (fun vs H Q E h => ?_) (fun cdv A outer s H vs Q E hr h => ?_)
  · obtain ⟨p, t, B, ts, rfl, _⟩ := h
    rfl
  · obtain ⟨p, t, Bd, ts, rfl, hp, td, htl, hint, q⟩ := h
    have hu := hr.units0
    have hu1 := hu_of hr
    have hs : sizeLine = 16777216 := sizeLine_eq
    have htp := td.pos
    refine ⟨_, (pss_cons (ps_set (i := 2) sc_law_lines_otherwise.nd rfl (Or.inl rfl) (pe_op op_mod (pe_callH h_law_next (hr.mono (by decide)) (by rfl) (pa_cons (pv 0) pa_nil)) (pe_callB (lenK (K := K) rfl) (by rfl) B.len PySem.boot_len (pa_cons (pv 1) pa_nil))))
  (pss_cons (ps_set (i := 3) sc_law_lines_otherwise.nd rfl (Or.inl rfl) (pe_op op_mod (pe_callH h_law_next (hr.mono (by decide)) (by rfl) (pa_cons (pv 0) pa_nil)) (pe_callB (lenK (K := K) rfl) (by rfl) B.len PySem.boot_len (pa_cons (pv 1) pa_nil))))
  (pss_cons (ps_set (i := 4) sc_law_lines_otherwise.nd rfl (Or.inl rfl) (pe_ix (ixK (K := K) rfl) (pv 1) (pv 2) (fun _ _ => rfl)))
  (pss_cons (QS.un (qs_set (i := 5) sc_law_lines_otherwise.nd rfl (Or.inl rfl) (qe_lst (qa_cons (pe_slice (slK (K := K) rfl) (pv 4) po_none (po_some (pe_un un_neg pe_int))) (qa_cons (pe_op op_cat (pv 4) (pe_slice (slK (K := K) rfl) (pv 4) (po_some (pe_un un_neg pe_int)) po_none)) (qa_cons (pe_slice (slK (K := K) rfl) (pv 4) (po_some pe_int) po_none) (qa_cons (pe_op op_cat (pe_lst (pa_cons pe_int pa_nil)) (pv 4)) (qa_cons (pe_callTy call_tuple_of (by rfl) B.tuple boot_tuple' (pa_cons (pv 4) pa_nil)) (qa_cons pe_non (qa_cons (pe_lst pa_nil) (qa_cons pe_str (qa_cons pe_dnewK (qa_cons (pe_ix (ixK (K := K) rfl) (pv 4) pe_int (fun _ _ => rfl)) qa_nil)))))))))))))
  (pss_cons (ps_set (i := 6) sc_law_lines_otherwise.nd rfl (Or.inl rfl) (pe_op op_mod (pe_callH h_law_next (hr.mono (by decide)) (by rfl) (pa_cons (pv 0) pa_nil)) pe_int))
  (pss_cons (ps_if (pt_cmpR op_lt (pv 6) pe_int (nomark _))
  (pss_one (ps_ret (pe_op op_cat (pe_op op_cat (pe_slice (slK (K := K) rfl) (pv 1) po_none (po_some (pv 2))) (pe_lst (pa_cons (pe_ix (ixK (K := K) rfl) (pv 5) (pv 6) (fun _ _ => rfl)) pa_nil))) (pe_slice (slK (K := K) rfl) (pv 1) (po_some (pe_op op_add (pv 2) pe_int)) po_none))))
  pss_nil)
  (pss_cons (ps_if (pt_cmpR op_eq (pv 6) pe_int (nomark _))
  (pss_one (ps_ret (pe_op op_cat (pe_slice (slK (K := K) rfl) (pv 1) po_none (po_some (pv 2))) (pe_slice (slK (K := K) rfl) (pv 1) (po_some (pe_op op_add (pv 2) pe_int)) po_none))))
  pss_nil)
  (pss_cons (ps_if (pt_cmpR op_eq (pv 6) pe_int (nomark _))
  (pss_one (ps_ret (pe_op op_cat (pe_op op_cat (pe_slice (slK (K := K) rfl) (pv 1) po_none (po_some (pv 2))) (pe_lst (pa_cons (pv 4) pa_nil))) (pe_slice (slK (K := K) rfl) (pv 1) (po_some (pv 2)) po_none))))
  pss_nil)
  (pss_cons (ps_if (pt_cmpR op_eq (pv 6) pe_int (nomark _))
  (pss_cons (ps_set (i := 7) sc_law_lines_otherwise.nd rfl (Or.inl rfl) (pe_callTy (listK (K := K) rfl) (by rfl) B.list boot_list' (pa_cons (pv 1) pa_nil)))
  (pss_cons (ps_asg (pe_ix (ixK (K := K) rfl) (pv 1) (pv 3) (fun _ _ => rfl)) (pg_sub (pv 7) (pv 2) set_list))
  (pss_cons (ps_asg (pv 4) (pg_sub (pv 7) (pv 3) set_list))
  (pss_one (ps_ret (pv 7))))))
  pss_nil)
  (pss_cons (ps_if (pt_cmpR op_eq (pv 6) pe_int (nomark _))
  (pss_one (ps_ret (pe_callTy call_tuple_of (by rfl) B.tuple boot_tuple' (pa_cons (pv 1) pa_nil))))
  pss_nil)
  (pss_one (ps_ret (pe_ix (ixK (K := K) rfl) (pe_lst (pa_cons (pe_ix (ixK (K := K) rfl) (pe_lst (pa_cons (pe_slice (slK (K := K) rfl) (pv 1) (po_some pe_int) po_none) (pa_cons (pe_slice (slK (K := K) rfl) (pv 1) po_none (po_some (pe_un un_neg pe_int))) pa_nil))) (pe_op op_sub (pv 6) pe_int) (fun _ _ => rfl)) (pa_cons (pe_op op_cat (pv 1) (pe_lst (pa_cons (pe_lst (pa_cons pe_int pa_nil)) pa_nil))) pa_nil))) (pe_op op_mod (pe_callH h_law_next (hr.mono (by decide)) (by rfl) (pa_cons (pv 0) pa_nil)) pe_int) (fun _ _ => rfl)))))))))))))), ?_⟩
    refine ⟨_, rfl, p, rfl, hp, fun r1 H1 r10 hp1 sx1 => ?_⟩
    have td1 := td.sx sx1
    refine ⟨_, rfl, t, _, rfl, .inl (SqL.of td1.ob), _, _, rfl, rfl, (show (0 : Int) < ((ts.map V.ref).length : Int) by rw [List.length_map]; omega), ?_⟩
    rw [List.length_map]
    have f0 := Int.emod_nonneg r1 (show (ts.length : Int) ≠ 0 by omega)
    have f1 := Int.emod_lt_of_pos r1 (show (0 : Int) < (ts.length : Int) by omega)
    dsimp only [L2.start, List.set]
    generalize r1 % (ts.length : Int) = f' at f0 f1
    obtain ⟨f, rfl⟩ : ∃ f : Nat, f' = (f : Int) := ⟨f'.toNat, by omega⟩
    obtain ⟨l, hfl, hlm, hat⟩ := refs_at (ts := ts) (f := f) (by omega)
    refine ⟨_, rfl, p, rfl, hp1, fun r2 H2 r20 hp2 sx2 => ?_⟩
    have x2 := sx1.trans sx2
    have td2 := td.sx x2
    refine ⟨_, rfl, t, _, rfl, .inl (SqL.of td2.ob), _, _, rfl, rfl, (show (0 : Int) < ((ts.map V.ref).length : Int) by rw [List.length_map]; omega), ?_⟩
    rw [List.length_map]
    have g0 := Int.emod_nonneg r2 (show (ts.length : Int) ≠ 0 by omega)
    have g1 := Int.emod_lt_of_pos r2 (show (0 : Int) < (ts.length : Int) by omega)
    dsimp only [List.set]
    generalize r2 % (ts.length : Int) = o' at g0 g1
    obtain ⟨o, rfl⟩ : ∃ o : Nat, o' = (o : Int) := ⟨o'.toNat, by omega⟩
    obtain ⟨l2, hol, hom, hato⟩ := refs_at (ts := ts) (f := o) (by omega)
    obtain ⟨xs, ln⟩ := td2.ln l hlm
    have hxp := ln.pos
    have hxl := ln.len
    refine ⟨_, rfl, _, rfl, t, _, _, _, rfl, rfl, SqL.of td2.ob, hat, ?_⟩
    dsimp only [List.set]
    have el := ln.ob
    obtain ⟨x0, hx0, hx0m⟩ := atI_mem (xs := xs) (r := 0) (by decide) (by omega)
    obtain ⟨n0, rfl⟩ : ∃ n : Int, x0 = .int n := by
      obtain ⟨ns, en⟩ := hint l hlm
      rw [x2 _ _ ln.ne en] at el
      injection el with el
      injection el with el
      subst el
      obtain ⟨n, _, e⟩ := List.mem_map.mp hx0m
      exact ⟨n, e.symm⟩
    clear td1 sx1 sx2 hp1 hp r10 r20 f0 g0 hint
    refine ⟨_, rfl, 1, rfl, -1, rfl, l, _, rfl, SqL.of el, fun p1 n1 => ?_⟩
    generalize h1 : upd H2 p1 _ = G1
    have s1 : Same H2 G1 := h1 ▸ Same.new n1
    have e1 := (congrFun h1 p1).symm.trans upd_same
    have m1 := hp2.ne n1
    have hg1 := hp2.same s1
    refine ⟨_, rfl, _, rfl, 1, rfl, -1, rfl, l, _, rfl, SqL.of (s1 _ _ el), fun p2 n2 => ?_⟩
    generalize h2 : upd G1 p2 _ = G2
    have s2 : Same G1 G2 := h2 ▸ Same.new n2
    have e2 := (congrFun h2 p2).symm.trans upd_same
    have hg2 := hg1.same s2
    refine ⟨l, p2, _, _, rfl, rfl, s2 _ _ (s1 _ _ el), e2, by have := cutV_length xs (some (-1)) none; omega, fun p3 n3 => ?_⟩
    generalize h3 : upd G2 p3 _ = G3
    have s3 : Same G2 G3 := h3 ▸ Same.new n3
    have e3 := (congrFun h3 p3).symm.trans upd_same
    have m3 := hg2.ne n3
    have hg3 := hg2.same s3
    have s03 := s1.trans (s2.trans s3)
    refine ⟨_, rfl, 1, rfl, l, _, rfl, SqL.of (s03 _ _ el), fun p4 n4 => ?_⟩
    generalize h4 : upd G3 p4 _ = G4
    have s4 : Same G3 G4 := h4 ▸ Same.new n4
    have e4 := (congrFun h4 p4).symm.trans upd_same
    have m4 := hg3.ne n4
    have hg4 := hg3.same s4
    refine ⟨by show 1 ≤ sizeLine; decide, fun p5 n5 => ?_⟩
    generalize h5 : upd G4 p5 _ = G5
    have s5 : Same G4 G5 := h5 ▸ Same.new n5
    have e5 := (congrFun h5 p5).symm.trans upd_same
    have hg5 := hg4.same s5
    have s05 := s03.trans (s4.trans s5)
    refine ⟨_, rfl, p5, l, _, _, rfl, rfl, e5, s05 _ _ el, by show 1 + _ ≤ _; omega, fun p6 n6 => ?_⟩
    generalize h6 : upd G5 p6 _ = G6
    have s6 : Same G5 G6 := h6 ▸ Same.new n6
    have e6 := (congrFun h6 p6).symm.trans upd_same
    have m6 := hg5.ne n6
    have hg6 := hg5.same s6
    have s06 := s05.trans s6
    refine ⟨_, rfl, l, _, rfl, .inl ⟨SqL.of (s06 _ _ el), fun p7 n7 => ?_⟩⟩
    generalize h7 : upd G6 p7 _ = G7
    have s7 : Same G6 G7 := h7 ▸ Same.new n7
    have e7 := (congrFun h7 p7).symm.trans upd_same
    have m7 := hg6.ne n7
    have hg7 := hg6.same s7
    refine ⟨by show 0 ≤ sizeLine; decide, fun p8 n8 => ?_⟩
    generalize h8 : upd G7 p8 _ = G8
    have s8 : Same G7 G8 := h8 ▸ Same.new n8
    have e8 := (congrFun h8 p8).symm.trans upd_same
    have m8 := hg7.ne n8
    have hg8 := hg7.same s8
    refine fun p9 n9 => ?_
    generalize h9 : upd G8 p9 _ = G9
    have s9 : Same G8 G9 := h9 ▸ Same.new n9
    have e9 := (congrFun h9 p9).symm.trans upd_same
    have m9 := hg8.ne n9
    have hg9 := hg8.same s9
    have s79 := s7.trans (s8.trans s9)
    have s09 := s06.trans s79
    refine ⟨_, rfl, l, _, _, _, rfl, rfl, SqL.of (s09 _ _ el), hx0, by show 10 ≤ sizeLine; decide, fun S nS => ?_⟩
    generalize hS : upd G9 S _ = GS
    have sS : Same G9 GS := hS ▸ Same.new nS
    have eS := (congrFun hS S).symm.trans upd_same
    have mS := hg9.ne nS
    have hgS := hg9.same sS
    have s0S := s09.trans sS
    have s9S := sS
    have s8S := s9.trans s9S
    have s7S := s8.trans s8S
    have s6S := s7.trans s7S
    have s5S := s6.trans s6S
    have s4S := s5.trans s5S
    have s3S := s4.trans s4S
    have s1S := s2.trans (s3.trans s3S)
    replace e1 := s1S _ _ e1
    replace e3 := s3S _ _ e3
    replace e4 := s4S _ _ e4
    replace e6 := s6S _ _ e6
    replace e7 := s7S _ _ e7
    replace e8 := s8S _ _ e8
    replace e9 := s9S _ _ e9
    dsimp only [List.set]
    clear h1 h2 h3 h4 h5 h6 h7 h8 h9 hS n1 n2 n3 n4 n5 n6 n7 n8 n9 nS s1 s2 s3 s4 s5 s6 s7 s8 s9 sS s03 s05 s06 s79 s09 s9S s8S s7S s6S s5S s4S s3S s1S hg1 hg2 hg3 hg4 hg5 hg6 hg7 hg8 hg9 e2 e5
    -- kind
    refine ⟨_, rfl, p, rfl, hgS, fun r3 H4 r30 hp4 sx4 => ⟨_, _, rfl, rfl, (show (0 : Int) < 16 by decide), ?_⟩⟩
    have k0 := Int.emod_nonneg r3 (show (16 : Int) ≠ 0 by decide)
    have k1 := Int.emod_lt_of_pos r3 (show (0 : Int) < 16 by decide)
    dsimp only [List.set]
    generalize r3 % 16 = kd at k0 k1
    have x4 : SameX p H2 H4 := s0S.x.trans sx4
    have x04 := x2.trans x4
    have td4 := td2.sx x4
    have ln4 := ln.sx x4
    replace eS := sx4 _ _ mS eS
    replace e1 := sx4 _ _ m1 e1
    replace e3 := sx4 _ _ m3 e3
    replace e4 := sx4 _ _ m4 e4
    replace e6 := sx4 _ _ m6 e6
    replace e7 := sx4 _ _ m7 e7
    replace e8 := sx4 _ _ m8 e8
    replace e9 := sx4 _ _ m9 e9
    have thr := td4.th
    have fin : ∀ (H' : Hp) (r : Addr) (ys : List V), Same H4 H' → H4 r = none → H' r = some (.lst ys) → ys.length ≤ 300 → (∀ y ∈ ys, ThH p H4 y 1000) → Q (.ref r) H' := fun H' r ys s' nr e hl hy =>
      q _ H' (hp4.same s') (x04.trans s'.x) (.lst e (hp4.ne nr) hl fun y hm => (hy y hm).sx s'.x)
    have sub : ∀ {ys : List V} {a : Addr}, H4 a = some (.lst ys) → a ≠ p → ys.length ≤ 1000 → (∀ y ∈ ys, y ∈ xs) → ThH p H4 (.ref a) 1000 := fun e m hl hy => .lst e m hl fun y hm => ln4.th y (hy y hm)
    have q'' : ∀ (v : V) (H' : Hp), PurseAt H' p → SameX p H4 H' → ThTp p H' v → Q v H' := fun v H' h1 h2 h3 => q v H' h1 (x04.trans h2) h3
    have q' : ∀ (v : V) (H' : Hp), PurseAt H' p → Same H4 H' → ThTp p H' v → Q v H' := fun v H' h1 h2 h3 => q'' v H' h1 h2.x h3
    clear hgS s0S x2 x4 sx4 td2 td ln hp2 q x04
    refine ⟨_, rfl, _, _, rfl, rfl, _, rfl, ite2 (fun z => ?_) (fun z => ?_)⟩
    · have z' : kd < 10 := of_decide_eq_true z
      refine ⟨_, rfl, _, rfl, f, rfl, t, _, rfl, SqL.of td4.ob, fun q1 n1 => ?_⟩
      rw [cutV_take]
      have s1 := Same.new (o := .lst ((ts.map V.ref).take f)) n1
      obtain ⟨y, hy, hym⟩ := pickL eS k0 (by show kd < 10; exact z')
      refine ⟨_, rfl, _, rfl, S, _, _, _, rfl, rfl, SqL.of (s1 _ _ eS), hy, by show 1 ≤ sizeLine; decide, fun q2 n2 => ?_⟩
      refine ⟨q1, q2, _, _, rfl, rfl, Same.new n2 _ _ upd_same, upd_same, by rw [List.length_take, List.length_map]; show _ + 1 ≤ _; omega, fun q3 n3 => ?_⟩
      have s3 := (s1.trans (Same.new (o := .lst [y]) n2)).trans (Same.new (o := .lst ((ts.map V.ref).take f ++ [y])) n3)
      have e3' := upd_same (H := upd (upd H4 q1 (.lst ((ts.map V.ref).take f))) q2 (.lst [y])) (a := q3) (o := .lst ((ts.map V.ref).take f ++ [y]))
      generalize upd (upd (upd H4 q1 (.lst ((ts.map V.ref).take f))) q2 (.lst [y])) q3 (.lst ((ts.map V.ref).take f ++ [y])) = G3 at s3 e3' ⊢
      refine ⟨_, rfl, _, rfl, _, _, rfl, rfl, (f : Int) + 1, rfl, t, _, rfl, SqL.of (s3 _ _ td4.ob), fun q4 n4 => ?_⟩
      rw [cutV_drop']
      refine ⟨q3, q4, _, _, rfl, rfl, Same.new n4 _ _ e3', upd_same, by rw [List.length_append, List.length_take, List.length_drop, List.length_map]; show _ + 1 + _ ≤ _; omega, fun q5 n5 => ?_⟩
      have s4 := s3.trans (Same.new (o := .lst ((ts.map V.ref).drop (f + 1))) n4)
      refine fin _ q5 _ (s4.trans (Same.new n5)) (s4.free n5) upd_same (by rw [List.length_append, List.length_append, List.length_take, List.length_drop, List.length_map]; show _ + 1 + _ ≤ _; omega) fun v hv => ?_
      rcases List.mem_append.mp hv with hv | hv
      · rcases List.mem_append.mp hv with hv | hv
        · exact thr v (List.mem_of_mem_take hv)
        · rw [List.mem_singleton.mp hv]
          simp only [List.mem_cons, List.not_mem_nil, or_false] at hym
          rcases hym with rfl | rfl | rfl | rfl | rfl | rfl | rfl | rfl | rfl | rfl
          · exact sub e1 m1 (cut_le (by omega)) fun y => cutV_mem
          · exact sub e3 m3 (by have := cutV_length xs (some (-1)) none; rw [List.length_append]; omega) fun y hy => (List.mem_append.mp hy).elim id cutV_mem
          · exact sub e4 m4 (cut_le (by omega)) fun y => cutV_mem
          · exact .lst e6 m6 (by rw [List.length_append]; show 1 + _ ≤ _; omega) fun y hy => (List.mem_append.mp hy).elim (fun hy => by rw [List.mem_singleton.mp hy]; exact ⟨.int _, fun z => by cases z⟩) fun hy => ln4.th y hy
          · exact .tup e7 m7
          · exact .flat .non (fun _ z => by cases z)
          · exact .lst e8 m8 (by show 0 ≤ 1000; decide) fun y hy => by cases hy
          · exact .flat (.str _) (fun _ z => by cases z)
          · exact .dK e9 m9
          · exact .flat (.int _) (fun _ z => by cases z)
      · exact thr v (List.mem_of_mem_drop hv)
    refine ⟨_, rfl, rfl, _, rfl, ite2 (fun z => ?_) (fun z => ?_)⟩
    · refine ⟨_, rfl, _, rfl, f, rfl, t, _, rfl, SqL.of td4.ob, fun q1 n1 => ?_⟩
      rw [cutV_take]
      have s1 := Same.new (o := .lst ((ts.map V.ref).take f)) n1
      refine ⟨_, rfl, _, rfl, _, _, rfl, rfl, (f : Int) + 1, rfl, t, _, rfl, SqL.of (s1 _ _ td4.ob), fun q4 n4 => ?_⟩
      rw [cutV_drop']
      refine ⟨q1, q4, _, _, rfl, rfl, Same.new n4 _ _ upd_same, upd_same, by rw [List.length_take, List.length_drop, List.length_map]; omega, fun q5 n5 => ?_⟩
      have s4 := s1.trans (Same.new (o := .lst ((ts.map V.ref).drop (f + 1))) n4)
      refine fin _ q5 _ (s4.trans (Same.new n5)) (s4.free n5) upd_same (by rw [List.length_append, List.length_take, List.length_drop, List.length_map]; omega) fun v hv => ?_
      rcases List.mem_append.mp hv with hv | hv
      · exact thr v (List.mem_of_mem_take hv)
      · exact thr v (List.mem_of_mem_drop hv)
    refine ⟨_, rfl, rfl, _, rfl, ite2 (fun z => ?_) (fun z => ?_)⟩
    · refine ⟨_, rfl, _, rfl, f, rfl, t, _, rfl, SqL.of td4.ob, fun q1 n1 => ?_⟩
      rw [cutV_take]
      have s1 := Same.new (o := .lst ((ts.map V.ref).take f)) n1
      refine ⟨_, rfl, by show 1 ≤ sizeLine; decide, fun q2 n2 => ⟨q1, q2, _, _, rfl, rfl, Same.new n2 _ _ upd_same, upd_same, by rw [List.length_take, List.length_map]; show _ + 1 ≤ _; omega, fun q3 n3 => ?_⟩⟩
      have s3 := (s1.trans (Same.new (o := .lst [V.ref l]) n2)).trans (Same.new (o := .lst ((ts.map V.ref).take f ++ [V.ref l])) n3)
      have e3' := upd_same (H := upd (upd H4 q1 (.lst ((ts.map V.ref).take f))) q2 (.lst [V.ref l])) (a := q3) (o := .lst ((ts.map V.ref).take f ++ [V.ref l]))
      generalize upd (upd (upd H4 q1 (.lst ((ts.map V.ref).take f))) q2 (.lst [V.ref l])) q3 (.lst ((ts.map V.ref).take f ++ [V.ref l])) = G3 at s3 e3' ⊢
      refine ⟨_, rfl, _, rfl, f, rfl, t, _, rfl, SqL.of (s3 _ _ td4.ob), fun q4 n4 => ?_⟩
      rw [cutV_drop]
      refine ⟨q3, q4, _, _, rfl, rfl, Same.new n4 _ _ e3', upd_same, by rw [List.length_append, List.length_take, List.length_drop, List.length_map]; show _ + 1 + _ ≤ _; omega, fun q5 n5 => ?_⟩
      have s4 := s3.trans (Same.new (o := .lst ((ts.map V.ref).drop f)) n4)
      refine fin _ q5 _ (s4.trans (Same.new n5)) (s4.free n5) upd_same (by rw [List.length_append, List.length_append, List.length_take, List.length_drop, List.length_map]; show _ + 1 + _ ≤ _; omega) fun v hv => ?_
      rcases List.mem_append.mp hv with hv | hv
      · rcases List.mem_append.mp hv with hv | hv
        · exact thr v (List.mem_of_mem_take hv)
        · rw [List.mem_singleton.mp hv]; exact ln4.h
      · exact thr v (List.mem_of_mem_drop hv)
    refine ⟨_, rfl, rfl, _, rfl, ite2 (fun z => ?_) (fun z => ?_)⟩
    · refine ⟨_, rfl, t, _, rfl, .inl (SqL.of td4.ob), fun R nR => ?_⟩
      have sR := Same.new (o := .lst (ts.map V.ref)) nR
      refine ⟨_, rfl, _, rfl, t, _, _, _, rfl, rfl, SqL.of (sR _ _ td4.ob), hato, _, rfl, _, rfl, R, _, _, f, rfl, rfl, upd_same, ixN_nat (by rw [List.length_map]; omega), ?_⟩
      refine ⟨_, rfl, _, rfl, _, rfl, R, _, _, o, rfl, rfl, upd_same, ixN_nat (by rw [List.length_set, List.length_map]; omega), ?_⟩
      refine ⟨_, rfl, fin _ R _ ((sR.fresh nR).fresh nR) nR upd_same (by rw [List.length_set, List.length_set, List.length_map]; omega) fun v hv => ?_⟩
      rcases List.mem_or_eq_of_mem_set hv with hv | rfl
      · rcases List.mem_or_eq_of_mem_set hv with hv | rfl
        · exact thr v hv
        · exact thr _ (List.mem_map.mpr ⟨l2, hom, rfl⟩)
      · exact ln4.h
    refine ⟨_, rfl, rfl, _, rfl, ite2 (fun z => ?_) (fun z => ?_)⟩
    · refine ⟨_, rfl, t, _, rfl, .inl ⟨SqL.of td4.ob, fun R nR => ?_⟩⟩
      have sR := Same.new (o := .tup (ts.map V.ref)) nR
      exact q' _ _ (hp4.same sR) sR (.tup upd_same (hp4.ne nR))
    have kd2 : kd - 14 = 0 ∨ kd - 14 = 1 := by
      have h1 : ¬ kd < 10 := fun y => by simp_all
      have h2 : ¬ kd = 10 := fun y => by simp_all
      have h3 : ¬ kd = 11 := fun y => by simp_all
      have h4 : ¬ kd = 12 := fun y => by simp_all
      have h5 : ¬ kd = 13 := fun y => by simp_all
      omega
    refine ⟨_, rfl, 1, rfl, t, _, rfl, SqL.of td4.ob, fun a1 n1 => ?_⟩
    have s1 := Same.new (o := .lst (cutV (ts.map V.ref) (some 1) none)) n1
    refine ⟨_, rfl, 1, rfl, -1, rfl, t, _, rfl, SqL.of (s1 _ _ td4.ob), fun a2 n2 => ?_⟩
    have s2 := Same.new (o := .lst (cutV (ts.map V.ref) none (some (-1)))) n2
    have e1' := s2 _ _ (upd_same (H := H4) (a := a1) (o := .lst (cutV (ts.map V.ref) (some 1) none)))
    have e2' := upd_same (H := upd H4 a1 (.lst (cutV (ts.map V.ref) (some 1) none))) (a := a2) (o := .lst (cutV (ts.map V.ref) none (some (-1))))
    have s02 := s1.trans s2
    have nn2 := s1.free n2
    generalize upd (upd H4 a1 (.lst (cutV (ts.map V.ref) (some 1) none))) a2 (.lst (cutV (ts.map V.ref) none (some (-1)))) = G2 at s02 e1' e2' ⊢
    clear s1 s2 n2
    refine ⟨by show 2 ≤ sizeLine; decide, fun a3 n3 => ?_⟩
    have s3 := Same.new (o := .lst [V.ref a1, .ref a2]) n3
    have ch : ∃ c ys, atI [V.ref a1, V.ref a2] (kd - 14) = some (.ref c) ∧ H4 c = none ∧ G2 c = some (.lst ys) ∧ ys.length ≤ 300 ∧ ∀ y ∈ ys, y ∈ ts.map V.ref := by
      rcases kd2 with e | e
      · rw [e]; exact ⟨a1, _, rfl, n1, e1', cut_le (by rw [List.length_map]; omega), fun y => cutV_mem⟩
      · rw [e]; exact ⟨a2, _, rfl, nn2, e2', cut_le (by rw [List.length_map]; omega), fun y => cutV_mem⟩
    obtain ⟨c, ys, hc, nc, ec, hyl, hys⟩ := ch
    refine ⟨_, rfl, _, _, rfl, rfl, a3, _, _, _, rfl, rfl, SqL.of upd_same, hc, ?_⟩
    have s03 := s02.trans s3
    have ec3 := s3 _ _ ec
    generalize upd G2 a3 (.lst [V.ref a1, .ref a2]) = G3 at s03 ec3 ⊢
    clear e1' e2' s3 n3 s02 ec hc nn2 n1
    refine ⟨_, rfl, by show 1 ≤ sizeLine; decide, fun a4 n4 => ⟨by show 1 ≤ sizeLine; decide, fun a5 n5 => ?_⟩⟩
    have s4 := Same.new (o := .lst [V.int 0]) n4
    have s5 := Same.new (o := .lst [V.ref a4]) n5
    have s05 := s03.trans (s4.trans s5)
    have e4' := s5 _ _ (upd_same (H := G3) (a := a4) (o := .lst [V.int 0]))
    have nn4 := s03.free n4
    refine ⟨t, a5, _, _, rfl, rfl, s05 _ _ td4.ob, upd_same, by rw [List.length_map]; show _ + 1 ≤ _; omega, fun a6 n6 => ?_⟩
    have s6 := Same.new (o := .lst (ts.map V.ref ++ [V.ref a4])) n6
    have nn6 := s05.free n6
    have e6' := upd_same (H := upd (upd G3 a4 (.lst [V.int 0])) a5 (.lst [V.ref a4])) (a := a6) (o := .lst (ts.map V.ref ++ [V.ref a4]))
    have e4'' := s6 _ _ e4'
    have ec6 := s6 _ _ ((s4.trans s5) _ _ ec3)
    have s06 := s05.trans s6
    generalize upd (upd (upd G3 a4 (.lst [V.int 0])) a5 (.lst [V.ref a4])) a6 (.lst (ts.map V.ref ++ [V.ref a4])) = G6 at s06 e6' e4'' ec6 ⊢
    clear s4 s5 s6 n4 n5 n6 e4' ec3 s03 s05
    refine ⟨by show 2 ≤ sizeLine; decide, fun a7 n7 => ?_⟩
    have s7 := Same.new (o := .lst [V.ref c, .ref a6]) n7
    have s07 := s06.trans s7
    have hp7 := hp4.same s07
    refine ⟨_, rfl, p, rfl, hp7, fun r4 H8 r40 hp8 sx8 => ⟨_, _, rfl, rfl, (show (0 : Int) < 2 by decide), ?_⟩⟩
    have m7 := (hp4.same s06).ne n7
    obtain ⟨y, hy, hym⟩ := pickL (r := r4 % 2) (upd_same (H := G6) (a := a7) (o := .lst [V.ref c, .ref a6])) (Int.emod_nonneg _ (by decide)) (Int.emod_lt_of_pos _ (by decide))
    refine ⟨a7, _, _, _, rfl, rfl, SqL.of (sx8 _ _ m7 upd_same), hy, ?_⟩
    have x8 : SameX p H4 H8 := s07.x.trans sx8
    refine q'' _ _ hp8 x8 ?_
    simp only [List.mem_cons, List.not_mem_nil, or_false] at hym
    rcases hym with rfl | rfl
    · exact .lst (sx8 _ _ (hp4.ne nc) (s7 _ _ ec6)) (hp4.ne nc) hyl fun v hv => (thr v (hys v hv)).sx x8
    · refine .lst (sx8 _ _ (hp4.ne nn6) (s7 _ _ e6')) (hp4.ne nn6) (by rw [List.length_append, List.length_map]; show _ + 1 ≤ _; omega) fun v hv => ?_
      rcases List.mem_append.mp hv with hv | hv
      · exact (thr v hv).sx x8
      · rw [List.mem_singleton.mp hv]
        exact .lst (sx8 _ _ (hp4.ne nn4) (s7 _ _ e4'')) (hp4.ne nn4) (by show 1 ≤ 1000; decide) fun y hy => by rw [List.mem_singleton.mp hy]; exact ⟨.int _, fun z => by cases z⟩
end
abbrev stlaw : Stmt := top 37
section
variable {P : Program} {w : World} {K : PySem.W.Frag} {mg : Str → Option Value} {base : Heap}
open My
def spLaw (K : PySem.W.Frag) : Sp := fun vs H Q _ => ∃ (a : Addr) (ns : List Int), vs = [.ref a] ∧ SqL K H a (ns.map V.int) ∧ ns.length ≤ 63 ∧ ∀ H', Q (.bl true) H'
theorem ThK.sxl {H H' : Hp} {c : Addr} {vs vs' : List V} {x : V} (t : ThK H x) (s : SameX c H H') (e : H c = some (.lst vs)) (e' : H' c = some (.lst vs')) : ThK H' x := by
  cases t with
  | lst q =>
    rename_i a xs
    by_cases h : a = c
    · subst h; exact .lst e'
    · exact .lst (s _ _ h q)
  | tup q => exact .tup (s _ _ (fun h => by subst h; rw [e] at q; cases q) q)
  | dK q => exact .dK (s _ _ (fun h => by subst h; rw [e] at q; cases q) q)
  | non => exact .non
  | bl b => exact .bl b
  | int i => exact .int i
  | str z => exact .str z
theorem back_sxl {H H' : Hp} {c a : Addr} {vs xs : List V} (t : ThK H (.ref a)) (s : SameX c H H') (h : a ≠ c) (q : H' a = some (.lst xs)) : H a = some (.lst xs) := by
  cases t with
  | lst w => rw [s _ _ h w] at q; injection q with q; injection q with q; subst q; exact w
  | tup w => rw [s _ _ h w] at q; cases q
  | dK w => rw [s _ _ h w] at q; cases q
theorem ThD.sxl {H H' : Hp} {c : Addr} {vs vs' : List V} {x : V} (t : ThD H x) (s : SameX c H H') (e : H c = some (.lst vs)) (e' : H' c = some (.lst vs')) (hl : vs'.length ≤ 1000) (hv : ∀ y ∈ vs', ThK H' y) : ThD H' x := by
  refine ⟨ThK.sxl t.1 s e e', fun a xs z q => ?_⟩
  subst z
  by_cases h : a = c
  · subst h; rw [e'] at q; injection q with q; injection q with q; subst q; exact ⟨hl, hv⟩
  · have w := back_sxl (vs := vs) t.1 s h q
    exact ⟨(t.2 a xs rfl w).1, fun y hy => ThK.sxl ((t.2 a xs rfl w).2 y hy) s e e'⟩
theorem ThT.sxl {H H' : Hp} {c : Addr} {vs vs' : List V} {x : V} (t : ThT H x) (s : SameX c H H') (e : H c = some (.lst vs)) (e' : H' c = some (.lst vs')) (hl : vs'.length ≤ 300) (hv : ∀ y ∈ vs', ThD H' y) : ThT H' x := by
  refine ⟨ThK.sxl t.1 s e e', fun a xs z q => ?_⟩
  subst z
  by_cases h : a = c
  · subst h; rw [e'] at q; injection q with q; injection q with q; subst q; exact ⟨hl, hv⟩
  · have w := back_sxl (vs := vs) t.1 s h q
    exact ⟨(t.2 a xs rfl w).1, fun y hy => ThD.sxl ((t.2 a xs rfl w).2 y hy) s e e' (by omega) fun y hy => (hv y hy).1⟩
theorem thT_d {H : Hp} {x : V} (t : ThT H x) : ThD H x := ⟨t.1, fun a xs e q => ⟨Nat.le_trans (t.2 a xs e q).1 (by decide), fun y hy => ((t.2 a xs e q).2 y hy).1⟩⟩
theorem ThT.px {p : Addr} {H H' : Hp} {x : V} (t : ThT H x) (hp : PurseAt H p) (hp' : PurseAt H' p) (s : SameX p H H') : ThT H' x := by
  obtain ⟨ps, e, _⟩ := hp
  obtain ⟨ps', e', h, _⟩ := hp'
  refine ThT.sxl t s e e' (by rw [List.length_map]; omega) fun y hy => ?_
  obtain ⟨n, _, rfl⟩ := List.mem_map.mp hy
  exact ⟨.int n, fun a xs z => by cases z⟩
theorem ThT.ap {T : Addr} {H : Hp} {vs vs' : List V} {x : V} (t : ThT H x) (e : H T = some (.lst vs)) (hl : vs'.length ≤ 300) (hv : ∀ y ∈ vs', ThT H y) : ThT (upd H T (.lst vs')) x :=
  ThT.sxl t SameX.of_upd e upd_same hl fun y hy => ThD.sxl (thT_d (hv y hy)) SameX.of_upd e upd_same (by omega) fun z hz => ThK.sxl (hv z hz).1 SameX.of_upd e upd_same
theorem tab_D {p S : Addr} {H H' : Hp} {ns : List Int} {as : List Addr} (hp : PurseAt H p) (nS : H S = none) (eS : H' S = some (.lst (as.map V.ref))) (hal : as.length = ns.length + 1) (hn : ns.length ≤ 150) (hat : ∀ (f : Nat) (l : Addr), as[f]? = some l → H l = none ∧ H' l = some (.lst ((lineM ns f).map V.int))) :
    TabD p 1000 H' S as ∧ ∀ l ∈ as, ∃ ms : List Int, H' l = some (.lst (ms.map V.int)) := by
  refine ⟨⟨hp.ne nS, eS, by omega, by omega, fun l hl => ?_⟩, fun l hl => ?_⟩
  · obtain ⟨f, hf⟩ := List.mem_iff_getElem?.mp hl
    have hfl := (List.getElem?_eq_some_iff.mp hf).1
    obtain ⟨nl, el⟩ := hat f l hf
    refine ⟨_, hp.ne nl, el, by rw [List.length_map, line_len]; omega, by rw [List.length_map, line_len]; omega, fun x hx => ?_, fun n hx => ?_⟩
    · obtain ⟨n, _, rfl⟩ := List.mem_map.mp hx
      exact ⟨.int _, fun z => by cases z⟩
    · obtain ⟨m, hm, e⟩ := List.mem_map.mp hx
      injection e with e
      subst e
      unfold lineM at hm
      obtain ⟨k, hk, rfl⟩ := List.mem_map.mp hm
      have hk := List.mem_range.mp hk
      have := cnt_le ns f (f + k)
      omega
  · obtain ⟨f, hf⟩ := List.mem_iff_getElem?.mp hl
    exact ⟨_, (hat f l hf).2⟩
theorem sclaw : FnScope ["script", "k", "purse", "row", "table", "once", "things", "at", "number", "thing"] ["script"] (defScope stlaw) := ⟨rfl, rfl, rfl, by decide +kernel, rfl, by decide +kernel, by decide +kernel⟩
theorem ok_law {f : Addr} {fd : FuncData} (B : Blt mg) (F : Fun K "law" "law" stlaw f fd) (h_law_purse : Has P w K mg base "_law_purse" 2 ["script", "at", "step", "many"] (spPurse K)) (h_law_next : Has P w K mg base "_law_next" 1 ["purse"] spNext) (h_law_row : Has P w K mg base "_law_row" 2 ["purse", "most"] spRowQ)
    (h_law_most : Has P w K mg base "_law_most" 3 ["script", "k"] (spMostP K)) (h_law_lines : Has P w K mg base "_law_lines" 1 ["row"] (spLines K)) (h_law_one_otherwise : Has P w K mg base "_law_one_otherwise" 2 ["purse", "table"] spOneT)
    (h_law_lines_otherwise : Has P w K mg base "_law_lines_otherwise" 2 ["purse", "table"] spLinesT) (h_law_right : Has P w K mg base "_law_right" 6 ["thing"] spRightT) : FnOk P w K mg base CX0 7 f fd ["script"] (spLaw K) := by
  refine F.ok sclaw (fun vs H Q E h => ?_) (fun cdv A outer s H vs Q E hr h => ?_)
  · obtain ⟨a, ns, rfl, _⟩ := h
    rfl
  · obtain ⟨a, ss, rfl, hq, hlen, q⟩ := h
    have hu := hr.units0
    have hu1 := hu_of hr
    have hs : sizeLine = 16777216 := sizeLine_eq
    refine ⟨_, (pss_cons (ps_for PassesOwn.never rfl (pi_range1 (by rfl) B.range (pa_cons pe_int pa_nil)) (pg_name (i := 1) sclaw.nd rfl (Or.inl rfl))
  (pss_cons (ps_set (i := 2) sclaw.nd rfl (Or.inl rfl) (pe_callH h_law_purse (hr.mono (by decide)) (by rfl) (pa_cons (pv 0) (pa_cons (pv 1) (pa_cons pe_int (pa_cons pe_int pa_nil))))))
  (pss_cons (ps_set (i := 3) sclaw.nd rfl (Or.inl rfl) (pe_callH h_law_row (hr.mono (by decide)) (by rfl) (pa_cons (pv 2) (pa_cons (pe_callH h_law_most (hr.mono (by decide)) (by rfl) (pa_cons (pv 0) (pa_cons (pv 1) pa_nil))) pa_nil))))
  (pss_cons (ps_if (pt_cmpR op_eq (pe_op op_mod (pe_callH h_law_next (hr.mono (by decide)) (by rfl) (pa_cons (pv 2) pa_nil)) pe_int) pe_int (nomark _))
  (pss_one (ps_set (i := 3) sclaw.nd rfl (Or.inl rfl) (pe_slice (slK (K := K) rfl) (pv 3) po_none (po_some (pe_op op_add pe_int (pe_op op_mod (pe_callH h_law_next (hr.mono (by decide)) (by rfl) (pa_cons (pv 2) pa_nil)) pe_int))))))
  pss_nil)
  (pss_cons (ps_set (i := 4) sclaw.nd rfl (Or.inl rfl) (pe_callH h_law_lines (hr.mono (by decide)) (by rfl) (pa_cons (pv 3) pa_nil)))
  (pss_cons (ps_set (i := 5) sclaw.nd rfl (Or.inl rfl) (pe_callH h_law_one_otherwise (hr.mono (by decide)) (by rfl) (pa_cons (pv 2) (pa_cons (pv 4) pa_nil))))
  (pss_cons (ps_set (i := 6) sclaw.nd rfl (Or.inl rfl) (pe_lst (pa_cons (pv 5) (pa_cons (pe_callH h_law_lines_otherwise (hr.mono (by decide)) (by rfl) (pa_cons (pv 2) (pa_cons (pv 4) pa_nil))) (pa_cons (pe_callH h_law_one_otherwise (hr.mono (by decide)) (by rfl) (pa_cons (pv 2) (pa_cons (pv 4) pa_nil))) pa_nil)))))
  (pss_cons (ps_if (pt_cmpR (eqLK (K := K) rfl hu) (pe_lc (own := ["line"]) (ix := []) (N := ["line"]) rfl (LcOk.of (by rfl)) (piK (K := K) rfl (pv 5)) (fun _ _ _ _ _ => (pg_name (i := 0) (show (["line"] : List Str).Nodup by decide +kernel) rfl (by first | exact Or.inl rfl | exact Or.inr rfl))) (fun _ _ _ _ _ => (pts_one (PW.pt (pw_or (pt_not (pt_val (pe_callB (isiK (K := K) rfl) (by rfl) B.isinstance boot_isinst' (pa_cons (pv 0) (pa_cons (pe_bltn (v := .ty "list") (by rfl) B.list boot_list' (by rfl)) pa_nil))))) (pw_or1 (pt_cmpR (eqLK (K := K) rfl hu) (pv 0) (pe_lst pa_nil) (nomark _))))))) (fun _ _ _ _ _ => (pv 0))) (pe_lst pa_nil) (nomark _))
  (pss_one (ps_expr (pe_bm PySem.F.plainAttrs_list PySem.F.slot_list_append PySem.F.type_list_append mt_append (pv 6) (pa_cons (pe_callH h_law_one_otherwise (hr.mono (by decide)) (by rfl) (pa_cons (pv 2) (pa_cons (pv 5) pa_nil))) pa_nil))))
  pss_nil)
  (pss_cons (ps_if (pt_cmpR (neLK (K := K) rfl hu) (pv 3) (pe_lst pa_nil) (nomark _))
  (pss_cons (ps_set (i := 7) sclaw.nd rfl (Or.inl rfl) (pe_op op_mod (pe_callH h_law_next (hr.mono (by decide)) (by rfl) (pa_cons (pv 2) pa_nil)) (pe_callB (lenK (K := K) rfl) (by rfl) B.len PySem.boot_len (pa_cons (pv 3) pa_nil))))
  (pss_cons (ps_set (i := 8) sclaw.nd rfl (Or.inl rfl) (pe_ix (ixK (K := K) rfl) (pv 3) (pe_op op_mod (pe_callH h_law_next (hr.mono (by decide)) (by rfl) (pa_cons (pv 2) pa_nil)) (pe_callB (lenK (K := K) rfl) (by rfl) B.len PySem.boot_len (pa_cons (pv 3) pa_nil))) (fun _ _ => rfl)))
  (pss_one (ps_expr (pe_bm PySem.F.plainAttrs_list PySem.F.slot_list_append PySem.F.type_list_append mt_append (pv 6) (pa_cons (pe_callH h_law_lines (hr.mono (by decide)) (by rfl) (pa_cons (pe_op op_cat (pe_op op_cat (pe_slice (slK (K := K) rfl) (pv 3) po_none (po_some (pv 7))) (pe_lst (pa_cons (pv 8) pa_nil))) (pe_slice (slK (K := K) rfl) (pv 3) (po_some (pe_op op_add (pv 7) pe_int)) po_none)) pa_nil)) pa_nil))))))
  pss_nil)
  (pss_one (ps_for PassesOwn.never rfl (piK (K := K) rfl (pe_op op_cat (pv 6) (pe_lst (pa_cons (pv 4) pa_nil)))) (pg_name (i := 9) sclaw.nd rfl (Or.inl rfl))
  (pss_one (ps_if (pt_not (pt_val (pe_callH h_law_right (hr.mono (by decide)) (by rfl) (pa_cons (pv 9) pa_nil))))
  (pss_one (ps_ret pe_bl))
  pss_nil)))))))))))))
  (pss_one (ps_ret pe_bl))), ?_⟩
    refine ⟨_, rfl, by decide, by decide, for_range (fun k σ Hc => ∃ (v1 v2 v3 v4 v5 v6 v7 v8 v9 : Option V), σ = [some (.ref a), v1, v2, v3, v4, v5, v6, v7, v8, v9] ∧ Same H Hc)
      ⟨none, none, none, none, none, none, none, none, none, rfl, Same.refl _⟩ ?_ ?_⟩
    · rintro k σ Hc hk ⟨v1, v2, v3, v4, v5, v6, v7, v8, v9, rfl, sH⟩
      have scr := sH.seq hq
      refine ⟨_, rfl, _, rfl, a, ss, _, _, 110, rfl, scr, hlen, by decide, by decide, fun p H1 n1 s1 hp1 => ?_⟩
      refine ⟨_, rfl, _, rfl, _, rfl, a, ss, _, rfl, s1.seq scr, hlen, by omega, by have : k < 3 := hk; omega, fun m H2 hm1 hm2 s2 => ⟨p, m, 150, rfl, hp1.same s2, by omega, by decide, by decide, fun r ns H3 nr er hn hp3 sx3 => ?_⟩⟩
      have s03 : Same Hc H3 := fun b o e => sx3 _ _ (ne_of_none e n1) (s2 _ _ (s1 _ _ e))
      have nrp : r ≠ p := (hp1.same s2).ne nr
      dsimp only [L2.start, List.set]
      clear sx3 hp1 s1 s2 nr
      refine ⟨_, rfl, p, rfl, hp3, fun r1 H4 r10 hp4 sx4 => ⟨_, _, rfl, rfl, (show (0 : Int) < 2 by decide), rfl, _, rfl, ite2 (fun z => ?A) (fun z => ?B)⟩⟩
      case' A =>
        refine ⟨_, rfl, _, rfl, p, rfl, hp4, fun r2 H5 r20 hp5 sx5 => ⟨_, _, rfl, rfl, (show (0 : Int) < 6 by decide), _, _, rfl, rfl, _, rfl, r, _, rfl, SqL.of (sx5 _ _ nrp (sx4 _ _ nrp er)), fun r' nr' => ?_⟩⟩
        have g0 := Int.emod_nonneg r2 (show (6 : Int) ≠ 0 by decide)
        obtain ⟨mm, hmm⟩ : ∃ mm : Nat, 1 + r2 % 6 = (mm : Int) := ⟨(1 + r2 % 6).toNat, by omega⟩
        rw [hmm, cutV_take, ← List.map_take]
        have s05 : Same Hc H5 := fun b o e => sx5 _ _ (ne_of_none e n1) (sx4 _ _ (ne_of_none e n1) (s03 _ _ e))
        have s6 := s05.trans (Same.new (o := .lst ((ns.take mm).map V.int)) nr')
        have er6 := upd_same (H := H5) (a := r') (o := .lst ((ns.take mm).map V.int))
        have hp6 := hp5.same (Same.new (o := .lst ((ns.take mm).map V.int)) nr')
        have nrp6 := hp5.ne nr'
        have hn6 : (ns.take mm).length ≤ 150 := by rw [List.length_take]; omega
        clear nrp hn er hp5 sx5 hp4 sx4 hp3 s03 s05 nr' hmm
        generalize upd H5 r' (.lst ((ns.take mm).map V.int)) = H6 at s6 er6 hp6 ⊢
        generalize ns.take mm = ms at er6 hn6
        dsimp only [List.set]
      case' B =>
        have s6 : Same Hc H4 := fun b o e => sx4 _ _ (ne_of_none e n1) (s03 _ _ e)
        have er6 := sx4 _ _ nrp er
        have hp6 := hp4
        have nrp6 := nrp
        have hn6 := hn
        clear nrp hn er sx4 hp3 s03 hp4
        revert s6 er6 hp6
        generalize H4 = H6
        intro s6 er6 hp6
        generalize r = r' at er6 nrp6 ⊢
        generalize ns = ms at er6 hn6
      all_goals
        refine ⟨_, rfl, r', ms, rfl, SqL.of er6, by omega, fun S as H7 nS s7 eS hal hat => ?_⟩
        obtain ⟨td, hint⟩ := tab_D hp6 nS eS hal hn6 hat
        have hp7 := hp6.same s7
        have hasl : as.length ≤ 151 := by omega
        refine ⟨_, rfl, _, rfl, p, S, 1000, as, rfl, hp7, td, by decide +kernel, fun o us H8 hp8 sx8 td8 => ?_⟩
        refine ⟨_, rfl, _, rfl, _, rfl, p, S, 1000, as, rfl, hp8, td.sx sx8, by omega, fun l hl => let ⟨ms, e⟩ := hint l hl; ⟨ms, sx8 _ _ (let ⟨_, z⟩ := td.ln l hl; z.ne) e⟩, fun v H9 hp9 sx9 tv => ?_⟩
        have x79 := sx8.trans sx9
        refine ⟨_, rfl, _, rfl, p, S, 1000, as, rfl, hp9, td.sx x79, by decide +kernel, fun o2 us2 H10 hp10 sx10 td10 => ⟨by show 3 ≤ sizeLine; decide, fun T nT => ?_⟩⟩
        have x710 := x79.trans sx10
        have nTr : r' ≠ T := ne_of_none (x710 _ _ nrp6 (s7 _ _ er6)) nT
        have nTc : Hc T = none := by
          cases h : Hc T with
          | none => rfl
          | some ob => rw [x710 _ _ (ne_of_none h n1) (s7 _ _ (s6 _ _ h))] at nT; cases nT
        have sT := Same.new (o := .lst [V.ref o, v, .ref o2]) nT
        have eT := upd_same (H := H10) (a := T) (o := .lst [V.ref o, v, .ref o2])
        have nTp := hp10.ne nT
        have hp11 := hp10.same sT
        have x711 := x710.trans sT.x
        have td11 := td.sx x711
        have tdo := td8.sx (sx9.trans (sx10.trans sT.x))
        have tdo2 := td10.sx (p := p) sT.x
        have tv11 := tv.sx (sx10.trans sT.x)
        have er11 := x711 _ _ nrp6 (s7 _ _ er6)
        have s011 : Same Hc (upd H10 T (.lst [V.ref o, v, .ref o2])) := fun b ob e => x711 _ _ (ne_of_none e n1) (s7 _ _ (s6 _ _ e))
        dsimp only [List.set]
        generalize upd H10 T (.lst [V.ref o, v, .ref o2]) = H11 at sT eT hp11 x711 td11 tdo tdo2 tv11 er11 s011 ⊢
        clear sT nT sx8 sx9 sx10 x79 x710 x711 td10 td8 td hp10 hp9 hp8 hp7 tv hat hint eS nS s7 s6 hp6 er6
        refine ⟨_, rfl, o, rfl, ⟨_, SqL.of tdo.ob⟩, fun D hD => ?_⟩
        have hus := tdo.len
        refine lc_list_ev (cap := []) (xs := us.map V.ref) (fun _ => false) (fun x => x) (small1000 (by rw [List.length_map]; omega)) hD (SqL.of tdo.ob) (fun x H' hx s' Q' kk => ?_) (fun x H' hx h0 => by cases h0) (fun H' s' e' => ?_)
        · obtain ⟨l, hl, rfl⟩ := List.mem_map.mp hx
          obtain ⟨xs, ln⟩ := tdo.ln l hl
          have hl' := s' _ _ ln.ob
          obtain ⟨u, ty, _, _, k3⟩ := (ThK.lst hl').kinds (K := K)
          have hlv : listV H' (.ref l) = true := by
            show (match H' l with | some (.lst _) => true | _ => false) = true
            rw [hl']
          rw [hlv] at k3
          refine ⟨_, rfl, _, "list", _, _, rfl, ty, k3, _, rfl, iteF ⟨_, rfl, by show 0 ≤ sizeLine; decide, fun e ne => eqNil (SqL.of (Same.new ne _ _ hl')) (SqL.of upd_same) ⟨_, rfl, ?_⟩⟩⟩
          have : decide (xs = []) = false := decide_eq_false fun z => by have := ln.pos; rw [z] at this; exact absurd this (by decide)
          rw [this]
          exact kk _ (Same.new ne)
        have e'' : H' D = some (.lst []) := by
          rw [e', List.filter_eq_nil_iff.mpr (fun _ _ => by exact Bool.false_ne_true)]; rfl
        refine ⟨by show 0 ≤ sizeLine; decide, fun ee ne => eqNil (SqL.of (Same.new ne _ _ e'')) (SqL.of upd_same) ⟨_, rfl, iteT ?_⟩⟩
        have sX := s'.trans (Same.new (o := .lst []) ne)
        generalize upd H' ee (.lst []) = H12 at sX ⊢
        clear e'' e' s' hD ne
        refine ⟨_, rfl, .inl ⟨rfl, _, SqL.of (sX _ _ eT)⟩, _, rfl, _, rfl, p, o, _, us, rfl, hp11.same sX, tdo.sx sX.x, by decide +kernel, fun o3 us3 H13 hp13 sx13 td13 => ?_⟩
        have xx := (sX.x (h := p)).trans sx13
        have eT13 := xx _ _ nTp eT
        refine ⟨T, _, _, rfl, rfl, eT13, small1000 (by show 3 ≤ 1000; decide), ?_⟩
        have all13 : ∀ y ∈ [V.ref o, v, .ref o2] ++ [V.ref o3], ThT H13 y := fun y hy => by
          simp only [List.cons_append, List.nil_append, List.mem_cons, List.not_mem_nil, or_false] at hy
          rcases hy with rfl | rfl | rfl | rfl
          · exact (tdo.sx xx).t.t
          · exact (tv11.sx xx).t
          · exact (tdo2.sx xx).t.t
          · exact td13.t.t
        have allA : ∀ y ∈ [V.ref o, v, .ref o2] ++ [V.ref o3], ThT (upd H13 T (.lst ([V.ref o, v, .ref o2] ++ [V.ref o3]))) y := fun y hy => ThT.ap (all13 y hy) eT13 (by show 4 ≤ 300; decide) all13
        have tSA : ThT (upd H13 T (.lst ([V.ref o, v, .ref o2] ++ [V.ref o3]))) (.ref S) := ThT.ap (td11.sx xx).t.t eT13 (by show 4 ≤ 300; decide) all13
        have hpA : PurseAt (upd H13 T (.lst ([V.ref o, v, .ref o2] ++ [V.ref o3]))) p := hp13.put nTp
        have erA : upd H13 T (.lst ([V.ref o, v, .ref o2] ++ [V.ref o3])) r' = some (.lst (ms.map V.int)) := by rw [upd_ne nTr]; exact xx _ _ nrp6 er11
        have eTA := upd_same (H := H13) (a := T) (o := .lst ([V.ref o, v, .ref o2] ++ [V.ref o3]))
        have sA : Same Hc (upd H13 T (.lst ([V.ref o, v, .ref o2] ++ [V.ref o3]))) := fun b ob e => by rw [upd_ne (ne_of_none e nTc)]; exact xx _ _ (ne_of_none e n1) (s011 _ _ e)
        have hvl : ([V.ref o, v, .ref o2] ++ [V.ref o3]).length ≤ 10 := by show 4 ≤ 10; decide
        generalize upd H13 T (.lst ([V.ref o, v, .ref o2] ++ [V.ref o3])) = HA at allA tSA hpA erA eTA sA ⊢
        generalize [V.ref o, v, .ref o2] ++ [V.ref o3] = vs at allA eTA hvl
        clear all13 eT13 xx sX sx13 td13 hp13 tdo tdo2 tv11 td11 er11 s011 hp11 eT
        refine ⟨_, rfl, by show 0 ≤ sizeLine; decide, fun e0 ne0 => neNil (SqL.of (Same.new ne0 _ _ erA)) (SqL.of upd_same) ⟨_, rfl, ?_⟩⟩
        have s0 := Same.new (o := .lst []) ne0
        have eTB := s0 _ _ eTA
        have erB := s0 _ _ erA
        have hpB := hpA.same s0
        have allB : ∀ y ∈ vs, ThT (upd HA e0 (.lst [])) y := fun y hy => (allA y hy).same s0
        have tSB := tSA.same s0
        have sB := sA.trans s0
        generalize upd HA e0 (.lst []) = HB at eTB erB hpB allB tSB sB ⊢
        clear s0 ne0 eTA erA hpA allA tSA sA
        refine ite2 (fun z => ?_) (fun z => ?_)
        case' refine_2 =>
          have allF := allB
          have tSF := tSB
          have eTF := eTB
          have sF := sB
          have hvF : vs.length ≤ 20 := by omega
          generalize HB = HF at allF tSF eTF sF ⊢
          generalize vs = ws at allF eTF hvF
        case' refine_1 =>
          have hms : 0 < ms.length := by
            cases ms with
            | nil => exact absurd z (by decide)
            | cons x r => exact Nat.succ_pos _
          have hmi : (0 : Int) < ((ms.map V.int).length : Int) := by rw [len_int]; omega
          refine ⟨_, rfl, p, rfl, hpB, fun t1 HC t10 hpC sxC => ⟨_, rfl, r', _, rfl, .inl (SqL.of (sxC _ _ nrp6 erB)), _, _, rfl, rfl, hmi, ?_⟩⟩
          rw [len_int] at hmi ⊢
          have a0 := Int.emod_nonneg t1 (Int.ne_of_gt hmi)
          have a1 := Int.emod_lt_of_pos t1 hmi
          dsimp only [List.set]
          generalize t1 % (ms.length : Int) = at' at a0 a1
          obtain ⟨ai, rfl⟩ : ∃ n : Nat, at' = (n : Int) := ⟨at'.toNat, by omega⟩
          refine ⟨_, rfl, _, rfl, p, rfl, hpC, fun t2 HD t20 hpD sxD => ?_⟩
          have xD := sxC.trans sxD
          have erD := xD _ _ nrp6 erB
          refine ⟨_, rfl, r', _, rfl, .inl (SqL.of erD), _, _, rfl, rfl, (by rw [len_int]; exact hmi), r', _, _, _, rfl, rfl, SqL.of erD, atI_int (Int.emod_nonneg _ (by rw [len_int]; omega)) (by rw [len_int]; exact Int.emod_lt_of_pos _ hmi), ?_⟩
          dsimp only [List.set]
          generalize ms.getD (t2 % _).toNat 0 = nb
          have allD : ∀ y ∈ vs, ThT HD y := fun y hy => ThT.px (allB y hy) hpB hpD xD
          have tSD := ThT.px tSB hpB hpD xD
          have eTD := xD _ _ nTp eTB
          have sD : Same Hc HD := fun b ob e => xD _ _ (ne_of_none e n1) (sB _ _ e)
          clear sxC sxD hpC allB tSB eTB erB hpB xD
          refine ⟨_, rfl, .inl ⟨rfl, _, SqL.of eTD⟩, _, rfl, _, rfl, ai, rfl, r', _, rfl, SqL.of erD, fun b1 n1' => ?_⟩
          rw [cutV_take]
          refine ⟨_, rfl, by show 1 ≤ sizeLine; decide, fun b2 n2 => ⟨b1, b2, _, _, rfl, rfl, Same.new n2 _ _ upd_same, upd_same, by rw [List.length_take, List.length_map]; show _ + 1 ≤ _; omega, fun b3 n3 => ?_⟩⟩
          have s3 := ((Same.new (o := .lst ((ms.map V.int).take ai)) n1').trans (Same.new (o := .lst [V.int nb]) n2)).trans (Same.new (o := .lst ((ms.map V.int).take ai ++ [V.int nb])) n3)
          have e3' := upd_same (H := upd (upd HD b1 (.lst ((ms.map V.int).take ai))) b2 (.lst [V.int nb])) (a := b3) (o := .lst ((ms.map V.int).take ai ++ [V.int nb]))
          generalize upd (upd (upd HD b1 (.lst ((ms.map V.int).take ai))) b2 (.lst [V.int nb])) b3 (.lst ((ms.map V.int).take ai ++ [V.int nb])) = G3 at s3 e3' ⊢
          refine ⟨_, rfl, _, rfl, _, _, rfl, rfl, (ai : Int) + 1, rfl, r', _, rfl, SqL.of (s3 _ _ erD), fun b4 n4 => ?_⟩
          rw [cutV_drop']
          refine ⟨b3, b4, _, _, rfl, rfl, Same.new n4 _ _ e3', upd_same, by rw [List.length_append, List.length_take, List.length_drop, List.length_map]; show _ + 1 + _ ≤ _; omega, fun b5 n5 => ?_⟩
          have s5 := (s3.trans (Same.new (o := .lst ((ms.map V.int).drop (ai + 1))) n4)).trans (Same.new (o := .lst ((ms.map V.int).take ai ++ [V.int nb] ++ (ms.map V.int).drop (ai + 1))) n5)
          have e5' := upd_same (H := upd G3 b4 (.lst ((ms.map V.int).drop (ai + 1)))) (a := b5) (o := .lst ((ms.map V.int).take ai ++ [V.int nb] ++ (ms.map V.int).drop (ai + 1)))
          generalize upd (upd G3 b4 (.lst ((ms.map V.int).drop (ai + 1)))) b5 (.lst ((ms.map V.int).take ai ++ [V.int nb] ++ (ms.map V.int).drop (ai + 1))) = G5 at s5 e5' ⊢
          have em : (ms.map V.int).take ai ++ [V.int nb] ++ (ms.map V.int).drop (ai + 1) = (ms.take ai ++ [nb] ++ ms.drop (ai + 1)).map V.int := by rw [List.map_append, List.map_append, List.map_take, List.map_drop]; rfl
          rw [em] at e5'
          have hml : (ms.take ai ++ [nb] ++ ms.drop (ai + 1)).length ≤ 150 := by rw [List.length_append, List.length_append, List.length_take, List.length_drop]; show _ + 1 + _ ≤ _; omega
          refine ⟨b5, _, rfl, SqL.of e5', by omega, fun S2 as2 HE nS2 sE eS2 hal2 hat2 => ?_⟩
          obtain ⟨td2, _⟩ := tab_D (hpD.same s5) nS2 eS2 hal2 hml hat2
          have sDE := s5.trans sE
          have eTE := sDE _ _ eTD
          refine ⟨T, _, _, rfl, rfl, eTE, small1000 (by omega), ?_⟩
          have all1 : ∀ y ∈ vs ++ [V.ref S2], ThT HE y := fun y hy => (List.mem_append.mp hy).elim (fun hy => (allD y hy).same sDE) fun hy => by rw [List.mem_singleton.mp hy]; exact td2.t.t
          have hvl1 : (vs ++ [V.ref S2]).length ≤ 300 := by rw [List.length_append]; show _ + 1 ≤ _; omega
          have allF : ∀ y ∈ vs ++ [V.ref S2], ThT (upd HE T (.lst (vs ++ [V.ref S2]))) y := fun y hy => ThT.ap (all1 y hy) eTE hvl1 all1
          have tSF : ThT (upd HE T (.lst (vs ++ [V.ref S2]))) (.ref S) := ThT.ap (tSD.same sDE) eTE hvl1 all1
          have eTF := upd_same (H := HE) (a := T) (o := .lst (vs ++ [V.ref S2]))
          have sF : Same Hc (upd HE T (.lst (vs ++ [V.ref S2]))) := fun b ob e => by rw [upd_ne (ne_of_none e nTc)]; exact sDE _ _ (sD _ _ e)
          have hvF : (vs ++ [V.ref S2]).length ≤ 20 := by rw [List.length_append]; show _ + 1 ≤ _; omega
          generalize upd HE T (.lst (vs ++ [V.ref S2])) = HF at allF tSF eTF sF ⊢
          generalize vs ++ [V.ref S2] = ws at allF eTF hvF
        all_goals
          refine ⟨_, rfl, _, rfl, by show 1 ≤ sizeLine; decide, fun e1 m1 => ⟨T, e1, _, _, rfl, rfl, Same.new m1 _ _ eTF, upd_same, by show _ + 1 ≤ _; omega, fun L nL => ?_⟩⟩
          have sL := (Same.new (o := .lst [V.ref S]) m1).trans (Same.new (o := .lst (ws ++ [V.ref S])) nL)
          have eL := upd_same (H := upd HF e1 (.lst [V.ref S])) (a := L) (o := .lst (ws ++ [V.ref S]))
          generalize upd (upd HF e1 (.lst [V.ref S])) L (.lst (ws ++ [V.ref S])) = HL at sL eL ⊢
          refine ⟨L, rfl, ⟨_, SqL.of eL⟩, for_list (K := K) (a := L) (xs := ws ++ [V.ref S]) (fun i σ Hz => ∃ (w7 w8 w9 : Option V), σ = [some (.ref a), some (.int ((0 : Int) + (k : Int))), some (.ref p), some (.ref r'), some (.ref S), some (.ref o), some (.ref T), w7, w8, w9] ∧ Same HL Hz) ⟨_, _, _, rfl, Same.refl _⟩ (fun i σ Hz _ ⟨_, _, _, _, sz⟩ => SqL.of (sz _ _ eL)) ?_ ?_⟩
          · rintro i x σ Hz hi ⟨w7, w8, w9, rfl, sz⟩
            have hx := List.mem_of_getElem? hi
            have tx : ThT HF x := (List.mem_append.mp hx).elim (allF x) fun hx => by rw [List.mem_singleton.mp hx]; exact tSF
            exact ⟨_, rfl, x, rfl, tx.same (sL.trans sz), fun Hy sy => ⟨_, rfl, iteNB rfl ⟨_, _, _, rfl, sz.trans sy⟩⟩⟩
          · rintro σ Hz ⟨w7, w8, w9, rfl, sz⟩
            exact ⟨_, _, _, _, _, _, _, _, _, rfl, sH.trans (sF.trans (sL.trans sz))⟩
    · rintro σ Hc ⟨v1, v2, v3, v4, v5, v6, v7, v8, v9, rfl, sH⟩
      exact q Hc
end
theorem all_mk {l : PySem.W.OpenLaw} {w : World} {K : PySem.W.Frag} {h : Heap} {mg : Str → Option Value} {fa : Addr} (X : K.In h) (G : h.Ns mainGlobals mg) (hfa : mg "law" = some (.ref fa))
    {cRowError : Addr}
    {cNoTable : Addr}
    {cNoCommand : Addr}
    {cNoNeeds : Addr}
    {cNoPlace : Addr}
    {cNoRow : Addr}
    {cNoWindow : Addr}
    {flaw_mixed : Addr} {odlaw_mixed anlaw_mixed : Option Addr} {sllaw_mixed : Array (Option Value)} {oclaw_mixed kVlaw_mixed dclaw_mixed pmlaw_mixed cdlaw_mixed ctlaw_mixed : Value}
    {flaw_purse : Addr} {odlaw_purse anlaw_purse : Option Addr} {sllaw_purse : Array (Option Value)} {oclaw_purse kVlaw_purse dclaw_purse pmlaw_purse cdlaw_purse ctlaw_purse : Value}
    {flaw_next : Addr} {odlaw_next anlaw_next : Option Addr} {sllaw_next : Array (Option Value)} {oclaw_next kVlaw_next dclaw_next pmlaw_next cdlaw_next ctlaw_next : Value}
    {flaw_value : Addr} {odlaw_value anlaw_value : Option Addr} {sllaw_value : Array (Option Value)} {oclaw_value kVlaw_value dclaw_value pmlaw_value cdlaw_value ctlaw_value : Value}
    {flaw_row : Addr} {odlaw_row anlaw_row : Option Addr} {sllaw_row : Array (Option Value)} {oclaw_row kVlaw_row dclaw_row pmlaw_row cdlaw_row ctlaw_row : Value}
    {flaw_most : Addr} {odlaw_most anlaw_most : Option Addr} {sllaw_most : Array (Option Value)} {oclaw_most kVlaw_most dclaw_most pmlaw_most cdlaw_most ctlaw_most : Value}
    {flaw_lines : Addr} {odlaw_lines anlaw_lines : Option Addr} {sllaw_lines : Array (Option Value)} {oclaw_lines kVlaw_lines dclaw_lines pmlaw_lines cdlaw_lines ctlaw_lines : Value}
    {flaw_plain : Addr} {odlaw_plain anlaw_plain : Option Addr} {sllaw_plain : Array (Option Value)} {oclaw_plain kVlaw_plain dclaw_plain pmlaw_plain cdlaw_plain ctlaw_plain : Value}
    {flaw_is_list : Addr} {odlaw_is_list anlaw_is_list : Option Addr} {sllaw_is_list : Array (Option Value)} {oclaw_is_list kVlaw_is_list dclaw_is_list pmlaw_is_list cdlaw_is_list ctlaw_is_list : Value}
    {flaw_row_of : Addr} {odlaw_row_of anlaw_row_of : Option Addr} {sllaw_row_of : Array (Option Value)} {oclaw_row_of kVlaw_row_of dclaw_row_of pmlaw_row_of cdlaw_row_of ctlaw_row_of : Value}
    {fis_whole : Addr} {odis_whole anis_whole : Option Addr} {slis_whole : Array (Option Value)} {ocis_whole kVis_whole dcis_whole pmis_whole cdis_whole ctis_whole : Value}
    {flast_places : Addr} {odlast_places anlast_places : Option Addr} {sllast_places : Array (Option Value)} {oclast_places kVlast_places dclast_places pmlast_places cdlast_places ctlast_places : Value}
    {fare_lasts : Addr} {odare_lasts anare_lasts : Option Addr} {slare_lasts : Array (Option Value)} {ocare_lasts kVare_lasts dcare_lasts pmare_lasts cdare_lasts ctare_lasts : Value}
    {frow_of : Addr} {odrow_of anrow_of : Option Addr} {slrow_of : Array (Option Value)} {ocrow_of kVrow_of dcrow_of pmrow_of cdrow_of ctrow_of : Value}
    {fline_of : Addr} {odline_of anline_of : Option Addr} {slline_of : Array (Option Value)} {ocline_of kVline_of dcline_of pmline_of cdline_of ctline_of : Value}
    {ftable_of : Addr} {odtable_of antable_of : Option Addr} {sltable_of : Array (Option Value)} {octable_of kVtable_of dctable_of pmtable_of cdtable_of cttable_of : Value}
    {fis_line : Addr} {odis_line anis_line : Option Addr} {slis_line : Array (Option Value)} {ocis_line kVis_line dcis_line pmis_line cdis_line ctis_line : Value}
    {fhas_form : Addr} {odhas_form anhas_form : Option Addr} {slhas_form : Array (Option Value)} {ochas_form kVhas_form dchas_form pmhas_form cdhas_form cthas_form : Value}
    {flast_in_table : Addr} {odlast_in_table anlast_in_table : Option Addr} {sllast_in_table : Array (Option Value)} {oclast_in_table kVlast_in_table dclast_in_table pmlast_in_table cdlast_in_table ctlast_in_table : Value}
    {frow_of_table : Addr} {odrow_of_table anrow_of_table : Option Addr} {slrow_of_table : Array (Option Value)} {ocrow_of_table kVrow_of_table dcrow_of_table pmrow_of_table cdrow_of_table ctrow_of_table : Value}
    {flaw_asked : Addr} {odlaw_asked anlaw_asked : Option Addr} {sllaw_asked : Array (Option Value)} {oclaw_asked kVlaw_asked dclaw_asked pmlaw_asked cdlaw_asked ctlaw_asked : Value}
    {flaw_right : Addr} {odlaw_right anlaw_right : Option Addr} {sllaw_right : Array (Option Value)} {oclaw_right kVlaw_right dclaw_right pmlaw_right cdlaw_right ctlaw_right : Value}
    {flaw_with : Addr} {odlaw_with anlaw_with : Option Addr} {sllaw_with : Array (Option Value)} {oclaw_with kVlaw_with dclaw_with pmlaw_with cdlaw_with ctlaw_with : Value}
    {flaw_one_otherwise : Addr} {odlaw_one_otherwise anlaw_one_otherwise : Option Addr} {sllaw_one_otherwise : Array (Option Value)} {oclaw_one_otherwise kVlaw_one_otherwise dclaw_one_otherwise pmlaw_one_otherwise cdlaw_one_otherwise ctlaw_one_otherwise : Value}
    {flaw_lines_otherwise : Addr} {odlaw_lines_otherwise anlaw_lines_otherwise : Option Addr} {sllaw_lines_otherwise : Array (Option Value)} {oclaw_lines_otherwise kVlaw_lines_otherwise dclaw_lines_otherwise pmlaw_lines_otherwise cdlaw_lines_otherwise ctlaw_lines_otherwise : Value}
    {flaw : Addr} {odlaw anlaw : Option Addr} {sllaw : Array (Option Value)} {oclaw kVlaw dclaw pmlaw cdlaw ctlaw : Value}
    (aRowError : PySem.W.nsIn K mainGlobals "RowError" = some (some (.ref cRowError)))
    (aNoTable : PySem.W.nsIn K mainGlobals "NoTable" = some (some (.ref cNoTable)))
    (aNoCommand : PySem.W.nsIn K mainGlobals "NoCommand" = some (some (.ref cNoCommand)))
    (aNoNeeds : PySem.W.nsIn K mainGlobals "NoNeeds" = some (some (.ref cNoNeeds)))
    (aNoPlace : PySem.W.nsIn K mainGlobals "NoPlace" = some (some (.ref cNoPlace)))
    (aNoRow : PySem.W.nsIn K mainGlobals "NoRow" = some (some (.ref cNoRow)))
    (aNoWindow : PySem.W.nsIn K mainGlobals "NoWindow" = some (some (.ref cNoWindow)))
    (eRowError : PySem.W.excIn K cRowError mroV "ValueError.__new__" = true)
    (eNoTable : PySem.W.excIn K cNoTable mroV "ValueError.__new__" = true)
    (gaNoTable : PySem.W.findIn K (.ref cNoTable) "__getattribute__" = some (some (.builtin "BaseException.__getattribute__"))) (gtNoTable : PySem.W.findIn K (.ref cNoTable) "__getattr__" = some none) (clNoTable : PySem.W.findIn K (.ref cNoTable) "__class__" = some (some (.builtin "object.__class__"))) (obNoTable : PySem.W.mroIn K cNoTable (.type "object") = some true) (beNoTable : PySem.W.mroIn K cNoTable (.type "BaseException") = some true) (upNoTable : PySem.W.mroIn K cNoTable (.ref cRowError) = some true) (meNoTable : PySem.W.mroIn K cNoTable (.ref cNoTable) = some true) (veNoTable : PySem.W.mroIn K cNoTable (.type "ValueError") = some true)
    (iNoTableNoCommand : PySem.W.isClsIn K cNoCommand = true) (tNoTableNoCommand : PySem.W.typeIn K (.ref cNoCommand) = some (.type "type")) (oNoTableNoCommand : PySem.W.mroIn K cNoTable (.ref cNoCommand) = some false)
    (iNoTableNoNeeds : PySem.W.isClsIn K cNoNeeds = true) (tNoTableNoNeeds : PySem.W.typeIn K (.ref cNoNeeds) = some (.type "type")) (oNoTableNoNeeds : PySem.W.mroIn K cNoTable (.ref cNoNeeds) = some false)
    (iNoTableNoPlace : PySem.W.isClsIn K cNoPlace = true) (tNoTableNoPlace : PySem.W.typeIn K (.ref cNoPlace) = some (.type "type")) (oNoTableNoPlace : PySem.W.mroIn K cNoTable (.ref cNoPlace) = some false)
    (iNoTableNoRow : PySem.W.isClsIn K cNoRow = true) (tNoTableNoRow : PySem.W.typeIn K (.ref cNoRow) = some (.type "type")) (oNoTableNoRow : PySem.W.mroIn K cNoTable (.ref cNoRow) = some false)
    (iNoTableNoWindow : PySem.W.isClsIn K cNoWindow = true) (tNoTableNoWindow : PySem.W.typeIn K (.ref cNoWindow) = some (.type "type")) (oNoTableNoWindow : PySem.W.mroIn K cNoTable (.ref cNoWindow) = some false)
    (zValueError : PySem.W.nsIn K mainGlobals "ValueError" = some none)
    (zstr : PySem.W.nsIn K mainGlobals "str" = some none)
    (alaw_mixed : PySem.W.nsIn K mainGlobals "_law_mixed" = some (some (.ref flaw_mixed)))
    (llaw_mixed : K.lookup flaw_mixed = some ⟨oclaw_mixed, odlaw_mixed, .func (PySem.W.fnOf "_law_mixed" "_law_mixed" (defArgs st_law_mixed) (defBody st_law_mixed) (defScope st_law_mixed) .none kVlaw_mixed dclaw_mixed pmlaw_mixed anlaw_mixed cdlaw_mixed ctlaw_mixed), sllaw_mixed⟩) (claw_mixed : PySem.W.codeIn K cdlaw_mixed "_law_mixed" = true) (klaw_mixed : PySem.W.keepIn K (.ref flaw_mixed) = true)
    (alaw_purse : PySem.W.nsIn K mainGlobals "_law_purse" = some (some (.ref flaw_purse)))
    (llaw_purse : K.lookup flaw_purse = some ⟨oclaw_purse, odlaw_purse, .func (PySem.W.fnOf "_law_purse" "_law_purse" (defArgs st_law_purse) (defBody st_law_purse) (defScope st_law_purse) .none kVlaw_purse dclaw_purse pmlaw_purse anlaw_purse cdlaw_purse ctlaw_purse), sllaw_purse⟩) (claw_purse : PySem.W.codeIn K cdlaw_purse "_law_purse" = true) (klaw_purse : PySem.W.keepIn K (.ref flaw_purse) = true)
    (alaw_next : PySem.W.nsIn K mainGlobals "_law_next" = some (some (.ref flaw_next)))
    (llaw_next : K.lookup flaw_next = some ⟨oclaw_next, odlaw_next, .func (PySem.W.fnOf "_law_next" "_law_next" (defArgs st_law_next) (defBody st_law_next) (defScope st_law_next) .none kVlaw_next dclaw_next pmlaw_next anlaw_next cdlaw_next ctlaw_next), sllaw_next⟩) (claw_next : PySem.W.codeIn K cdlaw_next "_law_next" = true) (klaw_next : PySem.W.keepIn K (.ref flaw_next) = true)
    (alaw_value : PySem.W.nsIn K mainGlobals "_law_value" = some (some (.ref flaw_value)))
    (llaw_value : K.lookup flaw_value = some ⟨oclaw_value, odlaw_value, .func (PySem.W.fnOf "_law_value" "_law_value" (defArgs st_law_value) (defBody st_law_value) (defScope st_law_value) .none kVlaw_value dclaw_value pmlaw_value anlaw_value cdlaw_value ctlaw_value), sllaw_value⟩) (claw_value : PySem.W.codeIn K cdlaw_value "_law_value" = true) (klaw_value : PySem.W.keepIn K (.ref flaw_value) = true)
    (alaw_row : PySem.W.nsIn K mainGlobals "_law_row" = some (some (.ref flaw_row)))
    (llaw_row : K.lookup flaw_row = some ⟨oclaw_row, odlaw_row, .func (PySem.W.fnOf "_law_row" "_law_row" (defArgs st_law_row) (defBody st_law_row) (defScope st_law_row) .none kVlaw_row dclaw_row pmlaw_row anlaw_row cdlaw_row ctlaw_row), sllaw_row⟩) (claw_row : PySem.W.codeIn K cdlaw_row "_law_row" = true) (klaw_row : PySem.W.keepIn K (.ref flaw_row) = true)
    (alaw_most : PySem.W.nsIn K mainGlobals "_law_most" = some (some (.ref flaw_most)))
    (llaw_most : K.lookup flaw_most = some ⟨oclaw_most, odlaw_most, .func (PySem.W.fnOf "_law_most" "_law_most" (defArgs st_law_most) (defBody st_law_most) (defScope st_law_most) .none kVlaw_most dclaw_most pmlaw_most anlaw_most cdlaw_most ctlaw_most), sllaw_most⟩) (claw_most : PySem.W.codeIn K cdlaw_most "_law_most" = true) (klaw_most : PySem.W.keepIn K (.ref flaw_most) = true)
    (alaw_lines : PySem.W.nsIn K mainGlobals "_law_lines" = some (some (.ref flaw_lines)))
    (llaw_lines : K.lookup flaw_lines = some ⟨oclaw_lines, odlaw_lines, .func (PySem.W.fnOf "_law_lines" "_law_lines" (defArgs st_law_lines) (defBody st_law_lines) (defScope st_law_lines) .none kVlaw_lines dclaw_lines pmlaw_lines anlaw_lines cdlaw_lines ctlaw_lines), sllaw_lines⟩) (claw_lines : PySem.W.codeIn K cdlaw_lines "_law_lines" = true) (klaw_lines : PySem.W.keepIn K (.ref flaw_lines) = true)
    (alaw_plain : PySem.W.nsIn K mainGlobals "_law_plain" = some (some (.ref flaw_plain)))
    (llaw_plain : K.lookup flaw_plain = some ⟨oclaw_plain, odlaw_plain, .func (PySem.W.fnOf "_law_plain" "_law_plain" (defArgs st_law_plain) (defBody st_law_plain) (defScope st_law_plain) .none kVlaw_plain dclaw_plain pmlaw_plain anlaw_plain cdlaw_plain ctlaw_plain), sllaw_plain⟩) (claw_plain : PySem.W.codeIn K cdlaw_plain "_law_plain" = true) (klaw_plain : PySem.W.keepIn K (.ref flaw_plain) = true)
    (alaw_is_list : PySem.W.nsIn K mainGlobals "_law_is_list" = some (some (.ref flaw_is_list)))
    (llaw_is_list : K.lookup flaw_is_list = some ⟨oclaw_is_list, odlaw_is_list, .func (PySem.W.fnOf "_law_is_list" "_law_is_list" (defArgs st_law_is_list) (defBody st_law_is_list) (defScope st_law_is_list) .none kVlaw_is_list dclaw_is_list pmlaw_is_list anlaw_is_list cdlaw_is_list ctlaw_is_list), sllaw_is_list⟩) (claw_is_list : PySem.W.codeIn K cdlaw_is_list "_law_is_list" = true) (klaw_is_list : PySem.W.keepIn K (.ref flaw_is_list) = true)
    (alaw_row_of : PySem.W.nsIn K mainGlobals "_law_row_of" = some (some (.ref flaw_row_of)))
    (llaw_row_of : K.lookup flaw_row_of = some ⟨oclaw_row_of, odlaw_row_of, .func (PySem.W.fnOf "_law_row_of" "_law_row_of" (defArgs st_law_row_of) (defBody st_law_row_of) (defScope st_law_row_of) .none kVlaw_row_of dclaw_row_of pmlaw_row_of anlaw_row_of cdlaw_row_of ctlaw_row_of), sllaw_row_of⟩) (claw_row_of : PySem.W.codeIn K cdlaw_row_of "_law_row_of" = true) (klaw_row_of : PySem.W.keepIn K (.ref flaw_row_of) = true)
    (ais_whole : PySem.W.nsIn K mainGlobals "is_whole" = some (some (.ref fis_whole)))
    (lis_whole : K.lookup fis_whole = some ⟨ocis_whole, odis_whole, .func (PySem.W.fnOf "is_whole" "is_whole" (defArgs stis_whole) (defBody stis_whole) (defScope stis_whole) .none kVis_whole dcis_whole pmis_whole anis_whole cdis_whole ctis_whole), slis_whole⟩) (cis_whole : PySem.W.codeIn K cdis_whole "is_whole" = true) (kis_whole : PySem.W.keepIn K (.ref fis_whole) = true)
    (alast_places : PySem.W.nsIn K mainGlobals "last_places" = some (some (.ref flast_places)))
    (llast_places : K.lookup flast_places = some ⟨oclast_places, odlast_places, .func (PySem.W.fnOf "last_places" "last_places" (defArgs stlast_places) (defBody stlast_places) (defScope stlast_places) .none kVlast_places dclast_places pmlast_places anlast_places cdlast_places ctlast_places), sllast_places⟩) (clast_places : PySem.W.codeIn K cdlast_places "last_places" = true) (klast_places : PySem.W.keepIn K (.ref flast_places) = true)
    (aare_lasts : PySem.W.nsIn K mainGlobals "are_lasts" = some (some (.ref fare_lasts)))
    (lare_lasts : K.lookup fare_lasts = some ⟨ocare_lasts, odare_lasts, .func (PySem.W.fnOf "are_lasts" "are_lasts" (defArgs stare_lasts) (defBody stare_lasts) (defScope stare_lasts) .none kVare_lasts dcare_lasts pmare_lasts anare_lasts cdare_lasts ctare_lasts), slare_lasts⟩) (care_lasts : PySem.W.codeIn K cdare_lasts "are_lasts" = true) (kare_lasts : PySem.W.keepIn K (.ref fare_lasts) = true)
    (arow_of : PySem.W.nsIn K mainGlobals "row_of" = some (some (.ref frow_of)))
    (lrow_of : K.lookup frow_of = some ⟨ocrow_of, odrow_of, .func (PySem.W.fnOf "row_of" "row_of" (defArgs strow_of) (defBody strow_of) (defScope strow_of) .none kVrow_of dcrow_of pmrow_of anrow_of cdrow_of ctrow_of), slrow_of⟩) (crow_of : PySem.W.codeIn K cdrow_of "row_of" = true) (krow_of : PySem.W.keepIn K (.ref frow_of) = true)
    (aline_of : PySem.W.nsIn K mainGlobals "line_of" = some (some (.ref fline_of)))
    (lline_of : K.lookup fline_of = some ⟨ocline_of, odline_of, .func (PySem.W.fnOf "line_of" "line_of" (defArgs stline_of) (defBody stline_of) (defScope stline_of) .none kVline_of dcline_of pmline_of anline_of cdline_of ctline_of), slline_of⟩) (cline_of : PySem.W.codeIn K cdline_of "line_of" = true) (kline_of : PySem.W.keepIn K (.ref fline_of) = true)
    (atable_of : PySem.W.nsIn K mainGlobals "table_of" = some (some (.ref ftable_of)))
    (ltable_of : K.lookup ftable_of = some ⟨octable_of, odtable_of, .func (PySem.W.fnOf "table_of" "table_of" (defArgs sttable_of) (defBody sttable_of) (defScope sttable_of) .none kVtable_of dctable_of pmtable_of antable_of cdtable_of cttable_of), sltable_of⟩) (ctable_of : PySem.W.codeIn K cdtable_of "table_of" = true) (ktable_of : PySem.W.keepIn K (.ref ftable_of) = true)
    (ais_line : PySem.W.nsIn K mainGlobals "is_line" = some (some (.ref fis_line)))
    (lis_line : K.lookup fis_line = some ⟨ocis_line, odis_line, .func (PySem.W.fnOf "is_line" "is_line" (defArgs stis_line) (defBody stis_line) (defScope stis_line) .none kVis_line dcis_line pmis_line anis_line cdis_line ctis_line), slis_line⟩) (cis_line : PySem.W.codeIn K cdis_line "is_line" = true) (kis_line : PySem.W.keepIn K (.ref fis_line) = true)
    (ahas_form : PySem.W.nsIn K mainGlobals "has_form" = some (some (.ref fhas_form)))
    (lhas_form : K.lookup fhas_form = some ⟨ochas_form, odhas_form, .func (PySem.W.fnOf "has_form" "has_form" (defArgs sthas_form) (defBody sthas_form) (defScope sthas_form) .none kVhas_form dchas_form pmhas_form anhas_form cdhas_form cthas_form), slhas_form⟩) (chas_form : PySem.W.codeIn K cdhas_form "has_form" = true) (khas_form : PySem.W.keepIn K (.ref fhas_form) = true)
    (alast_in_table : PySem.W.nsIn K mainGlobals "last_in_table" = some (some (.ref flast_in_table)))
    (llast_in_table : K.lookup flast_in_table = some ⟨oclast_in_table, odlast_in_table, .func (PySem.W.fnOf "last_in_table" "last_in_table" (defArgs stlast_in_table) (defBody stlast_in_table) (defScope stlast_in_table) .none kVlast_in_table dclast_in_table pmlast_in_table anlast_in_table cdlast_in_table ctlast_in_table), sllast_in_table⟩) (clast_in_table : PySem.W.codeIn K cdlast_in_table "last_in_table" = true) (klast_in_table : PySem.W.keepIn K (.ref flast_in_table) = true)
    (arow_of_table : PySem.W.nsIn K mainGlobals "row_of_table" = some (some (.ref frow_of_table)))
    (lrow_of_table : K.lookup frow_of_table = some ⟨ocrow_of_table, odrow_of_table, .func (PySem.W.fnOf "row_of_table" "row_of_table" (defArgs strow_of_table) (defBody strow_of_table) (defScope strow_of_table) .none kVrow_of_table dcrow_of_table pmrow_of_table anrow_of_table cdrow_of_table ctrow_of_table), slrow_of_table⟩) (crow_of_table : PySem.W.codeIn K cdrow_of_table "row_of_table" = true) (krow_of_table : PySem.W.keepIn K (.ref frow_of_table) = true)
    (alaw_asked : PySem.W.nsIn K mainGlobals "_law_asked" = some (some (.ref flaw_asked)))
    (llaw_asked : K.lookup flaw_asked = some ⟨oclaw_asked, odlaw_asked, .func (PySem.W.fnOf "_law_asked" "_law_asked" (defArgs st_law_asked) (defBody st_law_asked) (defScope st_law_asked) .none kVlaw_asked dclaw_asked pmlaw_asked anlaw_asked cdlaw_asked ctlaw_asked), sllaw_asked⟩) (claw_asked : PySem.W.codeIn K cdlaw_asked "_law_asked" = true) (klaw_asked : PySem.W.keepIn K (.ref flaw_asked) = true)
    (alaw_right : PySem.W.nsIn K mainGlobals "_law_right" = some (some (.ref flaw_right)))
    (llaw_right : K.lookup flaw_right = some ⟨oclaw_right, odlaw_right, .func (PySem.W.fnOf "_law_right" "_law_right" (defArgs st_law_right) (defBody st_law_right) (defScope st_law_right) .none kVlaw_right dclaw_right pmlaw_right anlaw_right cdlaw_right ctlaw_right), sllaw_right⟩) (claw_right : PySem.W.codeIn K cdlaw_right "_law_right" = true) (klaw_right : PySem.W.keepIn K (.ref flaw_right) = true)
    (alaw_with : PySem.W.nsIn K mainGlobals "_law_with" = some (some (.ref flaw_with)))
    (llaw_with : K.lookup flaw_with = some ⟨oclaw_with, odlaw_with, .func (PySem.W.fnOf "_law_with" "_law_with" (defArgs st_law_with) (defBody st_law_with) (defScope st_law_with) .none kVlaw_with dclaw_with pmlaw_with anlaw_with cdlaw_with ctlaw_with), sllaw_with⟩) (claw_with : PySem.W.codeIn K cdlaw_with "_law_with" = true) (klaw_with : PySem.W.keepIn K (.ref flaw_with) = true)
    (alaw_one_otherwise : PySem.W.nsIn K mainGlobals "_law_one_otherwise" = some (some (.ref flaw_one_otherwise)))
    (llaw_one_otherwise : K.lookup flaw_one_otherwise = some ⟨oclaw_one_otherwise, odlaw_one_otherwise, .func (PySem.W.fnOf "_law_one_otherwise" "_law_one_otherwise" (defArgs st_law_one_otherwise) (defBody st_law_one_otherwise) (defScope st_law_one_otherwise) .none kVlaw_one_otherwise dclaw_one_otherwise pmlaw_one_otherwise anlaw_one_otherwise cdlaw_one_otherwise ctlaw_one_otherwise), sllaw_one_otherwise⟩) (claw_one_otherwise : PySem.W.codeIn K cdlaw_one_otherwise "_law_one_otherwise" = true) (klaw_one_otherwise : PySem.W.keepIn K (.ref flaw_one_otherwise) = true)
    (alaw_lines_otherwise : PySem.W.nsIn K mainGlobals "_law_lines_otherwise" = some (some (.ref flaw_lines_otherwise)))
    (llaw_lines_otherwise : K.lookup flaw_lines_otherwise = some ⟨oclaw_lines_otherwise, odlaw_lines_otherwise, .func (PySem.W.fnOf "_law_lines_otherwise" "_law_lines_otherwise" (defArgs st_law_lines_otherwise) (defBody st_law_lines_otherwise) (defScope st_law_lines_otherwise) .none kVlaw_lines_otherwise dclaw_lines_otherwise pmlaw_lines_otherwise anlaw_lines_otherwise cdlaw_lines_otherwise ctlaw_lines_otherwise), sllaw_lines_otherwise⟩) (claw_lines_otherwise : PySem.W.codeIn K cdlaw_lines_otherwise "_law_lines_otherwise" = true) (klaw_lines_otherwise : PySem.W.keepIn K (.ref flaw_lines_otherwise) = true)
    (alaw : PySem.W.nsIn K mainGlobals "law" = some (some (.ref flaw)))
    (llaw : K.lookup flaw = some ⟨oclaw, odlaw, .func (PySem.W.fnOf "law" "law" (defArgs stlaw) (defBody stlaw) (defScope stlaw) .none kVlaw dclaw pmlaw anlaw cdlaw ctlaw), sllaw⟩) (claw : PySem.W.codeIn K cdlaw "law" = true) (klaw : PySem.W.keepIn K (.ref flaw) = true)
    (zlen : PySem.W.nsIn K mainGlobals "len" = some none) (zrange : PySem.W.nsIn K mainGlobals "range" = some none) (zenumerate : PySem.W.nsIn K mainGlobals "enumerate" = some none) (zlist : PySem.W.nsIn K mainGlobals "list" = some none) (zint : PySem.W.nsIn K mainGlobals "int" = some none) (zbool : PySem.W.nsIn K mainGlobals "bool" = some none) (zsum : PySem.W.nsIn K mainGlobals "sum" = some none) (zmax : PySem.W.nsIn K mainGlobals "max" = some none) (zmin : PySem.W.nsIn K mainGlobals "min" = some none) (zisinstance : PySem.W.nsIn K mainGlobals "isinstance" = some none) (zset : PySem.W.nsIn K mainGlobals "set" = some none) (zsorted : PySem.W.nsIn K mainGlobals "sorted" = some none) (ztuple : PySem.W.nsIn K mainGlobals "tuple" = some none) (zdict : PySem.W.nsIn K mainGlobals "dict" = some none) (zabs : PySem.W.nsIn K mainGlobals "abs" = some none) (zreversed : PySem.W.nsIn K mainGlobals "reversed" = some none) (zrepr : PySem.W.nsIn K mainGlobals "repr" = some none) (zall : PySem.W.nsIn K mainGlobals "all" = some none) (zany : PySem.W.nsIn K mainGlobals "any" = some none) (zzip : PySem.W.nsIn K mainGlobals "zip" = some none) :
    ∃ fd : FuncData, (∀ (s : Shared) (v : Value), BindsTo s fd ⟨[v], []⟩ [("script", v)]) ∧ ∀ base : Heap, K.In base → base.Ns mainGlobals mg → FnOk l.prog w K mg base CX0 7 fa fd ["script"] (spLaw K) := by
  have e := hfa.symm.trans (PySem.W.mg_of X G alaw)
  cases e
  have B : Blt mg := ⟨PySem.W.mg_none_of X G zlen, PySem.W.mg_none_of X G zrange, PySem.W.mg_none_of X G zenumerate, PySem.W.mg_none_of X G zlist, PySem.W.mg_none_of X G zint, PySem.W.mg_none_of X G zbool, PySem.W.mg_none_of X G zsum, PySem.W.mg_none_of X G zmax, PySem.W.mg_none_of X G zmin, PySem.W.mg_none_of X G zisinstance, PySem.W.mg_none_of X G zset, PySem.W.mg_none_of X G zsorted, PySem.W.mg_none_of X G ztuple, PySem.W.mg_none_of X G zdict, PySem.W.mg_none_of X G zabs, PySem.W.mg_none_of X G zreversed, PySem.W.mg_none_of X G zrepr, PySem.W.mg_none_of X G zall, PySem.W.mg_none_of X G zany, PySem.W.mg_none_of X G zzip⟩
  have bRowError := PySem.W.mg_of X G aRowError
  have bNoTable := PySem.W.mg_of X G aNoTable
  have bNoCommand := PySem.W.mg_of X G aNoCommand
  have bNoNeeds := PySem.W.mg_of X G aNoNeeds
  have bNoPlace := PySem.W.mg_of X G aNoPlace
  have bNoRow := PySem.W.mg_of X G aNoRow
  have bNoWindow := PySem.W.mg_of X G aNoWindow
  have xRowError : XCl K mg "RowError" cRowError := ⟨bRowError, eRowError⟩
  have xNoTable : XOwn K mg "NoTable" cNoTable cRowError [cNoCommand, cNoNeeds, cNoPlace, cNoRow, cNoWindow] := ⟨⟨bNoTable, eNoTable⟩, ⟨gaNoTable, gtNoTable, clNoTable, obNoTable, beNoTable⟩, upNoTable, meNoTable, veNoTable, fun d hd => by
    simp only [List.mem_cons, List.not_mem_nil, or_false] at hd
    rcases hd with rfl | rfl | rfl | rfl | rfl
    · exact ⟨iNoTableNoCommand, tNoTableNoCommand, oNoTableNoCommand⟩
    · exact ⟨iNoTableNoNeeds, tNoTableNoNeeds, oNoTableNoNeeds⟩
    · exact ⟨iNoTableNoPlace, tNoTableNoPlace, oNoTableNoPlace⟩
    · exact ⟨iNoTableNoRow, tNoTableNoRow, oNoTableNoRow⟩
    · exact ⟨iNoTableNoWindow, tNoTableNoWindow, oNoTableNoWindow⟩⟩
  have bValueError := PySem.W.mg_none_of X G zValueError
  have bstr := PySem.W.mg_none_of X G zstr
  have h_law_mixed : ∀ base : Heap, Has l.prog w K mg base "_law_mixed" 1 ["cell", "k"] spMixed := fun base => ⟨_, _, ok_law_mixed (fun_mk (st := st_law_mixed) llaw_mixed claw_mixed klaw_mixed), PySem.W.mg_of X G alaw_mixed, klaw_mixed, (fun_mk (st := st_law_mixed) llaw_mixed claw_mixed klaw_mixed).binds (ps := ["cell", "k"]) fun _ _ _ _ _ _ us hl => match us, hl with | [_, _], _ => rfl⟩
  have h_law_purse : ∀ base : Heap, Has l.prog w K mg base "_law_purse" 2 ["script", "at", "step", "many"] (spPurse K) := fun base => ⟨_, _, ok_law_purse B (fun_mk (st := st_law_purse) llaw_purse claw_purse klaw_purse) (h_law_mixed base), PySem.W.mg_of X G alaw_purse, klaw_purse, (fun_mk (st := st_law_purse) llaw_purse claw_purse klaw_purse).binds (ps := ["script", "at", "step", "many"]) fun _ _ _ _ _ _ us hl => match us, hl with | [_, _, _, _], _ => rfl⟩
  have h_law_next : ∀ base : Heap, Has l.prog w K mg base "_law_next" 1 ["purse"] spNext := fun base => ⟨_, _, ok_law_next B (fun_mk (st := st_law_next) llaw_next claw_next klaw_next), PySem.W.mg_of X G alaw_next, klaw_next, (fun_mk (st := st_law_next) llaw_next claw_next klaw_next).binds (ps := ["purse"]) fun _ _ _ _ _ _ us hl => match us, hl with | [_], _ => rfl⟩
  have h_law_value : ∀ base : Heap, Has l.prog w K mg base "_law_value" 1 ["way", "at"] spValue := fun base => ⟨_, _, ok_law_value (fun_mk (st := st_law_value) llaw_value claw_value klaw_value), PySem.W.mg_of X G alaw_value, klaw_value, (fun_mk (st := st_law_value) llaw_value claw_value klaw_value).binds (ps := ["way", "at"]) fun _ _ _ _ _ _ us hl => match us, hl with | [_, _], _ => rfl⟩
  have h_law_row : ∀ base : Heap, Has l.prog w K mg base "_law_row" 2 ["purse", "most"] spRowQ := fun base => ⟨_, _, ok_law_row B (fun_mk (st := st_law_row) llaw_row claw_row klaw_row) (h_law_next base) (h_law_value base), PySem.W.mg_of X G alaw_row, klaw_row, (fun_mk (st := st_law_row) llaw_row claw_row klaw_row).binds (ps := ["purse", "most"]) fun _ _ _ _ _ _ us hl => match us, hl with | [_, _], _ => rfl⟩
  have h_law_most : ∀ base : Heap, Has l.prog w K mg base "_law_most" 3 ["script", "k"] (spMostP K) := fun base => ⟨_, _, ok_law_most (fun_mk (st := st_law_most) llaw_most claw_most klaw_most) (h_law_purse base) (h_law_next base), PySem.W.mg_of X G alaw_most, klaw_most, (fun_mk (st := st_law_most) llaw_most claw_most klaw_most).binds (ps := ["script", "k"]) fun _ _ _ _ _ _ us hl => match us, hl with | [_, _], _ => rfl⟩
  have h_law_lines : ∀ base : Heap, Has l.prog w K mg base "_law_lines" 1 ["row"] (spLines K) := fun base => ⟨_, _, ok_law_lines B (fun_mk (st := st_law_lines) llaw_lines claw_lines klaw_lines), PySem.W.mg_of X G alaw_lines, klaw_lines, (fun_mk (st := st_law_lines) llaw_lines claw_lines klaw_lines).binds (ps := ["row"]) fun _ _ _ _ _ _ us hl => match us, hl with | [_], _ => rfl⟩
  have h_law_plain : ∀ base : Heap, Has l.prog w K mg base "_law_plain" 1 ["row"] (spPlainD K) := fun base => ⟨_, _, ok_law_plain B (fun_mk (st := st_law_plain) llaw_plain claw_plain klaw_plain), PySem.W.mg_of X G alaw_plain, klaw_plain, (fun_mk (st := st_law_plain) llaw_plain claw_plain klaw_plain).binds (ps := ["row"]) fun _ _ _ _ _ _ us hl => match us, hl with | [_], _ => rfl⟩
  have h_law_is_list : ∀ base : Heap, Has l.prog w K mg base "_law_is_list" 1 ["thing", "size"] My.spIsList := fun base => ⟨_, _, ok_law_is_list B (fun_mk (st := st_law_is_list) llaw_is_list claw_is_list klaw_is_list), PySem.W.mg_of X G alaw_is_list, klaw_is_list, (fun_mk (st := st_law_is_list) llaw_is_list claw_is_list klaw_is_list).binds (ps := ["thing", "size"]) fun _ _ _ _ _ _ us hl => match us, hl with | [_, _], _ => rfl⟩
  have h_law_row_of : ∀ base : Heap, Has l.prog w K mg base "_law_row_of" 2 ["thing"] My.spRowOfA := fun base => ⟨_, _, ok_law_row_of B (fun_mk (st := st_law_row_of) llaw_row_of claw_row_of klaw_row_of) (h_law_is_list base) (h_law_plain base) (h_law_lines base), PySem.W.mg_of X G alaw_row_of, klaw_row_of, (fun_mk (st := st_law_row_of) llaw_row_of claw_row_of klaw_row_of).binds (ps := ["thing"]) fun _ _ _ _ _ _ us hl => match us, hl with | [_], _ => rfl⟩
  have his_whole : ∀ base : Heap, Has l.prog w K mg base "is_whole" 1 ["thing"] My.spWholeV := fun base => ⟨_, _, ok_is_whole B (fun_mk (st := stis_whole) lis_whole cis_whole kis_whole), PySem.W.mg_of X G ais_whole, kis_whole, (fun_mk (st := stis_whole) lis_whole cis_whole kis_whole).binds (ps := ["thing"]) fun _ _ _ _ _ _ us hl => match us, hl with | [_], _ => rfl⟩
  have hlast_places : ∀ base : Heap, Has l.prog w K mg base "last_places" 1 ["row"] (spList K My.lastsM) := fun base => ⟨_, _, ok_last_places B (fun_mk (st := stlast_places) llast_places clast_places klast_places), PySem.W.mg_of X G alast_places, klast_places, (fun_mk (st := stlast_places) llast_places clast_places klast_places).binds (ps := ["row"]) fun _ _ _ _ _ _ us hl => match us, hl with | [_], _ => rfl⟩
  have hare_lasts : ∀ base : Heap, Has l.prog w K mg base "are_lasts" 2 ["thing"] My.spAreV := fun base => ⟨_, _, ok_are_lasts B (fun_mk (st := stare_lasts) lare_lasts care_lasts kare_lasts) (his_whole base), PySem.W.mg_of X G aare_lasts, kare_lasts, (fun_mk (st := stare_lasts) lare_lasts care_lasts kare_lasts).binds (ps := ["thing"]) fun _ _ _ _ _ _ us hl => match us, hl with | [_], _ => rfl⟩
  have hrow_of : ∀ base : Heap, Has l.prog w K mg base "row_of" 3 ["lasts"] spRowOf := fun base => ⟨_, _, ok_row_of (fun_mk (st := strow_of) lrow_of crow_of krow_of) ((hare_lasts base).imp fun _ _ _ _ => My.spAre_V), PySem.W.mg_of X G arow_of, krow_of, (fun_mk (st := strow_of) lrow_of crow_of krow_of).binds (ps := ["lasts"]) fun _ _ _ _ _ _ us hl => match us, hl with | [_], _ => rfl⟩
  have hErow_of : ∀ base : Heap, HasE l.prog w K mg base "row_of" 3 ["lasts"] (spOr spRowOf (My.spRowOfN cNoTable)) := fun base => ⟨_, _, (FnOk.or (FnOk.lift (ok_row_of (fun_mk (st := strow_of) lrow_of crow_of krow_of) ((hare_lasts base).imp fun _ _ _ _ => My.spAre_V))) (ok_row_ofE xNoTable (fun_mk (st := strow_of) lrow_of crow_of krow_of) (hare_lasts base))), PySem.W.mg_of X G arow_of, krow_of, (fun_mk (st := strow_of) lrow_of crow_of krow_of).binds (ps := ["lasts"]) fun _ _ _ _ _ _ us hl => match us, hl with | [_], _ => rfl⟩
  have hline_of : ∀ base : Heap, Has l.prog w K mg base "line_of" 1 ["lasts", "first"] (spLineOf K) := fun base => ⟨_, _, ok_line_of (fun_mk (st := stline_of) lline_of cline_of kline_of), PySem.W.mg_of X G aline_of, kline_of, (fun_mk (st := stline_of) lline_of cline_of kline_of).binds (ps := ["lasts", "first"]) fun _ _ _ _ _ _ us hl => match us, hl with | [_, _], _ => rfl⟩
  have htable_of : ∀ base : Heap, Has l.prog w K mg base "table_of" 2 ["row"] (spLines K) := fun base => ⟨_, _, ok_table_of B (fun_mk (st := sttable_of) ltable_of ctable_of ktable_of) (hlast_places base) (hline_of base), PySem.W.mg_of X G atable_of, ktable_of, (fun_mk (st := sttable_of) ltable_of ctable_of ktable_of).binds (ps := ["row"]) fun _ _ _ _ _ _ us hl => match us, hl with | [_], _ => rfl⟩
  have his_line : ∀ base : Heap, Has l.prog w K mg base "is_line" 2 ["thing", "length"] (spOr spLineIs My.spLineA) := fun base => ⟨_, _, (FnOk.or (ok_is_line B (fun_mk (st := stis_line) lis_line cis_line kis_line) ((his_whole base).imp fun _ _ _ _ => My.spWhole_V)) (ok_is_lineA B (fun_mk (st := stis_line) lis_line cis_line kis_line) (his_whole base))), PySem.W.mg_of X G ais_line, kis_line, (fun_mk (st := stis_line) lis_line cis_line kis_line).binds (ps := ["thing", "length"]) fun _ _ _ _ _ _ us hl => match us, hl with | [_, _], _ => rfl⟩
  have hhas_form : ∀ base : Heap, Has l.prog w K mg base "has_form" 3 ["thing"] (spOr spFormT My.spFormA) := fun base => ⟨_, _, (FnOk.or (ok_has_form B (fun_mk (st := sthas_form) lhas_form chas_form khas_form) ((his_line base).imp fun _ _ _ _ => Or.inl)) (ok_has_formA B (fun_mk (st := sthas_form) lhas_form chas_form khas_form) ((his_line base).imp fun _ _ _ _ => Or.inr))), PySem.W.mg_of X G ahas_form, khas_form, (fun_mk (st := sthas_form) lhas_form chas_form khas_form).binds (ps := ["thing"]) fun _ _ _ _ _ _ us hl => match us, hl with | [_], _ => rfl⟩
  have hlast_in_table : ∀ base : Heap, Has l.prog w K mg base "last_in_table" 1 ["table", "place"] spLastT := fun base => ⟨_, _, ok_last_in_table B (fun_mk (st := stlast_in_table) llast_in_table clast_in_table klast_in_table), PySem.W.mg_of X G alast_in_table, klast_in_table, (fun_mk (st := stlast_in_table) llast_in_table clast_in_table klast_in_table).binds (ps := ["table", "place"]) fun _ _ _ _ _ _ us hl => match us, hl with | [_, _], _ => rfl⟩
  have hrow_of_table : ∀ base : Heap, Has l.prog w K mg base "row_of_table" 4 ["thing"] spRowTab := fun base => ⟨_, _, ok_row_of_table B (fun_mk (st := strow_of_table) lrow_of_table crow_of_table krow_of_table) ((hhas_form base).imp fun _ _ _ _ => Or.inl) (hlast_in_table base) (hrow_of base) (htable_of base), PySem.W.mg_of X G arow_of_table, krow_of_table, (fun_mk (st := strow_of_table) lrow_of_table crow_of_table krow_of_table).binds (ps := ["thing"]) fun _ _ _ _ _ _ us hl => match us, hl with | [_], _ => rfl⟩
  have hErow_of_table : ∀ base : Heap, HasE l.prog w K mg base "row_of_table" 4 ["thing"] (spOr spRowTab (spOr (My.spRowTabN cNoTable) (My.spRowTabA cNoTable))) := fun base => ⟨_, _, (FnOk.or (FnOk.lift (ok_row_of_table B (fun_mk (st := strow_of_table) lrow_of_table crow_of_table krow_of_table) ((hhas_form base).imp fun _ _ _ _ => Or.inl) (hlast_in_table base) (hrow_of base) (htable_of base))) (FnOk.or (ok_row_of_tableE B xNoTable (fun_mk (st := strow_of_table) lrow_of_table crow_of_table krow_of_table) ((hhas_form base).imp fun _ _ _ _ => Or.inl) (hlast_in_table base) (hErow_of base) (htable_of base)) (ok_row_of_tableA B xNoTable (fun_mk (st := strow_of_table) lrow_of_table crow_of_table krow_of_table) ((hhas_form base).imp fun _ _ _ _ => Or.inr) (hlast_in_table base) (hErow_of base) (htable_of base)))), PySem.W.mg_of X G arow_of_table, krow_of_table, (fun_mk (st := strow_of_table) lrow_of_table crow_of_table krow_of_table).binds (ps := ["thing"]) fun _ _ _ _ _ _ us hl => match us, hl with | [_], _ => rfl⟩
  have h_law_asked : ∀ base : Heap, Has l.prog w K mg base "_law_asked" 5 ["thing"] My.spAskedT := fun base => ⟨_, _, ok_law_asked B xRowError xNoTable bNoCommand bNoNeeds bNoPlace bNoRow bNoWindow bValueError (fun_mk (st := st_law_asked) llaw_asked claw_asked klaw_asked) (hErow_of_table base), PySem.W.mg_of X G alaw_asked, klaw_asked, (fun_mk (st := st_law_asked) llaw_asked claw_asked klaw_asked).binds (ps := ["thing"]) fun _ _ _ _ _ _ us hl => match us, hl with | [_], _ => rfl⟩
  have h_law_right : ∀ base : Heap, Has l.prog w K mg base "_law_right" 6 ["thing"] My.spRightT := fun base => ⟨_, _, ok_law_right B (fun_mk (st := st_law_right) llaw_right claw_right klaw_right) (h_law_row_of base) (h_law_asked base), PySem.W.mg_of X G alaw_right, klaw_right, (fun_mk (st := st_law_right) llaw_right claw_right klaw_right).binds (ps := ["thing"]) fun _ _ _ _ _ _ us hl => match us, hl with | [_], _ => rfl⟩
  have h_law_with : ∀ base : Heap, Has l.prog w K mg base "_law_with" 1 ["table", "first", "at", "thing"] My.spWithT := fun base => ⟨_, _, ok_law_with (fun_mk (st := st_law_with) llaw_with claw_with klaw_with), PySem.W.mg_of X G alaw_with, klaw_with, (fun_mk (st := st_law_with) llaw_with claw_with klaw_with).binds (ps := ["table", "first", "at", "thing"]) fun _ _ _ _ _ _ us hl => match us, hl with | [_, _, _, _], _ => rfl⟩
  have h_law_one_otherwise : ∀ base : Heap, Has l.prog w K mg base "_law_one_otherwise" 2 ["purse", "table"] My.spOneT := fun base => ⟨_, _, ok_law_one_otherwise B bstr (fun_mk (st := st_law_one_otherwise) llaw_one_otherwise claw_one_otherwise klaw_one_otherwise) (h_law_next base) (h_law_with base), PySem.W.mg_of X G alaw_one_otherwise, klaw_one_otherwise, (fun_mk (st := st_law_one_otherwise) llaw_one_otherwise claw_one_otherwise klaw_one_otherwise).binds (ps := ["purse", "table"]) fun _ _ _ _ _ _ us hl => match us, hl with | [_, _], _ => rfl⟩
  have h_law_lines_otherwise : ∀ base : Heap, Has l.prog w K mg base "_law_lines_otherwise" 2 ["purse", "table"] My.spLinesT := fun base => ⟨_, _, ok_law_lines_otherwise B (fun_mk (st := st_law_lines_otherwise) llaw_lines_otherwise claw_lines_otherwise klaw_lines_otherwise) (h_law_next base), PySem.W.mg_of X G alaw_lines_otherwise, klaw_lines_otherwise, (fun_mk (st := st_law_lines_otherwise) llaw_lines_otherwise claw_lines_otherwise klaw_lines_otherwise).binds (ps := ["purse", "table"]) fun _ _ _ _ _ _ us hl => match us, hl with | [_, _], _ => rfl⟩
  exact ⟨PySem.W.fnOf "law" "law" (defArgs stlaw) (defBody stlaw) (defScope stlaw) .none kVlaw dclaw pmlaw anlaw cdlaw ctlaw, fun s v => .of_eq rfl, fun base _ _ => ok_law B (fun_mk (st := stlaw) llaw claw klaw) (h_law_purse base) (h_law_next base) (h_law_row base) (h_law_most base) (h_law_lines base) (h_law_one_otherwise base) (h_law_lines_otherwise base) (h_law_right base)⟩
theorem walk {l : PySem.W.OpenLaw} {q : Program} {loose : List Str} {XP : (Str → Option Value) → Heap → Prop} {YP : World → Heap → Prop} {d : DefRec} {K : Params → PySem.W.Frag} (hn : l.most = some 63) (hdf : d.params.defaults = [])
    (hY : ∀ (w : World) (h : Heap), YP w h → (K w.params).In h)
    (F : ∀ (w : World) (mg : Str → Option Value) (fa : Addr) (h : Heap), (K w.params).In h → h.Ns mainGlobals mg → mg d.name = some (.ref fa) →
      ∃ fd : FuncData, (∀ (s : Shared) (u : Value), BindsTo s fd ⟨[u], []⟩ [("script", u)]) ∧ ∀ base : Heap, (K w.params).In base → base.Ns mainGlobals mg → FnOk l.prog w (K w.params) mg base CX0 7 fa fd ["script"] (spLaw (K w.params))) :
    PySem.W.WalkO q loose XP YP l.row.toRowW d [] (fun f vs => PySem.call f vs) :=
  L2.walk_of (n := 63) (k := 7) (x := "script") (CX := fun _ => CX0) (sp := fun w => spLaw (K w.params)) hn (by decide) hdf ⟨rfl, by decide, by decide, rfl⟩ hY F (fun _ _ a ns hl _ hS => ⟨a, ns, rfl, hS, hl, fun _ => rfl⟩) fun _ _ _ _ _ z => z
end Prf
open PySem PySem.W PyProof.Rows
set_option maxRecDepth 100000 in
set_option maxHeartbeats 0 in
theorem PySem.Challenge.cw_unlikerow_k33_tables_spoilt_holds : PySem.Challenge.rw_unlikerow_k33_tables_spoilt.Holds := by
  w_on; o_law; k_head; (case hw => w_witness2)
  k_fill
  refine Prf.walk (l := PySem.Challenge.rw_unlikerow_k33_tables_spoilt) rfl rfl (fun w h Y => PySem.W.kIn_of Y) ?F
  case F =>
    intro w mg fa h KX G hmg
    refine' Prf.all_mk KX G hmg ?aRowError ?aNoTable ?aNoCommand ?aNoNeeds ?aNoPlace ?aNoRow ?aNoWindow ?eRowError ?eNoTable ?gaNoTable ?gtNoTable ?clNoTable ?obNoTable ?beNoTable ?upNoTable ?meNoTable ?veNoTable ?iNoTableNoCommand ?tNoTableNoCommand ?oNoTableNoCommand ?iNoTableNoNeeds ?tNoTableNoNeeds ?oNoTableNoNeeds ?iNoTableNoPlace ?tNoTableNoPlace ?oNoTableNoPlace ?iNoTableNoRow ?tNoTableNoRow ?oNoTableNoRow ?iNoTableNoWindow ?tNoTableNoWindow ?oNoTableNoWindow ?zValueError ?zstr ?alaw_mixed ?llaw_mixed ?claw_mixed ?klaw_mixed ?alaw_purse ?llaw_purse ?claw_purse ?klaw_purse ?alaw_next ?llaw_next ?claw_next ?klaw_next ?alaw_value ?llaw_value ?claw_value ?klaw_value ?alaw_row ?llaw_row ?claw_row ?klaw_row ?alaw_most ?llaw_most ?claw_most ?klaw_most ?alaw_lines ?llaw_lines ?claw_lines ?klaw_lines ?alaw_plain ?llaw_plain ?claw_plain ?klaw_plain ?alaw_is_list ?llaw_is_list ?claw_is_list ?klaw_is_list ?alaw_row_of ?llaw_row_of ?claw_row_of ?klaw_row_of ?ais_whole ?lis_whole ?cis_whole ?kis_whole ?alast_places ?llast_places ?clast_places ?klast_places ?aare_lasts ?lare_lasts ?care_lasts ?kare_lasts ?arow_of ?lrow_of ?crow_of ?krow_of ?aline_of ?lline_of ?cline_of ?kline_of ?atable_of ?ltable_of ?ctable_of ?ktable_of ?ais_line ?lis_line ?cis_line ?kis_line ?ahas_form ?lhas_form ?chas_form ?khas_form ?alast_in_table ?llast_in_table ?clast_in_table ?klast_in_table ?arow_of_table ?lrow_of_table ?crow_of_table ?krow_of_table ?alaw_asked ?llaw_asked ?claw_asked ?klaw_asked ?alaw_right ?llaw_right ?claw_right ?klaw_right ?alaw_with ?llaw_with ?claw_with ?klaw_with ?alaw_one_otherwise ?llaw_one_otherwise ?claw_one_otherwise ?klaw_one_otherwise ?alaw_lines_otherwise ?llaw_lines_otherwise ?claw_lines_otherwise ?klaw_lines_otherwise ?alaw ?llaw ?claw ?klaw ?zlen ?zrange ?zenumerate ?zlist ?zint ?zbool ?zsum ?zmax ?zmin ?zisinstance ?zset ?zsorted ?ztuple ?zdict ?zabs ?zreversed ?zrepr ?zall ?zany ?zzip
    (case aRowError => k_is); (case aNoTable => k_is); (case aNoCommand => k_is); (case aNoNeeds => k_is); (case aNoPlace => k_is); (case aNoRow => k_is); (case aNoWindow => k_is); (case eRowError => k_exc)
    (case eNoTable => k_exc); (case gaNoTable => k_is); (case gtNoTable => k_is); (case clNoTable => k_is); (case obNoTable => k_is); (case beNoTable => k_is); (case upNoTable => k_is); (case meNoTable => k_is)
    (case veNoTable => k_is); (case iNoTableNoCommand => k_is); (case tNoTableNoCommand => k_is); (case oNoTableNoCommand => k_is); (case iNoTableNoNeeds => k_is); (case tNoTableNoNeeds => k_is); (case oNoTableNoNeeds => k_is); (case iNoTableNoPlace => k_is)
    (case tNoTableNoPlace => k_is); (case oNoTableNoPlace => k_is); (case iNoTableNoRow => k_is); (case tNoTableNoRow => k_is); (case oNoTableNoRow => k_is); (case iNoTableNoWindow => k_is); (case tNoTableNoWindow => k_is); (case oNoTableNoWindow => k_is)
    (case zValueError => k_is); (case zstr => k_is); (case alaw_mixed => k_is); (case llaw_mixed => k_is); (case claw_mixed => k_is); (case klaw_mixed => k_is); (case alaw_purse => k_is); (case llaw_purse => k_is)
    (case claw_purse => k_is); (case klaw_purse => k_is); (case alaw_next => k_is); (case llaw_next => k_is); (case claw_next => k_is); (case klaw_next => k_is); (case alaw_value => k_is); (case llaw_value => k_is)
    (case claw_value => k_is); (case klaw_value => k_is); (case alaw_row => k_is); (case llaw_row => k_is); (case claw_row => k_is); (case klaw_row => k_is); (case alaw_most => k_is); (case llaw_most => k_is)
    (case claw_most => k_is); (case klaw_most => k_is); (case alaw_lines => k_is); (case llaw_lines => k_is); (case claw_lines => k_is); (case klaw_lines => k_is); (case alaw_plain => k_is); (case llaw_plain => k_is)
    (case claw_plain => k_is); (case klaw_plain => k_is); (case alaw_is_list => k_is); (case llaw_is_list => k_is); (case claw_is_list => k_is); (case klaw_is_list => k_is); (case alaw_row_of => k_is); (case llaw_row_of => k_is)
    (case claw_row_of => k_is); (case klaw_row_of => k_is); (case ais_whole => k_is); (case lis_whole => k_is); (case cis_whole => k_is); (case kis_whole => k_is); (case alast_places => k_is); (case llast_places => k_is)
    (case clast_places => k_is); (case klast_places => k_is); (case aare_lasts => k_is); (case lare_lasts => k_is); (case care_lasts => k_is); (case kare_lasts => k_is); (case arow_of => k_is); (case lrow_of => k_is)
    (case crow_of => k_is); (case krow_of => k_is); (case aline_of => k_is); (case lline_of => k_is); (case cline_of => k_is); (case kline_of => k_is); (case atable_of => k_is); (case ltable_of => k_is)
    (case ctable_of => k_is); (case ktable_of => k_is); (case ais_line => k_is); (case lis_line => k_is); (case cis_line => k_is); (case kis_line => k_is); (case ahas_form => k_is); (case lhas_form => k_is)
    (case chas_form => k_is); (case khas_form => k_is); (case alast_in_table => k_is); (case llast_in_table => k_is); (case clast_in_table => k_is); (case klast_in_table => k_is); (case arow_of_table => k_is); (case lrow_of_table => k_is)
    (case crow_of_table => k_is); (case krow_of_table => k_is); (case alaw_asked => k_is); (case llaw_asked => k_is); (case claw_asked => k_is); (case klaw_asked => k_is); (case alaw_right => k_is); (case llaw_right => k_is)
    (case claw_right => k_is); (case klaw_right => k_is); (case alaw_with => k_is); (case llaw_with => k_is); (case claw_with => k_is); (case klaw_with => k_is); (case alaw_one_otherwise => k_is); (case llaw_one_otherwise => k_is)
    (case claw_one_otherwise => k_is); (case klaw_one_otherwise => k_is); (case alaw_lines_otherwise => k_is); (case llaw_lines_otherwise => k_is); (case claw_lines_otherwise => k_is); (case klaw_lines_otherwise => k_is); (case alaw => k_is); (case llaw => k_is)
    (case claw => k_is); (case klaw => k_is); (case zlen => k_is); (case zrange => k_is); (case zenumerate => k_is); (case zlist => k_is); (case zint => k_is); (case zbool => k_is)
    (case zsum => k_is); (case zmax => k_is); (case zmin => k_is); (case zisinstance => k_is); (case zset => k_is); (case zsorted => k_is); (case ztuple => k_is); (case zdict => k_is)
    (case zabs => k_is); (case zreversed => k_is); (case zrepr => k_is); (case zall => k_is); (case zany => k_is); (case zzip => k_is)
#print axioms PySem.Challenge.cw_unlikerow_k33_tables_spoilt_holds

