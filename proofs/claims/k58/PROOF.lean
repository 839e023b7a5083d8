import PyProof.Rows.All
import Wide.All
import OpenK.AllK
import Wide.FinOn
import Lean
import PyProof.NeKinds
import PyProof.Rows.SumAny
import PyProof.Rows.EnumRows
import KE.KItemsList
import PyProof.Rows.SetFrom
import PyProof.ListRange
import PyProof.Rows.SeqMore
import PyProof.AttrMissHeap
import KE.KDictOf
import PyProof.ZipIter
import KE.LcSums
import PyProof.EqKinds
import PyProof.FactsAll.dict
import PyProof.Rows.SortShell
import PyProof.Rows.SortWalk
import KE.KDictSum
import KE.KNestM
import KE.KLam
import PyProof.TupleIter
import PyProof.StrBlockH
import PyProof.StrWalks
import PyProof.StrCalls
import PyProof.StrOps2
import KE.KIntText
import KE.IntTextLaws
import PyProof.StrLawsIn
import PyProof.StrLawsIdx
import PyProof.StrLawsOcc
import PyProof.FitsReplace
import PySem.Challenge.RW_unlikerow_k58_rows_written
set_option Elab.async false
set_option linter.all false
set_option maxRecDepth 100000
/-! THE HAND LAYER, for ints, bools, texts, own classes, LISTS and tuples (index, slices, in, append, pop ..), calls, loops. Paste it whole ahead of your own text; what your proof does not reach may be deleted. -/
namespace L2
open PySem PySem.Spec PyProof.Rows

/-- a key: an int or a str -/
abbrev Key := Sum Int Str
def keyIs : Key → Value → Bool
  | .inl k, v => Value.isInt k v
  | .inr x, v => Value.isStrOf x v
def keyH (w : World) : Key → Int
  | .inl k => hashInt k
  | .inr x => hashStr w x
theorem keyIs_shape : ∀ {k : Key} {v : Value}, keyIs k v = true → (∃ i t, k = Sum.inl i ∧ v = Value.int i t) ∨ (∃ x t, k = Sum.inr x ∧ v = Value.str x t)
  | .inl i, v, h => by
    obtain ⟨t, e⟩ := Value.isInt_shape (k := i) (v := v) h
    exact .inl ⟨i, t, rfl, e⟩
  | .inr x, v, h => by
    obtain ⟨t, e⟩ := Value.isStrOf_shape (x := x) (v := v) h
    exact .inr ⟨x, t, rfl, e⟩
theorem keyIs_int (i : Int) (t : Tok) : keyIs (.inl i) (.int i t) = true := by simp [keyIs, Value.isInt]
theorem key_ll (a b : Int) : decide ((Sum.inl a : Key) = Sum.inl b) = (a == b) := by
  by_cases e : a = b
  · subst e; simp
  · have h : ¬ (Sum.inl a : Key) = Sum.inl b := fun q => e (Sum.inl.inj q)
    rw [decide_eq_false h]
    exact (beq_eq_false_iff_ne.mpr e).symm
theorem key_rr (a b : Str) : decide ((Sum.inr a : Key) = Sum.inr b) = decide (a = b) := by
  by_cases e : a = b
  · subst e; simp
  · have h : ¬ (Sum.inr a : Key) = Sum.inr b := fun q => e (Sum.inr.inj q)
    rw [decide_eq_false h, decide_eq_false e]
theorem key_lr (a : Int) (b : Str) : decide ((Sum.inl a : Key) = Sum.inr b) = false := decide_eq_false (fun q => nomatch q)
theorem key_rl (a : Str) (b : Int) : decide ((Sum.inr a : Key) = Sum.inl b) = false := decide_eq_false (fun q => nomatch q)

def mixKind (prog : Program) (w : World) : PySem.KeyKind prog w Key where
  is := keyIs
  hash := keyH w
  inj := fun v a b ha hb => by
    rcases keyIs_shape ha with ⟨i, t, rfl, rfl⟩ | ⟨x, t, rfl, rfl⟩
    · rcases keyIs_shape hb with ⟨j, u, rfl, e⟩ | ⟨y, u, rfl, e⟩
      · injection e with e1 _; rw [e1]
      · exact nomatch e
    · rcases keyIs_shape hb with ⟨j, u, rfl, e⟩ | ⟨y, u, rfl, e⟩
      · exact nomatch e
      · injection e with e1 _; rw [e1]
  byValue := fun k v h => by
    rcases keyIs_shape h with ⟨i, t, rfl, rfl⟩ | ⟨x, t, rfl, rfl⟩ <;> rfl
  pyHash := fun hv h => by
    rcases keyIs_shape hv with ⟨i, t, rfl, rfl⟩ | ⟨x, t, rfl, rfl⟩
    · exact wpAny_pyHash_int h
    · exact wpAny_pyHash_str h
  eqBool := fun hu hv h => by
    rcases keyIs_shape hu with ⟨i, t, rfl, rfl⟩ | ⟨x, t, rfl, rfl⟩
    · rcases keyIs_shape hv with ⟨j, u, rfl, rfl⟩ | ⟨y, u, rfl, rfl⟩
      · rw [key_ll] at h; exact wpAny_eqBool_int h
      · rw [key_lr] at h; exact SeqAt.EqAt.int_str i t y u _ _ _ _ h
    · rcases keyIs_shape hv with ⟨j, u, rfl, rfl⟩ | ⟨y, u, rfl, rfl⟩
      · rw [key_rl] at h; exact SeqAt.EqAt.str_int x t j u _ _ _ _ h
      · rw [key_rr] at h; exact wpAny_eqBool_str h
  «strs» := fun k x t v h => by
    rcases keyIs_shape h with ⟨i, u, rfl, e⟩ | ⟨y, u, rfl, e⟩
    · exact nomatch e
    · injection e with e1 _
      subst e1
      cases v <;> rfl

theorem mixKind_int (prog : Program) (w : World) (i : Int) (t : Tok) : (mixKind prog w).is (.inl i) (.int i t) = true := keyIs_int i t
end L2

namespace L2
open PySem PySem.Spec PyProof.Rows

/-- a value, without the heap -/
inductive V where
  | non | bl (b : Bool) | int (i : Int) | str (x : Str) | byt (b : Array UInt8) | flt (b : UInt64) | ref (a : Addr) | ty (n : String)
  deriving DecidableEq

def RelV : V → Value → Prop
  | .non, u => u = Value.none
  | .bl b, u => u = Value.bool b
  | .int i, u => ∃ t, u = Value.int i t
  | .str x, u => ∃ t, u = Value.str x t
  | .byt b, u => ∃ t, u = Value.bytes b t
  | .flt b, u => ∃ t, u = Value.float b t
  | .ref a, u => u = Value.ref a
  | .ty n, u => u = Value.type n

abbrev Vals : List V → List Value → Prop := Paired RelV
theorem Vals.length {xs : List V} {us : List Value} (r : Vals xs us) : xs.length = us.length := Paired.length r
theorem Vals.get : ∀ {xs : List V} {us : List Value} {i : Nat} {x : V}, Vals xs us → xs[i]? = some x → ∃ u, us[i]? = some u ∧ RelV x u
  | _, _, _, _, .nil, e => by simp at e
  | _, _, 0, _, .cons r _, e => by simp at e; subst e; exact ⟨_, rfl, r⟩
  | _, _, i + 1, x, .cons _ t, e => by
    obtain ⟨u, h1, h2⟩ := Vals.get (i := i) (x := x) t (by simpa using e)
    exact ⟨u, by simpa using h1, h2⟩
theorem Vals.set {x : V} {u : Value} (r : RelV x u) : ∀ {xs : List V} {us : List Value} (i : Nat), Vals xs us → Vals (xs.set i x) (us.set i u)
  | _, _, _, .nil => .nil
  | _, _, 0, .cons _ t => .cons r t
  | _, _, i + 1, .cons q t => .cons q (Vals.set r i t)
theorem Vals.append : ∀ {xs ys : List V} {us ws : List Value}, Vals xs us → Vals ys ws → Vals (xs ++ ys) (us ++ ws)
  | _, _, _, _, .nil, s => s
  | _, _, _, _, .cons r t, s => .cons r (Vals.append t s)
theorem Vals.take : ∀ {xs : List V} {us : List Value} (n : Nat), Vals xs us → Vals (xs.take n) (us.take n)
  | _, _, 0, _ => .nil
  | _, _, _ + 1, .nil => .nil
  | _, _, n + 1, .cons r t => .cons r (Vals.take n t)
theorem Vals.drop : ∀ {xs : List V} {us : List Value} (n : Nat), Vals xs us → Vals (xs.drop n) (us.drop n)
  | _, _, 0, r => r
  | _, _, _ + 1, .nil => .nil
  | _, _, n + 1, .cons _ t => Vals.drop n t
theorem Vals.none_of : ∀ {xs : List V} {us : List Value} {i : Nat}, Vals xs us → xs[i]? = none → us[i]? = none := fun {xs us i} r e => by
  have h1 := r.length
  have h2 : xs.length ≤ i := List.getElem?_eq_none_iff.mp e
  exact List.getElem?_eq_none_iff.mpr (by omega)

def RelO : Option V → Option Value → Prop
  | some v, some u => RelV v u
  | none, none => True
  | _, _ => False
def KV {κ : Type} : List (κ × V) → List (κ × Value) → Prop := Paired fun (p : κ × V) (q : κ × Value) => p.1 = q.1 ∧ RelV p.2 q.2

/-- a key of a dict (00_mix): an int or a text -/
def kV : Key → V
  | .inl i => .int i
  | .inr x => .str x

/-- what stands at a tracked address -/
inductive HO where
  /-- a list -/
  | lst (xs : List V)
  /-- a tuple (never changes) -/
  | tup (xs : List V)
  /-- a dict whose keys are ints and texts; one whose keys are tuples of ints and texts (the empty one is both) -/
  | dK (kvs : List (Key × V)) | dT (kvs : List (List Key × V))
  /-- a set of ints: its members, its size -/
  | set (S : Int → Bool) (n : Nat)
  /-- an instance of the class at C, its dict at dx, its attributes -/
  | ins (C dx : Addr) (fs : List (Str × V))
  /-- the dict of the instance at x -/
  | own (x : Addr)
  /-- the dict of an exception -/
  | xd (fs : List (Str × V))
  /-- a bound method, f of x -/
  | met (f x : Addr)
  /-- a range object lo, lo + 1, .. below hi -/
  | rng (lo hi : Int)
  /-- a thing that is known to the object (the script; a dict while a loop walks it): read, never written while it is so -/
  | frz (o : Obj) (u : HO)
  /-- a code object's table -/
  | tbl (ps : Array Value)
  /-- any other thing, by what is true of its one object (a def of one's own: SetO a S n := HO.ext fun h => ..) -/
  | ext (φ : Heap → Prop)

abbrev Hp := Addr → Option HO
def upd (H : Hp) (a : Addr) (o : HO) : Hp := fun b => if b = a then some o else H b
theorem upd_same {H : Hp} {a : Addr} {o : HO} : upd H a o a = some o := by unfold upd; rw [if_pos rfl]
theorem upd_ne {H : Hp} {a b : Addr} {o : HO} (h : b ≠ a) : upd H a o b = H b := by unfold upd; rw [if_neg h]
/-- two objects of different content stand apart -/
theorem ne_of {H : Hp} {a b : Addr} {o u : HO} (h : H a = some o) (h' : H b = some u) (d : o ≠ u) : a ≠ b := by
  intro e; subst e; rw [h] at h'; exact d (Option.some.inj h')
theorem ne_of_none {H : Hp} {a b : Addr} {o : HO} (h : H a = some o) (h' : H b = none) : a ≠ b := by
  intro e; subst e; rw [h] at h'; cases h'

section
variable (P : Program) (w : World)
def ObjOk (H : Hp) (h : Heap) (a : Addr) : HO → Prop
  | .lst xs => xs.length ≤ sizeLine ∧ ∃ (its : List Value) (n : Nat), Vals xs its ∧ h.get? a = some { cls := .type "list", data := .seq its.toArray n }
  | .tup xs => xs.length ≤ sizeLine ∧ ∃ its : List Value, Vals xs its ∧ IsTup h a its.toArray
  | .dK kvs => kvs.length ≤ sizeLine ∧ (a == sysModules) = false ∧ ∃ vs, KV kvs vs ∧ h.DictOf (mixKind P w) a vs
  | .dT kvs => kvs.length ≤ sizeLine ∧ (a == sysModules) = false ∧ ∃ xs : List (List Key × Addr × Value),
      Paired (fun (p : List Key × V) (q : List Key × Addr × Value) => p.1 = q.1 ∧ H q.2.1 = some (.tup (p.1.map kV)) ∧ RelV p.2 q.2.2) kvs xs ∧
      ∃ o es ep, h.get? a = some o ∧ o.ExactDict ∧ o.data = .dict es ep ∧ es.toList = xs.map (entryOfKey (tupleKind (mixKind P w))) ∧ (xs.map (·.1)).Nodup
  | .set S n => h.SetOf (intKind P w) a S n
  | .ins C dx fs => H dx = some (.own a) ∧ fs.length ≤ 1000 ∧ dx ≠ a ∧ h.get? a = some (PySem.W.instObj C dx) ∧
      ∃ mA, h.Ns1 dx mA ∧ (∀ f, RelO (fs.lookup f) (mA f)) ∧ PySem.Within mA (fs.map (·.1))
  | .own _ => ∃ o, h.get? a = some o
  | .xd fs => ∃ mA, h.Ns1 a mA ∧ ∀ f, RelO (fs.lookup f) (mA f)
  | .rng lo hi => ∃ t u v, h.get? a = some { cls := .type "range", data := .fields #[.int lo t, .int hi u, .int 1 v] }
  | .frz o u => h.get? a = some o ∧ ObjOk H h a u
  | .tbl ps => h.get? a = some { cls := .none, data := .fields ps }
  | .met f x => h.get? a = some (PySem.W.methodObj (.ref f) (.ref x))
  | .ext φ => φ h ∧ (∃ o, h.get? a = some o) ∧ ∀ h1 h2 : Heap, φ h1 → (∀ o, h1.get? a = some o → h2.get? a = some o) → φ h2
/-- the abstract heap is held -/
def HOk (H : Hp) (h : Heap) : Prop := ∀ a o, H a = some o → ObjOk P w H h a o
end

section
variable {P : Program} {w : World} {H H' : Hp} {h h' : Heap} {a : Addr} {o : HO}
theorem ObjOk.lt (x : ObjOk P w H h a o) : a < h.objs.size := by
  cases o with
  | lst xs => obtain ⟨_, _, _, _, e⟩ := x; exact Heap.lt_size e
  | tup xs => obtain ⟨_, _, _, p⟩ := x; exact p.lt
  | dK kvs => obtain ⟨_, _, _, _, o, _, _, e, _⟩ := x; exact Heap.lt_size e
  | dT kvs => obtain ⟨_, _, _, _, o, _, _, e, _⟩ := x; exact Heap.lt_size e
  | set S n => obtain ⟨o, _, _, _, e, _⟩ := x; exact Heap.lt_size e
  | ins C dx fs => obtain ⟨_, _, _, e, _⟩ := x; exact Heap.lt_size e
  | own y => obtain ⟨_, e⟩ := x; exact Heap.lt_size e
  | xd fs => obtain ⟨_, ⟨_, _, _, e, _⟩, _⟩ := x; exact Heap.lt_size e
  | rng lo hi => obtain ⟨_, _, _, e⟩ := x; exact Heap.lt_size e
  | frz ob u => obtain ⟨e, _⟩ := x; exact Heap.lt_size e
  | tbl ps => exact Heap.lt_size (show h.get? a = some _ from x)
  | met f y => exact Heap.lt_size (show h.get? a = some _ from x)
  | ext φ => obtain ⟨_, ⟨_, e⟩, _⟩ := x; exact Heap.lt_size e
theorem Paired.mapP {α β : Type} {F G : α → β → Prop} : ∀ {l₁ : List α} {l₂ : List β}, Paired F l₁ l₂ → (∀ a b, F a b → G a b) → Paired G l₁ l₂
  | _, _, .nil, _ => .nil
  | _, _, .cons r t, f => .cons (f _ _ r) (Paired.mapP t f)
/-- what an object's description leans on: its own object, its own dict, the tuples -/
theorem ObjOk.stay (x : ObjOk P w H h a o) (k : ∀ b u, (b = a ∨ H b = some (.own a)) → h.get? b = some u → h'.get? b = some u)
    (ho : ∀ b, H b = some (.own a) → H' b = some (.own a)) (ht : ∀ b xs, H b = some (.tup xs) → H' b = some (.tup xs)) : ObjOk P w H' h' a o := by
  induction o with
  | lst xs => obtain ⟨z, its, n, r, e⟩ := x; exact ⟨z, its, n, r, k _ _ (.inl rfl) e⟩
  | tup xs => obtain ⟨z, its, r, ob, e, c⟩ := x; exact ⟨z, its, r, ob, k _ _ (.inl rfl) e, c⟩
  | dK kvs => obtain ⟨z, y, vs, r, ob, es, ep, e, c⟩ := x; exact ⟨z, y, vs, r, ob, es, ep, k _ _ (.inl rfl) e, c⟩
  | dT kvs =>
    obtain ⟨z, y, xs, r, ob, es, ep, e, c⟩ := x
    exact ⟨z, y, xs, Paired.mapP r fun p q z => ⟨z.1, ht _ _ z.2.1, z.2.2⟩, ob, es, ep, k _ _ (.inl rfl) e, c⟩
  | set S n => obtain ⟨ob, es, ep, t, e, c⟩ := x; exact ⟨ob, es, ep, t, k _ _ (.inl rfl) e, c⟩
  | ins C dx fs =>
    obtain ⟨d, z, ne, e, mA, ⟨od, es, ep, e2, c⟩, r⟩ := x
    exact ⟨ho _ d, z, ne, k _ _ (.inl rfl) e, mA, ⟨od, es, ep, k _ _ (.inr d) e2, c⟩, r⟩
  | own y => obtain ⟨ob, e⟩ := x; exact ⟨ob, k _ _ (.inl rfl) e⟩
  | xd fs => obtain ⟨mA, ⟨od, es, ep, e, c⟩, r⟩ := x; exact ⟨mA, ⟨od, es, ep, k _ _ (.inl rfl) e, c⟩, r⟩
  | rng lo hi => obtain ⟨t, u, v, e⟩ := x; exact ⟨t, u, v, k _ _ (.inl rfl) e⟩
  | frz ob u ih => obtain ⟨e, q⟩ := x; exact ⟨k _ _ (.inl rfl) e, ih q⟩
  | tbl ps =>
    have e : h.get? a = some { cls := .none, data := .fields ps } := x
    show h'.get? a = some { cls := .none, data := .fields ps }
    exact k a _ (.inl rfl) e
  | met f y =>
    have e : h.get? a = some (PySem.W.methodObj (.ref f) (.ref y)) := x
    show h'.get? a = some (PySem.W.methodObj (.ref f) (.ref y))
    exact k a _ (.inl rfl) e
  | ext φ => obtain ⟨p, ⟨o, e⟩, st⟩ := x; exact ⟨st _ _ p fun o q => k _ _ (.inl rfl) q, ⟨o, k _ _ (.inl rfl) e⟩, st⟩
theorem HOk.lt (x : HOk P w H h) (e : H a = some o) : a < h.objs.size := (x a o e).lt
theorem HOk.fresh (x : HOk P w H h) (e : h.objs.size ≤ a) : H a = none := by
  cases q : H a with
  | none => rfl
  | some u => exact absurd (Nat.lt_of_lt_of_le (x.lt q) e) (Nat.lt_irrefl _)
/-- every object of the heap is kept -/
theorem HOk.kept (x : HOk P w H h) (k : ∀ b u, h.get? b = some u → h'.get? b = some u) : HOk P w H h' := fun a o e =>
  (x a o e).stay (fun b u _ q => k b u q) (fun _ q => q) fun _ _ q => q
/-- a new object is laid and tracked -/
theorem HOk.laid (x : HOk P w H h) (k : ∀ b u, h.get? b = some u → h'.get? b = some u) (hp : h.objs.size ≤ a) (new : ObjOk P w (upd H a o) h' a o) : HOk P w (upd H a o) h' := fun b u e => by
  have hn := x.fresh hp
  by_cases hb : b = a
  · subst hb; rw [upd_same] at e; cases e; exact new
  · rw [upd_ne hb] at e
    exact (x b u e).stay (fun c v _ q => k c v q) (fun c q => by rw [upd_ne (ne_of_none q hn)]; exact q) fun c xs q => by rw [upd_ne (ne_of_none q hn)]; exact q
end

/-- what may be read as u: it is u, or a known u -/
def Rd (H : Hp) (a : Addr) (u : HO) : Prop := H a = some u ∨ ∃ o, H a = some (.frz o u)
theorem Rd.of {H : Hp} {a : Addr} {u : HO} (h : H a = some u) : Rd H a u := .inl h
theorem Rd.ok {P : Program} {w : World} {H : Hp} {h : Heap} {a : Addr} {u : HO} (r : Rd H a u) (x : HOk P w H h) : ObjOk P w H h a u := by
  rcases r with r | ⟨o, r⟩
  · exact x a u r
  · obtain ⟨_, q⟩ := x a _ r
    exact q
/-- what may be written -/
def Mut : Option HO → Prop
  | some (.lst _) => True
  | some (.dK _) => True
  | some (.dT _) => True
  | some (.set _ _) => True
  | some (.ins _ _ _) => True
  | some (.ext _) => True
  | _ => False
section
variable {P : Program} {w : World} {H : Hp} {h h' : Heap} {x e : Addr} {o' : HO}
/-- the object at e is changed: x itself, or the dict of the instance x -/
theorem HOk.write (ok : HOk P w H h) (mu : Mut (H x)) (he : e = x ∨ H e = some (.own x)) (k : ∀ b u, b ≠ e → h.get? b = some u → h'.get? b = some u) (heo : ∃ u, h'.get? e = some u)
    (new : ObjOk P w (upd H x o') h' x o') : HOk P w (upd H x o') h' := fun b u q => by
  have nown : ∀ c y, H c = some (.own y) → c ≠ x := fun c y r z => by subst z; rw [r] at mu; exact mu
  have ntup : ∀ c xs, H c = some (.tup xs) → c ≠ x := fun c xs r z => by subst z; rw [r] at mu; exact mu
  by_cases hb : b = x
  · subst hb; rw [upd_same] at q; cases q; exact new
  · rw [upd_ne hb] at q
    by_cases hbe : b = e
    · have q' : H b = some (.own x) := by
        rcases he with z | z
        · exact absurd (hbe.trans z) hb
        · rw [hbe]; exact z
      rw [q] at q'; cases q'
      obtain ⟨v, hv⟩ := heo
      exact ⟨v, by rw [hbe]; exact hv⟩
    · refine (ok b u q).stay (fun c v hc r => k c v ?_ r) (fun c r => by rw [upd_ne (nown c b r)]; exact r) fun c xs r => by rw [upd_ne (ntup c xs r)]; exact r
      rcases hc with rfl | hc
      · exact hbe
      · rintro rfl
        rcases he with z | z
        · exact nown c b hc z
        · rw [hc] at z; cases z; exact hb rfl
end

/-! ### kept unless tracked; of the frames at fs (the callers') the slots may change (an exception that passes writes there); of the records at ex (iterators) nothing is said -/
structure Un (fs ex : List Addr) (H H' : Hp) (h h' : Heap) : Prop where
  keep : ∀ b o, h.get? b = some o → H b = none → b ∉ fs → b ∉ ex → h'.get? b = some o
  slot : ∀ b o, h.get? b = some o → H b = none → b ∈ fs → b ∉ ex → ∃ sl, h'.get? b = some { o with slots := sl }
  free : ∀ b o, h.get? b = some o → H b = none → b ∉ ex → H' b = none
  there : ∀ b o, h.get? b = some o → b ∉ ex → ∃ o', h'.get? b = some o'
  tups : ∀ b xs, H b = some (.tup xs) → H' b = some (.tup xs)
  frzs : ∀ b o u, H b = some (.frz o u) → H' b = some (.frz o u)
  tbls : ∀ b ps, H b = some (.tbl ps) → ∃ more, H' b = some (.tbl (ps ++ more))
section
variable {fs fs' ex ex' : List Addr} {H H1 H2 : Hp} {h h1 h2 h' : Heap} {a x e : Addr} {o : HO}
theorem Un.any (u : Un fs ex H H1 h h1) {b : Addr} {ob : Obj} (q : h.get? b = some ob) (n : H b = none) (hx : b ∉ ex) : ∃ sl, h1.get? b = some { ob with slots := sl } := by
  by_cases hb : b ∈ fs
  · exact u.slot b ob q n hb hx
  · exact ⟨ob.slots, u.keep b ob q n hb hx⟩
theorem Un.trans (a : Un fs ex H H1 h h1) (b : Un fs ex H1 H2 h1 h2) : Un fs ex H H2 h h2 where
  keep := fun c ob q n hc hx => b.keep c ob (a.keep c ob q n hc hx) (a.free c ob q n hx) hc hx
  slot := fun c ob q n hc hx => by
    obtain ⟨sl, e1⟩ := a.slot c ob q n hc hx
    obtain ⟨sl', e2⟩ := b.slot c _ e1 (a.free c ob q n hx) hc hx
    exact ⟨sl', e2⟩
  free := fun c ob q n hx => by
    obtain ⟨o', e1⟩ := a.there c ob q hx
    exact b.free c o' e1 (a.free c ob q n hx) hx
  there := fun c ob q hx => by
    obtain ⟨o', e1⟩ := a.there c ob q hx
    exact b.there c o' e1 hx
  tups := fun c xs q => b.tups c xs (a.tups c xs q)
  frzs := fun c ob xs q => b.frzs c ob xs (a.frzs c ob xs q)
  tbls := fun c ps q => by
    obtain ⟨m1, e1⟩ := a.tbls c ps q
    obtain ⟨m2, e2⟩ := b.tbls c _ e1
    exact ⟨m1 ++ m2, by rw [e2, Array.append_assoc]⟩
theorem Un.kept (k : ∀ b u, h.get? b = some u → h'.get? b = some u) : Un fs ex H H h h' :=
  ⟨fun b ob q _ _ _ => k b ob q, fun b ob q _ _ _ => ⟨ob.slots, k b ob q⟩, fun _ _ _ n _ => n, fun b ob q _ => ⟨ob, k b ob q⟩, fun _ _ q => q, fun _ _ _ q => q, fun _ ps q => ⟨#[], by rw [q]; simp⟩⟩
theorem Un.refl : Un fs ex H H h h := Un.kept fun _ _ q => q
theorem Un.laid (k : ∀ b u, h.get? b = some u → h'.get? b = some u) (hp : h.objs.size ≤ a) (hn : H a = none) : Un fs ex H (upd H a o) h h' where
  keep := fun b u q _ _ _ => k b u q
  slot := fun b u q _ _ _ => ⟨u.slots, k b u q⟩
  free := fun b u q n _ => by rw [upd_ne (Nat.ne_of_lt (Nat.lt_of_lt_of_le (Heap.lt_size q) hp))]; exact n
  there := fun b u q _ => ⟨u, k b u q⟩
  tups := fun b xs q => by rw [upd_ne (ne_of_none q hn)]; exact q
  frzs := fun b u xs q => by rw [upd_ne (ne_of_none q hn)]; exact q
  tbls := fun b ps q => ⟨#[], by rw [upd_ne (ne_of_none q hn), q]; simp⟩
theorem Un.write (mu : Mut (H x)) (he : e = x ∨ H e = some (.own x)) (k : ∀ b u, b ≠ e → h.get? b = some u → h'.get? b = some u) (heo : ∃ u, h'.get? e = some u) : Un fs ex H (upd H x o) h h' := by
  have hx : ∀ b, H b = none → b ≠ x := fun b n z => by subst z; rw [n] at mu; exact mu
  have hb : ∀ b, H b = none → b ≠ e := fun b n z => by
    subst z
    rcases he with r | r
    · exact hx b n r
    · rw [n] at r; cases r
  have hm : ∀ b u, H b = some u → ¬ Mut (some u) → b ≠ x := fun b u q nm z => by subst z; rw [q] at mu; exact nm mu
  refine ⟨fun b u q n _ _ => k b u (hb b n) q, fun b u q n _ _ => ⟨u.slots, k b u (hb b n) q⟩, fun b u q n _ => by rw [upd_ne (hx b n)]; exact n, fun b u q _ => ?_,
    fun b xs q => by rw [upd_ne (hm b _ q fun z => z)]; exact q, fun b u xs q => by rw [upd_ne (hm b _ q fun z => z)]; exact q, fun b ps q => ⟨#[], by rw [upd_ne (hm b _ q fun z => z), q]; simp⟩⟩
  by_cases hbe : b = e
  · subst hbe; exact heo
  · exact ⟨u, k b u hbe q⟩
theorem Un.mono (u : Un fs ex H H1 h h1) (hs : ∀ b ∈ fs, b ∈ fs') (hx : ∀ b ∈ ex, b ∈ ex') : Un fs' ex' H H1 h h1 :=
  ⟨fun b ob q n hb he => u.keep b ob q n (fun z => hb (hs b z)) fun z => he (hx b z), fun _ _ q n _ he => u.any q n fun z => he (hx _ z), fun b ob q n he => u.free b ob q n fun z => he (hx b z), fun b ob q he => u.there b ob q fun z => he (hx b z), u.tups, u.frzs, u.tbls⟩
end

/-! ### the heap without what is tracked -/
def trk (h : Heap) (H : Hp) : List Addr := (List.range h.objs.size).filter fun a => (H a).isSome
def hidT (h : Heap) (H : Hp) : Heap := PySem.W.hideAll h (trk h H)
theorem hidT_size (h : Heap) (H : Hp) : (hidT h H).objs.size = h.objs.size := PySem.W.hideAll_size _ _
theorem hidT_get {h : Heap} {H : Hp} {b : Addr} {o : Obj} (e : h.get? b = some o) (n : H b = none) : (hidT h H).get? b = some o :=
  PySem.W.hideAll_get _ e fun hm => by
    have q : (H b).isSome = true := (List.mem_filter.mp hm).2
    rw [n] at q; simp at q
theorem of_hidT {h : Heap} {H : Hp} {b : Addr} {o : Obj} (e : (hidT h H).get? b = some o) : h.get? b = some o ∧ H b = none := by
  have e' : h.get? b = some o := PySem.W.of_hideAll (trk h H) e
  refine ⟨e', ?_⟩
  cases q : H b with
  | none => rfl
  | some x =>
    have hm : b ∈ trk h H := List.mem_filter.mpr ⟨List.mem_range.mpr (Heap.lt_size e'), by simp [q]⟩
    have z : (hidT h H).get? b = none := PySem.W.hideAll_none (trk h H) hm
    rw [z] at e; cases e

/-! ### OpenK's ledger, filled with every new object but one -/
def allNews (g h : Heap) (L : Addr) : List (Addr × Obj) := (List.range h.objs.size).filterMap fun a => if a = L ∨ (g.get? a).isSome = true then none else (h.get? a).map fun o => (a, o)
def rest (g h : Heap) (L d : Addr) : List (Addr × Obj) := (allNews g h L).filter fun p => decide (p.1 ≠ d)
end L2

namespace L2
open PySem PySem.Spec PyProof.Rows

/-- the module's facts, over the base: the heap at the law's entry without what is tracked there -/
structure Mod (K : PySem.W.Frag) (mg : Str → Option Value) (base : Heap) : Prop where
  kin : K.In base
  glob : base.Ns mainGlobals mg
  blt : ∃ mb, base.Ns builtinsNs mb ∧ ∀ x : Str, x ≠ "__name__" → mb x = bootBuiltins x
  nolimit : base.NoLimit

/-- the context: a def's body (or a comprehension's block) running. base: fixed through the whole law; s₀, H₀: the entry; outer: the frames whose slots others may change (a def's callers); stack: all frames that run;
   ex: iterators that were made ahead of the entry and are walked here (a comprehension's); fn: the names whose cells were made at the entry (a def: all; a comprehension's block: its own); calm: not within an except suite; pn: pins that every state bears; xe: what is wanted of an exception that leaves the code -/
structure Cx where
  prog : Program
  w : World
  K : PySem.W.Frag
  mg : Str → Option Value
  base : Heap
  A : Around
  N : List Str
  s₀ : Shared
  H₀ : Hp
  env : Env
  outer : List Env
  stack : List Env
  ex : List Addr
  fn : Str → Bool
  calm : Bool
  pn : List (Addr × Obj)
  xe : Value → Shared → Prop
/-- the callers' frames -/
def frs (l : List Env) : List Addr := l.filterMap (·.frame)
abbrev Cx.fs (X : Cx) : List Addr := frs X.outer

def Vis (sc : Scope) (x : Str) : Prop := sc.names.lookup x = some .local ∨ sc.names.lookup x = some .cell ∨ sc.names.lookup x = some .free
def Loc (sc : Scope) (x : Str) : Prop := sc.names.lookup x = some .local ∨ sc.names.lookup x = some .cell
def Look (env : Env) (h : Heap) (m : Str → Option Value) (x : Str) (u : Value) : Prop :=
  (env.kindOf x = some .local ∧ m x = some u) ∨ ((env.kindOf x = some .cell ∨ env.kindOf x = some .free) ∧ ∃ c, env.cells.lookup x = some c ∧ h.IsCell c (some u))

structure Cx.Ok (X : Cx) : Prop where
  mod : Mod X.K X.mg X.base
  kind : X.env.scope.kind = .function
  glob : X.env.globals = mainGlobals
  blt : X.env.builtins = builtinsNs
  above : X.s₀.heap.objs.size ≤ X.env.locals
  inj : ∀ x y c, X.env.cells.lookup x = some c → X.env.cells.lookup y = some c → x = y
  has : ∀ x, (X.env.kindOf x = some .cell ∨ X.env.kindOf x = some .free) → ∃ c, X.env.cells.lookup x = some c
  cab : ∀ x c, X.fn x = true → X.env.cells.lookup x = some c → X.s₀.heap.objs.size ≤ c
  hd : X.calm = true → X.A.handled = none
  frames : X.A.frames = some X.stack
  stk : X.stack = X.outer ∨ (X.stack = X.env :: X.outer ∧ X.env.frame = some X.env.locals)
  exf : ∀ b ∈ X.ex, b ≠ X.env.locals ∧ ∀ x c, X.env.cells.lookup x = some c → c ≠ b
  bs : ∀ b o, X.base.get? b = some o → X.s₀.heap.get? b = some o ∧ X.H₀ b = none
  bsz : X.base.objs.size ≤ X.s₀.heap.objs.size
  noex : ∀ b o, X.base.get? b = some o → b ∉ X.ex
  exfs : ∀ b ∈ X.ex, b ∉ X.fs
  funs : X.s₀.heap.FunFrames X.base X.outer
  frf : ∀ b ∈ X.fs, X.H₀ b = none

structure Inv (X : Cx) (pins : List (Addr × Obj)) (σ : List (Option V)) (H : Hp) (s : Shared) : Prop where
  ok : X.Ok
  os : s.os = X.s₀.os
  bare : AllBare s.gens
  base : Un X.fs X.ex X.H₀ H X.s₀.heap s.heap
  loc : ∃ m, s.heap.Ns X.env.locals m ∧ ∀ (i : Nat) (x : Str) (v : V), X.N[i]? = some x → σ[i]? = some (some v) → Vis X.env.scope x → ∃ u, RelV v u ∧ Look X.env s.heap m x u
  cell : ∀ x c, X.env.cells.lookup x = some c → ∃ v, s.heap.IsCell c v
  free : H X.env.locals = none
  freeC : ∀ x c, X.env.cells.lookup x = some c → H c = none
  pin : ∀ p ∈ X.pn ++ pins, s.heap.get? p.1 = some p.2 ∧ H p.1 = none ∧ p.1 ≠ X.env.locals ∧ p.1 ∉ X.fs ∧ ∀ v, p.2.data ≠ .cell v
  hok : HOk X.prog X.w H s.heap
  len : σ.length = X.N.length

section
variable {X : Cx} {pins : List (Addr × Obj)} {σ : List (Option V)} {H H' : Hp} {s : Shared} {h' : Heap}

theorem Cx.Ok.nofr (ok : X.Ok) {b : Addr} {o : Obj} (e : X.base.get? b = some o) : b ∉ X.fs := fun hb => by
  have := (ok.funs.mem hb).1
  rw [e] at this; cases this
theorem Inv.bs (I : Inv X pins σ H s) : ∀ b o, X.base.get? b = some o → s.heap.get? b = some o ∧ H b = none := fun b o e =>
  ⟨I.base.keep b o (I.ok.bs b o e).1 (I.ok.bs b o e).2 (I.ok.nofr e) (I.ok.noex b o e), I.base.free b o (I.ok.bs b o e).1 (I.ok.bs b o e).2 (I.ok.noex b o e)⟩
theorem Inv.bk (I : Inv X pins σ H s) : ∀ b o, X.base.get? b = some o → s.heap.get? b = some o := fun b o e => (I.bs b o e).1
theorem Inv.mod (I : Inv X pins σ H s) : Mod X.K X.mg X.base := I.ok.mod
theorem Inv.kIn (I : Inv X pins σ H s) : X.K.In s.heap := I.ok.mod.kin.keeps I.bk
theorem Inv.nolimit (I : Inv X pins σ H s) : s.heap.NoLimit := I.ok.mod.nolimit.keeps I.bk
/-- the frame over the base: for OpenK's rules (K.In X.base is I.mod.kin) -/
theorem Inv.fr (I : Inv X pins σ H s) : ∃ m, Fr X.base X.env.locals s.heap m :=
  let ⟨m, hn, _⟩ := I.loc
  ⟨m, hn, I.bk, Nat.le_trans I.ok.bsz I.ok.above⟩
theorem Inv.lt (I : Inv X pins σ H s) : X.env.locals < s.heap.objs.size := let ⟨_, hn, _⟩ := I.loc; hn.lt
theorem Inv.sz (I : Inv X pins σ H s) : X.s₀.heap.objs.size ≤ s.heap.objs.size := Nat.le_trans I.ok.above (Nat.le_of_lt I.lt)
theorem Inv.nofs (I : Inv X pins σ H s) {a : Addr} (h : s.heap.objs.size ≤ a) : a ∉ X.fs := fun hb => by
  obtain ⟨_, o, ho, _⟩ := I.ok.funs.mem hb
  exact absurd (Nat.lt_of_lt_of_le (Heap.lt_size ho) (Nat.le_trans I.sz h)) (Nat.lt_irrefl _)
theorem Inv.cne (I : Inv X pins σ H s) : ∀ x c, X.env.cells.lookup x = some c → c ≠ X.env.locals := fun x c e z => by
  obtain ⟨v, o, ho, hd⟩ := I.cell x c e
  obtain ⟨m, ⟨o', es, ep, ho', hd', _⟩, _⟩ := I.loc
  rw [z, ho'] at ho; cases ho; rw [hd'] at hd; cases hd
theorem Inv.funs (I : Inv X pins σ H s) : s.heap.FunFrames X.base X.outer := by
  have all : ∀ (l : List Env), (∀ b ∈ frs l, b ∈ X.fs) → X.s₀.heap.FunFrames X.base l → s.heap.FunFrames X.base l := by
    intro l
    induction l with
    | nil => intro _ _; trivial
    | cons env r ih =>
      intro hs hl
      obtain ⟨hk, ⟨L, o, hf, hn, ho, hd⟩, hr⟩ := hl
      have hL : L ∈ X.fs := hs L (by unfold frs; rw [List.filterMap_cons, hf]; exact List.mem_cons_self)
      obtain ⟨sl, e⟩ := I.base.slot L o ho (I.ok.frf L hL) hL fun z => I.ok.exfs L z hL
      exact ⟨hk, ⟨L, _, hf, hn, e, hd⟩, ih (fun b hb => hs b (by unfold frs; rw [List.filterMap_cons, hf]; exact List.mem_cons_of_mem _ hb)) hr⟩
  exact all X.outer (fun _ hb => hb) I.ok.funs

/-- the frames that run, for a call -/
theorem Inv.stack (I : Inv X pins σ H s) : s.heap.FunFrames X.base X.stack := by
  rcases I.ok.stk with e | ⟨e, hf⟩
  · rw [e]; exact I.funs
  · rw [e]
    obtain ⟨m, hn, _⟩ := I.loc
    refine .cons (by rw [I.ok.kind]; decide) hf hn ?_ I.funs
    exact Heap.get?_none_of_le (Nat.le_trans I.ok.bsz I.ok.above)
theorem Inv.stkSub (I : Inv X pins σ H s) : ∀ b ∈ frs X.stack, b ∈ X.env.locals :: X.fs := fun b hb => by
  rcases I.ok.stk with e | ⟨e, hf⟩
  · rw [e] at hb; exact List.mem_cons_of_mem _ hb
  · rw [e] at hb
    unfold frs at hb
    rw [List.filterMap_cons, hf] at hb
    exact hb
theorem Inv.stkFree (I : Inv X pins σ H s) : ∀ b ∈ frs X.stack, H b = none := fun b hb => by
  rcases List.mem_cons.mp (I.stkSub b hb) with e | hb
  · rw [e]; exact I.free
  · obtain ⟨_, o, ho, _⟩ := I.ok.funs.mem hb
    exact I.base.free b o ho (I.ok.frf b hb) fun z => I.ok.exfs b z hb

/-- THE STEP: the untracked objects but the frame and the records at ch are kept (the callers' frames up to slots), the frame's map is kept, the new abstract heap is held -/
theorem Inv.step {g' : Array GenState} {t' : Nat} {d' : Drawn} {ch : List Addr} (I : Inv X pins σ H s)
    (hch : ∀ b ∈ ch, (b ∈ X.ex ∨ X.s₀.heap.objs.size ≤ b) ∧ b ≠ X.env.locals ∧ (∀ x c, X.env.cells.lookup x = some c → c ≠ b) ∧ ∀ p ∈ X.pn ++ pins, p.1 ≠ b)
    (keep : ∀ b o, b ≠ X.env.locals → b ∉ X.fs → b ∉ ch → s.heap.get? b = some o → H b = none → h'.get? b = some o)
    (slot : ∀ b o, b ≠ X.env.locals → b ∈ X.fs → b ∉ ch → s.heap.get? b = some o → H b = none → ∃ sl, h'.get? b = some { o with slots := sl }) (free : ∀ b o, b ∉ ch → s.heap.get? b = some o → H b = none → H' b = none)
    (there : ∀ b o, b ∉ ch → s.heap.get? b = some o → ∃ o', h'.get? b = some o')
    (tups : ∀ b xs, H b = some (.tup xs) → H' b = some (.tup xs)) (frzs : ∀ b o u, H b = some (.frz o u) → H' b = some (.frz o u)) (tbls : ∀ b ps, H b = some (.tbl ps) → ∃ more, H' b = some (.tbl (ps ++ more)))
    (ns : ∀ m, s.heap.Ns X.env.locals m → h'.Ns X.env.locals m) (hok : HOk X.prog X.w H' h') (hg : AllBare g') :
    Inv X pins σ H' { s with heap := h', gens := g', drawn := d', toks := t' } := by
  have neL : ∀ b o, X.s₀.heap.get? b = some o → b ≠ X.env.locals := fun b o e => Nat.ne_of_lt (Nat.lt_of_lt_of_le (Heap.lt_size e) I.ok.above)
  have neC : ∀ b o, X.s₀.heap.get? b = some o → b ∉ X.ex → b ∉ ch := fun b o e hx hb => by
    rcases (hch b hb).1 with z | z
    · exact hx z
    · exact absurd (Nat.lt_of_lt_of_le (Heap.lt_size e) z) (Nat.lt_irrefl _)
  have cellK : ∀ x c, X.env.cells.lookup x = some c → ∀ v, s.heap.IsCell c v → h'.IsCell c v := fun x c e v ⟨o, ho, hd⟩ => by
    have nch : c ∉ ch := fun z => (hch c z).2.2.1 x c e rfl
    by_cases hc : c ∈ X.fs
    · obtain ⟨sl, q⟩ := slot c o (I.cne x c e) hc nch ho (I.freeC x c e)
      exact ⟨_, q, hd⟩
    · exact ⟨o, keep c o (I.cne x c e) hc nch ho (I.freeC x c e), hd⟩
  refine ⟨I.ok, I.os, hg, ⟨fun b o e n hb hx => ?_, fun b o e n hb hx => ?_, fun b o e n hx => ?_, fun b o e hx => ?_, fun b xs e => tups b xs (I.base.tups b xs e), fun b o xs e => frzs b o xs (I.base.frzs b o xs e), fun b ps e => ?_⟩, ?_, fun x c e => ?_, ?_, fun x c e => ?_, fun p hp => ?_, hok, I.len⟩
  · exact keep b o (neL b o e) hb (neC b o e hx) (I.base.keep b o e n hb hx) (I.base.free b o e n hx)
  · obtain ⟨sl, e1⟩ := I.base.slot b o e n hb hx
    obtain ⟨sl', e2⟩ := slot b _ (neL b o e) hb (neC b o e hx) e1 (I.base.free b o e n hx)
    exact ⟨sl', e2⟩
  · obtain ⟨o', e1⟩ := I.base.there b o e hx
    exact free b o' (neC b o e hx) e1 (I.base.free b o e n hx)
  · obtain ⟨o', e1⟩ := I.base.there b o e hx
    exact there b o' (neC b o e hx) e1
  · obtain ⟨m1, e1⟩ := I.base.tbls b ps e
    obtain ⟨m2, e2⟩ := tbls b _ e1
    exact ⟨m1 ++ m2, by rw [e2, Array.append_assoc]⟩
  · obtain ⟨m, hn, hl⟩ := I.loc
    refine ⟨m, ns m hn, fun i x v e1 e2 e3 => ?_⟩
    obtain ⟨u, r, l⟩ := hl i x v e1 e2 e3
    refine ⟨u, r, ?_⟩
    rcases l with l | ⟨k, c, e, z⟩
    · exact .inl l
    · exact .inr ⟨k, c, e, cellK x c e _ z⟩
  · obtain ⟨v, z⟩ := I.cell x c e
    exact ⟨v, cellK x c e v z⟩
  · obtain ⟨m, ⟨o, _, _, ho, _⟩, _⟩ := I.loc
    exact free _ o (fun z => (hch _ z).2.1 rfl) ho I.free
  · obtain ⟨v, o, ho, hd⟩ := I.cell x c e
    exact free c o (fun z => (hch c z).2.2.1 x c e rfl) ho (I.freeC x c e)
  · obtain ⟨e, n, ne, nf, d⟩ := I.pin p hp
    have nch : p.1 ∉ ch := fun z => (hch p.1 z).2.2.2 p hp rfl
    exact ⟨keep p.1 p.2 ne nf nch e n, free p.1 p.2 nch e n, ne, nf, d⟩
/-- .. where the frame's own object is kept too -/
theorem Inv.un {t' : Nat} (I : Inv X pins σ H s) (u : Un X.fs [] H H' s.heap h') (hok : HOk X.prog X.w H' h') : Inv X pins σ H' { s with heap := h', toks := t' } := by
  obtain ⟨m, ⟨o, es, ep, ho, r⟩, _⟩ := id I.loc
  obtain ⟨sl, hL⟩ := u.any ho I.free (by simp)
  exact I.step (g' := s.gens) (d' := s.drawn) (ch := []) (fun _ z => nomatch z) (fun b o _ hb _ e n => u.keep b o e n hb (by simp)) (fun b o _ hb _ e n => u.slot b o e n hb (by simp)) (fun b o _ e n => u.free b o e n (by simp)) (fun b o _ e => u.there b o e (by simp)) u.tups u.frzs u.tbls (fun m' hm => by
    obtain ⟨o', es', ep', ho', r'⟩ := hm
    rw [ho] at ho'; cases ho'
    exact ⟨_, es', ep', hL, r'⟩) hok I.bare
/-- behind a call (or a comprehension's block): the slots of this frame may have changed too, the records at ch may have turned -/
theorem Inv.call {g' : Array GenState} {t' : Nat} {d' : Drawn} {ch : List Addr} (I : Inv X pins σ H s) (u : Un (frs X.stack) ch H H' s.heap h') (hok : HOk X.prog X.w H' h') (hg : AllBare g')
    (hch : ∀ b ∈ ch, (b ∈ X.ex ∨ X.s₀.heap.objs.size ≤ b) ∧ b ≠ X.env.locals ∧ (∀ x c, X.env.cells.lookup x = some c → c ≠ b) ∧ ∀ p ∈ X.pn ++ pins, p.1 ≠ b) :
    Inv X pins σ H' { s with heap := h', gens := g', drawn := d', toks := t' } := by
  obtain ⟨m, ⟨o, es, ep, ho, r⟩, _⟩ := id I.loc
  obtain ⟨sl, hL⟩ := u.any ho I.free fun z => (hch _ z).2.1 rfl
  exact I.step (ch := ch) hch (fun b o hL hb hc e n => u.keep b o e n (fun z => (List.mem_cons.mp (I.stkSub b z)).elim hL hb) hc) (fun b o _ _ hc e n => u.any e n hc) (fun b o hc e n => u.free b o e n hc) (fun b o hc e => u.there b o e hc) u.tups u.frzs u.tbls (fun m' hm => by
    obtain ⟨o', es', ep', ho', r'⟩ := hm
    rw [ho] at ho'; cases ho'
    exact ⟨_, es', ep', hL, r'⟩) hok hg
/-- an untracked record of ours (an iterator) has turned -/
theorem Inv.turned {t' : Nat} {it : Addr} (I : Inv X pins σ H s) (k : ∀ b o, b ≠ it → s.heap.get? b = some o → h'.get? b = some o) (hn : H it = none) (hL : it ≠ X.env.locals)
    (h1 : it ∈ X.ex ∨ X.s₀.heap.objs.size ≤ it) (h2 : ∀ x c, X.env.cells.lookup x = some c → c ≠ it) (h3 : ∀ p ∈ X.pn ++ pins, p.1 ≠ it) : Inv X pins σ H { s with heap := h', toks := t' } := by
  have nit : ∀ b u, H b = some u → b ≠ it := fun b u e z => by rw [z, hn] at e; cases e
  refine I.step (g' := s.gens) (d' := s.drawn) (ch := [it]) (fun b hb => ?_) (fun b o _ _ hc e _ => k b o (fun z => hc (by simp [z])) e) (fun b o _ _ hc e _ => ⟨o.slots, k b o (fun z => hc (by simp [z])) e⟩) (fun _ _ _ _ n => n)
    (fun b o hc e => ⟨o, k b o (fun z => hc (by simp [z])) e⟩) (fun _ _ e => e) (fun _ _ _ e => e) (fun b ps e => ⟨#[], by rw [e]; simp⟩) (fun m hm => ?_) (fun b u e => ?_) I.bare
  · have e : b = it := by simpa using hb
    subst e
    exact ⟨h1, hL, h2, h3⟩
  · obtain ⟨o, es, ep, ho, r⟩ := hm
    exact ⟨o, es, ep, k _ o (Ne.symm hL) ho, r⟩
  · refine (I.hok b u e).stay (fun c v hc q => k c v ?_ q) (fun _ q => q) fun _ _ q => q
    rcases hc with z | z
    · rw [z]; exact nit b u e
    · exact nit c _ z
theorem Inv.tok (I : Inv X pins σ H s) (t : Nat) : Inv X pins σ H { s with toks := t } := I.un (h' := s.heap) (t' := t) Un.refl I.hok
/-- all objects kept -/
theorem Inv.kept {t' : Nat} (I : Inv X pins σ H s) (k : ∀ b u, s.heap.get? b = some u → h'.get? b = some u) : Inv X pins σ H { s with heap := h', toks := t' } := I.un (Un.kept k) (I.hok.kept k)
/-- a new object laid and tracked -/
theorem Inv.laid {a : Addr} {o : HO} {t' : Nat} (I : Inv X pins σ H s) (k : ∀ b u, s.heap.get? b = some u → h'.get? b = some u) (hp : s.heap.objs.size ≤ a) (new : ObjOk X.prog X.w (upd H a o) h' a o) :
    Inv X pins σ (upd H a o) { s with heap := h', toks := t' } := I.un (Un.laid k hp (I.hok.fresh hp)) (I.hok.laid k hp new)
/-- an object written -/
theorem Inv.write {x e : Addr} {o : HO} {t' : Nat} (I : Inv X pins σ H s) (mu : Mut (H x)) (he : e = x ∨ H e = some (.own x)) (k : ∀ b u, b ≠ e → s.heap.get? b = some u → h'.get? b = some u) (heo : ∃ u, h'.get? e = some u)
    (new : ObjOk X.prog X.w (upd H x o) h' x o) : Inv X pins σ (upd H x o) { s with heap := h', toks := t' } := I.un (Un.write mu he k heo) (I.hok.write mu he k heo new)
theorem Inv.pins_of {pins' : List (Addr × Obj)} (I : Inv X pins σ H s) (h : ∀ p ∈ pins', s.heap.get? p.1 = some p.2 ∧ H p.1 = none ∧ p.1 ≠ X.env.locals ∧ p.1 ∉ X.fs ∧ ∀ v, p.2.data ≠ .cell v) : Inv X pins' σ H s :=
  ⟨I.ok, I.os, I.bare, I.base, I.loc, I.cell, I.free, I.freeC, fun p hp => (List.mem_append.mp hp).elim (fun z => I.pin p (List.mem_append_left _ z)) (h p), I.hok, I.len⟩

theorem nodup_ix {N : List Str} (hN : N.Nodup) {i j : Nat} {x : Str} (a : N[i]? = some x) (b : N[j]? = some x) : i = j := by
  obtain ⟨h1, e1⟩ := List.getElem?_eq_some_iff.mp a
  obtain ⟨h2, e2⟩ := List.getElem?_eq_some_iff.mp b
  exact (List.getElem_inj hN).mp (e1.trans e2.symm)

/-- a name is stored; what changed -/
theorem store_ok2 {M : Model} {A : Around} {E : Value → Shared → Prop} {i : Nat} {x : Str} {v : V} {u : Value} {Q : Unit → Shared → Prop} (I : Inv X pins σ H s) (hN : X.N.Nodup) (hi : X.N[i]? = some x) (hx : Loc X.env.scope x) (r : RelV v u)
    (h : ∀ s', Inv X pins (σ.set i (some v)) H s' → (∃ a, Heap.SameBut a s.heap s'.heap ∧ (a = X.env.locals ∨ X.env.cells.lookup x = some a)) → Q () s') (hf : X.fn x = true ∨ X.env.scope.names.lookup x = some .local := by first | exact .inl rfl | exact .inr rfl | assumption) : wpAny M A (storeName X.env x u) Q E s := by
  obtain ⟨m, hn, hl⟩ := id I.loc
  have hcls : (X.env.scope.kind == .class || (X.env.scope.kind == .module && X.env.locals != X.env.globals)) = false := by rw [I.ok.kind]; rfl
  have hiσ : i < σ.length := by rw [I.len]; exact (List.getElem?_eq_some_iff.mp hi).1
  have cne := I.cne
  have tracked : ∀ {a : Addr} {h' : Heap}, (∃ o, s.heap.get? a = some o ∧ H a = none) → Heap.SameBut a s.heap h' → HOk X.prog X.w H h' := fun {a h'} ha hs b ob e => by
    obtain ⟨_, _, hfree⟩ := ha
    refine (I.hok b ob e).stay (fun c w' hc q => (hs.2 c ?_).trans q) (fun _ q => q) fun _ _ q => q
    rintro rfl
    rcases hc with rfl | hc
    · rw [hfree] at e; cases e
    · rw [hfree] at hc; cases hc
  rcases hx with hk | hk
  · refine wpAny_storeName_local hk hn (fun h' hn' hs => ?_) hcls
    obtain ⟨oL, _, _, hoL, _⟩ := id hn
    refine h _ ⟨I.ok, I.os, I.bare, ⟨fun b o e n hb hx => ?_, fun b o e n hb hx => ?_, I.base.free, fun b o e hx => ?_, I.base.tups, I.base.frzs, I.base.tbls⟩, ⟨_, hn', fun j y v' e1 e2 e3 => ?_⟩, fun y c e => ?_, I.free, I.freeC, fun p hp => ?_, tracked ⟨oL, hoL, I.free⟩ hs, by simpa using I.len⟩ ⟨_, hs, .inl rfl⟩
    · exact (hs.2 b (Nat.ne_of_lt (Nat.lt_of_lt_of_le (Heap.lt_size e) I.ok.above))).trans (I.base.keep b o e n hb hx)
    · obtain ⟨sl, e1⟩ := I.base.slot b o e n hb hx
      exact ⟨sl, (hs.2 b (Nat.ne_of_lt (Nat.lt_of_lt_of_le (Heap.lt_size e) I.ok.above))).trans e1⟩
    · obtain ⟨o', e1⟩ := I.base.there b o e hx
      exact ⟨o', (hs.2 b (Nat.ne_of_lt (Nat.lt_of_lt_of_le (Heap.lt_size e) I.ok.above))).trans e1⟩
    · by_cases hj : j = i
      · subst hj
        rw [hi] at e1; cases e1
        rw [List.getElem?_set_self hiσ] at e2
        cases e2
        exact ⟨u, r, .inl ⟨hk, by simp⟩⟩
      · rw [List.getElem?_set_ne (Ne.symm hj)] at e2
        obtain ⟨u', r', q⟩ := hl j y v' e1 e2 e3
        refine ⟨u', r', ?_⟩
        rcases q with ⟨k, e⟩ | ⟨k, c, e, z⟩
        · refine .inl ⟨k, ?_⟩
          have : y ≠ x := fun e => hj (nodup_ix hN e1 (e ▸ hi))
          simp [this, e]
        · exact .inr ⟨k, c, e, z.sameBut hs (cne y c e)⟩
    · obtain ⟨w', z⟩ := I.cell y c e
      exact ⟨w', z.sameBut hs (cne y c e)⟩
    · obtain ⟨e, n, ne, nf, d⟩ := I.pin p hp
      exact ⟨(hs.2 p.1 ne).trans e, n, ne, nf, d⟩
  · have hfn : X.fn x = true := by
      rcases hf with z | z
      · exact z
      · rw [z] at hk; cases hk
    obtain ⟨c, hc⟩ := I.ok.has x (.inl hk)
    obtain ⟨w', z⟩ := I.cell x c hc
    refine wpAny_storeName_cell I.ok.kind hk hc z (fun h' hc' hs => ?_)
    obtain ⟨oc, hoc, hocd⟩ := id z
    refine h { s with heap := h' } ⟨I.ok, I.os, I.bare, ⟨fun b o e n hb hx => ?_, fun b o e n hb hx => ?_, I.base.free, fun b o e hx => ?_, I.base.tups, I.base.frzs, I.base.tbls⟩, ⟨m, hn.sameBut hs (Ne.symm (cne x c hc)), fun j y v' e1 e2 e3 => ?_⟩, fun y c' e => ?_, I.free, I.freeC, fun p hp => ?_, tracked ⟨oc, hoc, I.freeC x c hc⟩ hs, by simpa using I.len⟩ ⟨c, hs, .inr hc⟩
    · exact (hs.2 b (Nat.ne_of_lt (Nat.lt_of_lt_of_le (Heap.lt_size e) (I.ok.cab x c hfn hc)))).trans (I.base.keep b o e n hb hx)
    · obtain ⟨sl, e1⟩ := I.base.slot b o e n hb hx
      exact ⟨sl, (hs.2 b (Nat.ne_of_lt (Nat.lt_of_lt_of_le (Heap.lt_size e) (I.ok.cab x c hfn hc)))).trans e1⟩
    · obtain ⟨o', e1⟩ := I.base.there b o e hx
      exact ⟨o', (hs.2 b (Nat.ne_of_lt (Nat.lt_of_lt_of_le (Heap.lt_size e) (I.ok.cab x c hfn hc)))).trans e1⟩
    · by_cases hj : j = i
      · subst hj
        rw [hi] at e1; cases e1
        rw [List.getElem?_set_self hiσ] at e2
        cases e2
        exact ⟨u, r, .inr ⟨.inl hk, c, hc, hc'⟩⟩
      · rw [List.getElem?_set_ne (Ne.symm hj)] at e2
        obtain ⟨u', r', q⟩ := hl j y v' e1 e2 e3
        refine ⟨u', r', ?_⟩
        rcases q with q | ⟨k, c', e, z'⟩
        · exact .inl q
        · refine .inr ⟨k, c', e, z'.sameBut hs ?_⟩
          rintro rfl
          exact hj (nodup_ix hN e1 (I.ok.inj _ _ _ e hc ▸ hi))
    · by_cases hcc : c' = c
      · subst hcc; exact ⟨_, hc'⟩
      · obtain ⟨w2, z2⟩ := I.cell y c' e
        exact ⟨w2, z2.sameBut hs hcc⟩
    · obtain ⟨e, n, ne, nf, d⟩ := I.pin p hp
      refine ⟨(hs.2 p.1 ?_).trans e, n, ne, nf, d⟩
      intro q
      rw [q, hoc] at e
      have q' : oc = p.2 := Option.some.inj e
      exact d w' (by rw [← q']; exact hocd)
theorem store_ok {M : Model} {A : Around} {E : Value → Shared → Prop} {i : Nat} {x : Str} {v : V} {u : Value} {Q : Unit → Shared → Prop} (I : Inv X pins σ H s) (hN : X.N.Nodup) (hi : X.N[i]? = some x) (hx : Loc X.env.scope x) (r : RelV v u)
    (h : ∀ s', Inv X pins (σ.set i (some v)) H s' → Q () s') (hf : X.fn x = true ∨ X.env.scope.names.lookup x = some .local := by first | exact .inl rfl | exact .inr rfl | assumption) : wpAny M A (storeName X.env x u) Q E s :=
  store_ok2 I hN hi hx r (fun s' I' _ => h s' I') hf
/-- behind a call or a block, the state as it is -/
theorem Inv.call' {s' : Shared} {ch : List Addr} (I : Inv X pins σ H s) (ho : s'.os = s.os) (u : Un (frs X.stack) ch H H' s.heap s'.heap) (hok : HOk X.prog X.w H' s'.heap) (hg : AllBare s'.gens)
    (hch : ∀ b ∈ ch, (b ∈ X.ex ∨ X.s₀.heap.objs.size ≤ b) ∧ b ≠ X.env.locals ∧ (∀ x c, X.env.cells.lookup x = some c → c ≠ b) ∧ ∀ p ∈ X.pn ++ pins, p.1 ≠ b) : Inv X pins σ H' s' := by
  obtain ⟨h', g', d', t', o'⟩ := s'
  have e : o' = s.os := ho
  subst e
  exact I.call (g' := g') (t' := t') (d' := d') u hok hg hch
end

/-! ### the judgements -/
/-- an exception: its class, its own dict's address (where it has one), the abstract heap behind it -/
abbrev XK := Value → Option Addr → Hp → Prop
abbrev St := List (Option V)
abbrev VK := V → Hp → Prop
/-- an expression's reading; a test's; an argument list's -/
abbrev TE := St → Hp → VK → Prop
abbrev TT := St → Hp → (Bool → Hp → Prop) → Prop
abbrev TA := St → Hp → (List V → Hp → Prop) → Prop
/-- what is wanted behind a statement -/
structure Ends where
  nx : St → Hp → Prop
  rt : VK
  bk : St → Hp → Prop := fun _ _ => False
  ct : St → Hp → Prop := fun _ _ => False
abbrev TS := Ends → St → Hp → Prop

def EP (X : Cx) (pins : List (Addr × Obj)) (σ : St) (Q : VK) (u : Value) (s' : Shared) : Prop := ∃ v H', Inv X pins σ H' s' ∧ RelV v u ∧ Q v H'
def TP (X : Cx) (pins : List (Addr × Obj)) (σ : St) (Q : Bool → Hp → Prop) (b : Bool) (s' : Shared) : Prop := ∃ H', Inv X pins σ H' s' ∧ Q b H'
def AP (X : Cx) (pins : List (Addr × Obj)) (σ : St) (Q : List V → Hp → Prop) (us : List Value) (s' : Shared) : Prop := ∃ vs H', Inv X pins σ H' s' ∧ Vals vs us ∧ Q vs H'
def SP (X : Cx) (pins : List (Addr × Obj)) (D : Ends) (f : Flow) (s' : Shared) : Prop :=
  match f with
  | .next => ∃ σ' H', Inv X pins σ' H' s' ∧ D.nx σ' H'
  | .brk => ∃ σ' H', Inv X pins σ' H' s' ∧ D.bk σ' H'
  | .cont => ∃ σ' H', Inv X pins σ' H' s' ∧ D.ct σ' H'
  | .ret u => ∃ v σ' H', Inv X pins σ' H' s' ∧ RelV v u ∧ D.rt v H'

def PE (X : Cx) (e : Expr) (t : TE) : Prop :=
  ∀ (pins : List (Addr × Obj)) (s : Shared) (σ : St) (H : Hp) (Q : VK), Inv X pins σ H s → t σ H Q → wpAny (model X.prog X.w) X.A (eval e X.env) (EP X pins σ Q) X.xe s
def PT (X : Cx) (e : Expr) (t : TT) : Prop :=
  ∀ (pins : List (Addr × Obj)) (s : Shared) (σ : St) (H : Hp) (Q : Bool → Hp → Prop), Inv X pins σ H s → t σ H Q → wpAny (model X.prog X.w) X.A (isTrue e X.env (eval e X.env)) (TP X pins σ Q) X.xe s
/-- a test whatever its 'whole' is (and, or) -/
def PW (X : Cx) (e : Expr) (t : TT) : Prop :=
  ∀ (whole : Sem Value) (pins : List (Addr × Obj)) (s : Shared) (σ : St) (H : Hp) (Q : Bool → Hp → Prop), Inv X pins σ H s → t σ H Q → wpAny (model X.prog X.w) X.A (isTrue e X.env whole) (TP X pins σ Q) X.xe s
theorem PW.pt {X : Cx} {e : Expr} {t : TT} (h : PW X e t) : PT X e t := h _
/-- an argument list (no star), from the left -/
def PA (X : Cx) (es : List Expr) (t : TA) : Prop :=
  ∀ (pos : Pos) (pins : List (Addr × Obj)) (s : Shared) (σ : St) (H : Hp) (Q : List V → Hp → Prop), Inv X pins σ H s → t σ H Q → wpAny (model X.prog X.w) X.A (spliced (backTo pos (starEach es X.env))) (AP X pins σ Q) X.xe s
def PS (X : Cx) (st : Stmt) (t : TS) : Prop :=
  ∀ (pins : List (Addr × Obj)) (s : Shared) (σ : St) (H : Hp) (D : Ends), Inv X pins σ H s → t D σ H → wpAny (model X.prog X.w) X.A (exec st X.env) (SP X pins D) X.xe s
def PSs (X : Cx) (st : List Stmt) (t : TS) : Prop :=
  ∀ (pins : List (Addr × Obj)) (s : Shared) (σ : St) (H : Hp) (D : Ends), Inv X pins σ H s → t D σ H → wpAny (model X.prog X.w) X.A (execs st X.env) (SP X pins D) X.xe s
/-- weaken the end -/
theorem thn {α : Type} {t : Sem α} {Q Q' : α → Shared → Prop} {M : Model} {A : Around} {E : Value → Shared → Prop} {s : Shared} (h : wpAny M A t Q E s) (hQ : ∀ a s, Q a s → Q' a s) : wpAny M A t Q' E s := wpAny_mono h hQ fun _ _ x => x
end L2

namespace L2
open PySem PySem.Spec PyProof.Rows
section
variable {X : Cx}

/-! ### names and constants -/
def tVar (i : Nat) : TE := fun σ H Q => ∃ v, σ[i]? = some (some v) ∧ Q v H
def tC (v : V) : TE := fun _ H Q => Q v H
theorem pe_var {i : Nat} {x : Str} {pos : Pos} (hN : X.N[i]? = some x) (hv : Vis X.env.scope x) (hd : (x == ("__debug__" : Str)) = false := by decide) (hcd : (x == ("__classdict__" : Str)) = false := by decide) : PE X (.Name x pos) (tVar i) := by
  intro pins s σ H Q I h
  obtain ⟨v, e, h⟩ := h
  obtain ⟨m, hn, hl⟩ := I.loc
  obtain ⟨u, r, l⟩ := hl i x v hN e hv
  have fin : EP X pins σ Q u s := ⟨v, H, I, r, h⟩
  rcases l with ⟨hk, hm⟩ | ⟨hk, c, hc, hcell⟩
  · exact wpAny_Name (wpAny_loadName_local I.ok.kind hk hn hm fin) hd
  · rcases hk with hk | hk
    · exact wpAny_Name (wpAny_loadName_cell I.ok.kind hk hc hcell fin) hd
    · exact wpAny_Name (wpAny_loadName_free I.ok.kind hk hc hcell fin hcd) hd
theorem pe_int {i j pos} : PE X (.Constant (.int i) j pos) (tC (.int i)) := fun _ _ _ H _ I h => wpAny_Constant_int ⟨.int i, H, I.tok _, ⟨_, rfl⟩, h⟩
theorem pe_bl {b j pos} : PE X (.Constant (.bool b) j pos) (tC (.bl b)) := fun _ _ _ H _ I h => Constant_bool ⟨.bl b, H, I, rfl, h⟩
theorem pe_non {j pos} : PE X (.Constant .none j pos) (tC .non) := fun _ _ _ H _ I h => Constant_none ⟨.non, H, I, rfl, h⟩
theorem pe_str {x j pos} : PE X (.Constant (.str x) j pos) (tC (.str x)) := fun _ _ _ H _ I h => Calls.Constant_str ⟨.str x, H, I.tok _, ⟨_, rfl⟩, h⟩

/-- a global name of the def -/
def Gl (X : Cx) (x : Str) : Prop := X.env.kindOf x = some .globalImplicit
theorem ld_glob {E : Value → Shared → Prop} {pins : List (Addr × Obj)} {s : Shared} {σ : St} {H : Hp} {x : Str} {u : Value} {pos : Pos} {Q : Value → Shared → Prop} (I : Inv X pins σ H s) (hg : Gl X x) (hm : X.mg x = some u) (h : Q u s)
    (hd : (x == ("__debug__" : Str)) = false := by decide) : wpAny (model X.prog X.w) X.A (eval (.Name x pos) X.env) Q E s :=
  Calls.Name_function_global I.ok.kind hg (Calls.loadGlobal_global (by rw [I.ok.glob]; exact I.mod.glob.keeps I.bk) hm h) hd
theorem ld_blt {E : Value → Shared → Prop} {pins : List (Addr × Obj)} {s : Shared} {σ : St} {H : Hp} {x : Str} {u : Value} {pos : Pos} {Q : Value → Shared → Prop} (I : Inv X pins σ H s) (hg : Gl X x) (hm : X.mg x = none) (hv : bootBuiltins x = some u) (h : Q u s)
    (hn : x ≠ "__name__" := by decide) (hd : (x == ("__debug__" : Str)) = false := by decide) : wpAny (model X.prog X.w) X.A (eval (.Name x pos) X.env) Q E s := by
  obtain ⟨mb, h1, h2⟩ := I.mod.blt
  exact Calls.Name_function_global I.ok.kind hg (Calls.loadGlobal_builtin (by rw [I.ok.glob]; exact I.mod.glob.keeps I.bk) hm (by rw [I.ok.blt]; exact h1.keeps I.bk) ((h2 x hn).trans hv) h) hd
/-- a module's constant, a class, a function, as a value -/
theorem pe_glob {x : Str} {v : V} {u : Value} {pos : Pos} (hg : Gl X x) (hm : X.mg x = some u) (r : RelV v u) (hd : (x == ("__debug__" : Str)) = false := by decide) : PE X (.Name x pos) (tC v) :=
  fun _ _ _ H _ I h => ld_glob I hg hm ⟨v, H, I, r, h⟩ hd
theorem pe_bltn {x : Str} {v : V} {u : Value} {pos : Pos} (hg : Gl X x) (hm : X.mg x = none) (hv : bootBuiltins x = some u) (r : RelV v u) (hn : x ≠ "__name__" := by decide) (hd : (x == ("__debug__" : Str)) = false := by decide) : PE X (.Name x pos) (tC v) :=
  fun _ _ _ H _ I h => ld_blt I hg hm hv ⟨v, H, I, r, h⟩ hn hd

/-! ### arithmetic -/
/-- two ints -/
def t2I (ta tb : TE) (k : Int → Int → Hp → Prop) : St → Hp → Prop := fun σ H => ta σ H fun x H1 => tb σ H1 fun y H2 => ∃ i j, x = .int i ∧ y = .int j ∧ k i j H2
variable {a b : Expr} {ta tb : TE} {pos : Pos}
/-! ### comparisons -/
def tCmp (p : Int → Int → Bool) (ta tb : TE) : TE := fun σ H Q => t2I ta tb (fun i j H2 => Q (.bl (p i j)) H2) σ H
abbrev tLt : TE → TE → TE := tCmp fun i j => decide (i < j)
abbrev tLe : TE → TE → TE := tCmp fun i j => decide (i ≤ j)
abbrev tGt : TE → TE → TE := tCmp fun i j => decide (j < i)
abbrev tGe : TE → TE → TE := tCmp fun i j => decide (j ≤ i)
abbrev tEqI : TE → TE → TE := tCmp fun i j => decide (i = j)
abbrev tNeI : TE → TE → TE := tCmp fun i j => !decide (i = j)
/-- a comparison as a value, as a test -/
def tB (t : TE) : TT := fun σ H Q => t σ H fun x H1 => ∃ c, x = .bl c ∧ Q c H1
/-- an expression whose value is a bool, as a test -/
theorem pt_val {e : Expr} {t : TE} (h : PE X e t) (he : ∀ whole, isTrue e X.env whole = (do let v ← whole; standAt e.pos; holding [v] (truthy v)) := by intro _; rfl) : PT X e (tB t) := by
  intro pins s σ H Q I hw
  refine isTrue_plain (thn (h pins s σ H _ I hw) fun v s1 ⟨x, H1, I1, r1, q1⟩ => ?_) (he _)
  obtain ⟨d, rfl, q⟩ := q1
  cases r1
  exact wpAny_truthy_bool ⟨H1, I1, q⟩

/-! ### and, or, not -/
variable {tA tB' : TT} {rest : List Expr}
def tAnd (t u : TT) : TT := fun σ H Q => t σ H fun c H1 => if c = true then u σ H1 Q else Q false H1
def tOr (t u : TT) : TT := fun σ H Q => t σ H fun c H1 => if c = true then Q true H1 else u σ H1 Q
def tNot (t : TT) : TT := fun σ H Q => t σ H fun c H1 => Q (!c) H1
theorem pw_and1 (ha : PT X a tA) : PW X (.BoolOp .And [a] pos) tA := by
  intro wh pins s σ H Q I h
  refine isTrue_and (thn (ha pins s σ H Q I h) fun c s1 e => ?_)
  cases c with
  | true => exact isTrue_and_nil e
  | false => exact e
theorem pw_or1 (ha : PT X a tA) : PW X (.BoolOp .Or [a] pos) tA := by
  intro wh pins s σ H Q I h
  refine isTrue_or (thn (ha pins s σ H Q I h) fun c s1 e => ?_)
  cases c with
  | false => exact isTrue_or_nil e
  | true => exact e
theorem pw_and (ha : PT X a tA) (hb : PW X (.BoolOp .And (b :: rest) pos) tB') : PW X (.BoolOp .And (a :: b :: rest) pos) (tAnd tA tB') := by
  intro wh pins s σ H Q I h
  refine isTrue_and (thn (ha pins s σ H _ I h) fun c s1 ⟨H1, I1, q1⟩ => ?_)
  cases c with
  | true => exact hb wh pins s1 σ H1 Q I1 q1
  | false => exact ⟨H1, I1, q1⟩
theorem pw_or (ha : PT X a tA) (hb : PW X (.BoolOp .Or (b :: rest) pos) tB') : PW X (.BoolOp .Or (a :: b :: rest) pos) (tOr tA tB') := by
  intro wh pins s σ H Q I h
  refine isTrue_or (thn (ha pins s σ H _ I h) fun c s1 ⟨H1, I1, q1⟩ => ?_)
  cases c with
  | true => exact ⟨H1, I1, q1⟩
  | false => exact hb wh pins s1 σ H1 Q I1 q1
theorem pt_not (ha : PT X a tA) : PT X (.UnaryOp .Not a pos) (tNot tA) := by
  intro pins s σ H Q I h
  exact isTrue_not (ha pins s σ H (fun c H1 => Q (!c) H1) I h)
/-- .. as values (bools) -/
def tAndV (ta tb : TE) : TE := fun σ H Q => ta σ H fun x H1 => ∃ c, x = .bl c ∧ if c = true then tb σ H1 Q else Q (.bl false) H1
def tOrV (ta tb : TE) : TE := fun σ H Q => ta σ H fun x H1 => ∃ c, x = .bl c ∧ if c = true then Q (.bl true) H1 else tb σ H1 Q
def tNotV (ta : TE) : TE := fun σ H Q => ta σ H fun x H1 => ∃ c, x = .bl c ∧ Q (.bl (!c)) H1
theorem pe_one {op} {t : TE} (h : PE X a t) : PE X (.BoolOp op [a] pos) t := fun pins s σ H Q I hw => BoolOp_one (h pins s σ H Q I hw)
theorem pe_and (ha : PE X a ta) (hb : PE X (.BoolOp .And (b :: rest) pos) tb) : PE X (.BoolOp .And (a :: b :: rest) pos) (tAndV ta tb) := by
  intro pins s σ H Q I h
  refine BoolOp_and (thn (ha pins s σ H _ I h) fun v s1 ⟨x, H1, I1, r1, q1⟩ => ?_)
  obtain ⟨c, rfl, q1⟩ := q1
  cases r1
  refine wpAny_truthy_bool ?_
  cases c with
  | true => exact hb pins s1 σ H1 Q I1 q1
  | false => exact ⟨.bl false, H1, I1, rfl, q1⟩
theorem pe_or (ha : PE X a ta) (hb : PE X (.BoolOp .Or (b :: rest) pos) tb) : PE X (.BoolOp .Or (a :: b :: rest) pos) (tOrV ta tb) := by
  intro pins s σ H Q I h
  refine BoolOp_or (thn (ha pins s σ H _ I h) fun v s1 ⟨x, H1, I1, r1, q1⟩ => ?_)
  obtain ⟨c, rfl, q1⟩ := q1
  cases r1
  refine wpAny_truthy_bool ?_
  cases c with
  | false => exact hb pins s1 σ H1 Q I1 q1
  | true => exact ⟨.bl true, H1, I1, rfl, q1⟩
theorem pe_not (ha : PE X a ta) : PE X (.UnaryOp .Not a pos) (tNotV ta) := by
  intro pins s σ H Q I h
  refine UnaryOp_ (thn (ha pins s σ H _ I h) fun v s1 ⟨x, H1, I1, r1, q1⟩ => ?_)
  obtain ⟨c, rfl, q1⟩ := q1
  cases r1
  exact not_of (wpAny_truthy_bool ⟨.bl (!c), H1, I1, rfl, q1⟩)
/-- a if t else b -/
def tIf (t : TT) (ta tb : TE) : TE := fun σ H Q => t σ H fun c H1 => if c = true then ta σ H1 Q else tb σ H1 Q
theorem pe_ifExp {c : Expr} (hc : PT X c tA) (ha : PE X a ta) (hb : PE X b tb) : PE X (.IfExp c a b pos) (tIf tA ta tb) := by
  intro pins s σ H Q I h
  refine wpAny_IfExp (thn (hc pins s σ H _ I h) fun d s1 ⟨H1, I1, q1⟩ => ?_)
  cases d with
  | true => exact ha pins s1 σ H1 Q I1 q1
  | false => exact hb pins s1 σ H1 Q I1 q1
end
end L2

namespace L2
open PySem PySem.Spec PyProof.Rows

/-! ### a list, a tuple that is read: tracked, frozen, or an object of the module -/
def SqL (K : PySem.W.Frag) (H : Hp) (a : Addr) (xs : List V) : Prop :=
  Rd H a (.lst xs) ∨
    ∃ (o : Obj) (its : Array Value) (n : Nat), K.lookup a = some o ∧ o.cls = .type "list" ∧ o.dict = none ∧ o.data = .seq its n ∧ its.size ≤ sizeLine ∧ Vals xs its.toList
def SqT (K : PySem.W.Frag) (H : Hp) (a : Addr) (xs : List V) : Prop :=
  Rd H a (.tup xs) ∨
    ∃ (o : Obj) (its : Array Value) (n : Nat), K.lookup a = some o ∧ o.cls = .type "tuple" ∧ o.data = .seq its n ∧ its.size ≤ sizeLine ∧ Vals xs its.toList
def absV : Value → Option V
  | .none => some .non
  | .bool b => some (.bl b)
  | .int i _ => some (.int i)
  | .str x _ => some (.str x)
  | .bytes b _ => some (.byt b)
  | .float b _ => some (.flt b)
  | .ref a => some (.ref a)
  | .type n => some (.ty n)
  | _ => none
theorem RelV.abs {x : V} {u : Value} (r : RelV x u) : absV u = some x := by
  cases x with
  | non => cases r; rfl
  | bl _ => cases r; rfl
  | int _ => obtain ⟨t, rfl⟩ := r; rfl
  | str _ => obtain ⟨t, rfl⟩ := r; rfl
  | byt _ => obtain ⟨t, rfl⟩ := r; rfl
  | flt _ => obtain ⟨t, rfl⟩ := r; rfl
  | ref _ => cases r; rfl
  | ty _ => cases r; rfl
theorem RelV.inj {x y : V} {u : Value} (r : RelV x u) (q : RelV y u) : x = y := Option.some.inj (r.abs.symm.trans q.abs)
theorem Vals.inj : ∀ {xs ys : List V} {us : List Value}, Vals xs us → Vals ys us → xs = ys
  | _, _, _, .nil, .nil => rfl
  | _, _, _, .cons r t, .cons r' t' => by rw [r.inj r', Vals.inj t t']
section
variable {X : Cx} {pins : List (Addr × Obj)} {σ : St} {H : Hp} {s : Shared} {a : Addr} {xs ys : List V}
theorem SqL.of {K : PySem.W.Frag} (h : H a = some (.lst xs)) : SqL K H a xs := .inl (.inl h)
theorem SqT.of {K : PySem.W.Frag} (h : H a = some (.tup xs)) : SqT K H a xs := .inl (.inl h)
theorem Inv.list (I : Inv X pins σ H s) (h : SqL X.K H a xs) : ∃ its : List Value, Vals xs its ∧ PlainL s.heap a its.toArray ∧ xs.length ≤ sizeLine := by
  rcases h with h | ⟨o, its, n, hk, hc, hd, hs, hz, r⟩
  · obtain ⟨z, its, n, r, e⟩ := h.ok I.hok
    exact ⟨its, r, ⟨_, n, e, rfl, rfl, rfl⟩, z⟩
  · refine ⟨its.toList, r, ⟨o, n, I.kIn a o hk, hc, hd, by simpa using hs⟩, ?_⟩
    have e := r.length
    simp only [Array.length_toList] at e
    omega
theorem Inv.tuple (I : Inv X pins σ H s) (h : SqT X.K H a xs) : ∃ its : List Value, Vals xs its ∧ IsTup s.heap a its.toArray ∧ xs.length ≤ sizeLine := by
  rcases h with h | ⟨o, its, n, hk, hc, hs, hz, r⟩
  · obtain ⟨z, its, r, p⟩ := h.ok I.hok
    exact ⟨its, r, p, z⟩
  · refine ⟨its.toList, r, ⟨o, I.kIn a o hk, hc, n, by simpa using hs⟩, ?_⟩
    have e := r.length
    simp only [Array.length_toList] at e
    omega
theorem Inv.list_inj (I : Inv X pins σ H s) (h : SqL X.K H a xs) (h' : SqL X.K H a ys) : xs = ys := by
  obtain ⟨its, r, ⟨o, n, e, _, _, d⟩, _⟩ := I.list h
  obtain ⟨its', r', ⟨o', n', e', _, _, d'⟩, _⟩ := I.list h'
  rw [e] at e'; cases e'
  rw [d] at d'
  injection d' with d1 _
  have : its = its' := by simpa using congrArg Array.toList d1
  subst this
  exact r.inj r'
end

/-! ### another wish about exceptions -/
abbrev Cx.wish (X : Cx) (E : Value → Shared → Prop) : Cx := { X with xe := E }
/-- no exception leaves -/
abbrev Cx.nox (X : Cx) : Cx := X.wish fun _ _ => False
theorem Cx.Ok.wish {X : Cx} (ok : X.Ok) (E : Value → Shared → Prop) : (X.wish E).Ok :=
  ⟨ok.mod, ok.kind, ok.glob, ok.blt, ok.above, ok.inj, ok.has, ok.cab, ok.hd, ok.frames, ok.stk, ok.exf, ok.bs, ok.bsz, ok.noex, ok.exfs, ok.funs, ok.frf⟩
theorem Cx.Ok.unwish {X : Cx} {E : Value → Shared → Prop} (ok : (X.wish E).Ok) : X.Ok :=
  ⟨ok.mod, ok.kind, ok.glob, ok.blt, ok.above, ok.inj, ok.has, ok.cab, ok.hd, ok.frames, ok.stk, ok.exf, ok.bs, ok.bsz, ok.noex, ok.exfs, ok.funs, ok.frf⟩
section
variable {X : Cx} {pins : List (Addr × Obj)} {σ : St} {H : Hp} {s : Shared} {E : Value → Shared → Prop}
theorem Inv.wish (I : Inv X pins σ H s) (E : Value → Shared → Prop) : Inv (X.wish E) pins σ H s := ⟨I.ok.wish E, I.os, I.bare, I.base, I.loc, I.cell, I.free, I.freeC, I.pin, I.hok, I.len⟩
theorem Inv.unwish (I : Inv (X.wish E) pins σ H s) : Inv X pins σ H s := ⟨I.ok.unwish, I.os, I.bare, I.base, I.loc, I.cell, I.free, I.freeC, I.pin, I.hok, I.len⟩
theorem SP.unwish {D : Ends} {f : Flow} {s' : Shared} (h : SP (X.wish E) pins D f s') : SP X pins D f s' := by
  cases f with
  | next => obtain ⟨σ', H', I, q⟩ := h; exact ⟨σ', H', I.unwish, q⟩
  | brk => obtain ⟨σ', H', I, q⟩ := h; exact ⟨σ', H', I.unwish, q⟩
  | cont => obtain ⟨σ', H', I, q⟩ := h; exact ⟨σ', H', I.unwish, q⟩
  | ret u => obtain ⟨v, σ', H', I, r, q⟩ := h; exact ⟨v, σ', H', I.unwish, r, q⟩
theorem PE.nox {e : Expr} {t : TE} (h : PE X.nox e t) : PE X e t := fun pins s σ H Q I hw =>
  wpAny_mono (h pins s σ H Q (I.wish _) hw) (fun _ _ ⟨v, H', I', r, q⟩ => ⟨v, H', I'.unwish, r, q⟩) fun _ _ z => False.elim z
theorem PT.nox {e : Expr} {t : TT} (h : PT X.nox e t) : PT X e t := fun pins s σ H Q I hw =>
  wpAny_mono (h pins s σ H Q (I.wish _) hw) (fun _ _ ⟨H', I', q⟩ => ⟨H', I'.unwish, q⟩) fun _ _ z => False.elim z
theorem PSs.nox {st : List Stmt} {t : TS} (h : PSs X.nox st t) : PSs X st t := fun pins s σ H D I hw =>
  wpAny_mono (h pins s σ H D (I.wish _) hw) (fun _ _ q => q.unwish) fun _ _ z => False.elim z
end

/-! ### blocks and small statements -/
section
variable {X : Cx} {st : Stmt} {rest : List Stmt} {t u : TS} {e : Expr} {te : TE} {pos : Pos}
def tNext : TS := fun D σ H => D.nx σ H
def tSeq (t u : TS) : TS := fun D σ H => t { D with nx := u D } σ H
theorem pss_nil : PSs X [] tNext := fun _ _ σ H _ I h => wpAny_execs_nil ⟨σ, H, I, h⟩
theorem pss_cons (h1 : PS X st t) (h2 : PSs X rest u) : PSs X (st :: rest) (tSeq t u) := by
  intro pins s σ H D I h
  refine wpAny_execs_cons (thn (h1 pins s σ H { D with nx := u D } I h) fun f s1 q => ?_)
  cases f with
  | next =>
    obtain ⟨σ', H', I', q⟩ := q
    exact h2 pins s1 σ' H' D I' q
  | ret v => exact q
  | brk => exact q
  | cont => exact q
theorem pss_one (h1 : PS X st t) : PSs X [st] t := by
  intro pins s σ H D I h
  refine wpAny_execs_cons (thn (h1 pins s σ H D I h) fun f s1 q => ?_)
  cases f with
  | next => exact wpAny_execs_nil q
  | ret v => exact q
  | brk => exact q
  | cont => exact q
/-- in a def's body nothing is shown -/
theorem Inv.quiet {pins : List (Addr × Obj)} {σ : St} {H : Hp} {s : Shared} (I : Inv X pins σ H s) : interactive X.env = false := by simp [interactive, I.ok.kind]
/-- an expression whose value is dropped -/
def tDrop (te : TE) : TS := fun D σ H => te σ H fun _ H1 => D.nx σ H1
theorem ps_expr (he : PE X e te) (hs : swapsWith e none pos.line X.env = pure false := by rfl) : PS X (.Expr e pos) (tDrop te) := by
  intro pins s σ H D I h
  exact wpAny_Expr_any (thn (he pins s σ H _ I h) fun v s1 ⟨x, H1, I1, r1, q1⟩ => ⟨σ, H1, I1, q1⟩) I.quiet hs
def tRet (te : TE) : TS := fun D σ H => te σ H D.rt
theorem ps_ret (he : PE X e te) : PS X (.Return (some e) pos) (tRet te) := by
  intro pins s σ H D I h
  exact wpAny_Return_some (thn (he pins s σ H _ I h) fun v s1 ⟨x, H1, I1, r1, q1⟩ => ⟨x, σ, H1, I1, r1, q1⟩)
def tIfS (c : TT) (t u : TS) : TS := fun D σ H => c σ H fun b H1 => if b = true then t D σ H1 else u D σ H1
theorem ps_if {c : Expr} {a b : List Stmt} {tc : TT} (hc : PT X c tc) (ha : PSs X a t) (hb : PSs X b u) : PS X (.If c a b pos) (tIfS tc t u) := by
  intro pins s σ H D I h
  refine wpAny_If (thn (hc pins s σ H _ I h) fun d s1 ⟨H1, I1, q1⟩ => ?_)
  cases d with
  | true => exact ha pins s1 σ H1 D I1 q1
  | false => exact hb pins s1 σ H1 D I1 q1
/-- code that the proof never comes to -/
def tNever : TS := fun _ _ _ => False
theorem ps_never : PS X st tNever := fun _ _ _ _ _ _ h => h.elim
end

/-! ### targets -/
abbrev TG := V → St → Hp → (St → Hp → Prop) → Prop
abbrev TGs := List V → St → Hp → (St → Hp → Prop) → Prop
def PG (X : Cx) (target : Expr) (t : TG) : Prop :=
  ∀ (pins : List (Addr × Obj)) (s : Shared) (σ : St) (H : Hp) (v : V) (u : Value) (Q : St → Hp → Prop), Inv X pins σ H s → RelV v u → t v σ H Q →
    wpAny (model X.prog X.w) X.A (assign target X.env u) (fun _ s' => ∃ σ' H', Inv X pins σ' H' s' ∧ Q σ' H') X.xe s
/-- o[i] = v, by values -/
abbrev TSet := V → V → V → Hp → (Hp → Prop) → Prop
def PSet (X : Cx) (t : TSet) : Prop :=
  ∀ (pins : List (Addr × Obj)) (s : Shared) (σ : St) (H : Hp) (o i v : V) (ov iv u : Value) (Q : Hp → Prop), Inv X pins σ H s → RelV o ov → RelV i iv → RelV v u → t o i v H Q →
    wpAny (model X.prog X.w) X.A (setItem ov iv u) (fun _ s' => ∃ H', Inv X pins σ H' s' ∧ Q H') X.xe s
/-- a op= b, by values -/
abbrev TIp := V → V → Hp → VK → Prop
section
variable {X : Cx} {pos : Pos}
def gName (i : Nat) : TG := fun v σ H Q => Q (σ.set i (some v)) H
theorem pg_name {i : Nat} {x : Str} (hN : X.N.Nodup) (hi : X.N[i]? = some x) (hx : Loc X.env.scope x) (hf : X.fn x = true ∨ X.env.scope.names.lookup x = some .local := by first | exact .inl rfl | exact .inr rfl | assumption) : PG X (.Name x pos) (gName i) := by
  intro pins s σ H v u Q I r h
  exact wpAny_assign_Name (store_ok I hN hi hx r (fun s' I' => ⟨_, H, I', h⟩) hf)
/-- o[i] = .. -/
def gSub (to ti : TE) (t : TSet) : TG := fun v σ H Q => to σ H fun o H1 => ti σ H1 fun i H2 => t o i v H2 fun H3 => Q σ H3
theorem pg_sub {o i : Expr} {to ti : TE} {t : TSet} (ho : PE X o to) (hi : PE X i ti) (hs : PSet X t)
    (ha : ∀ v, assign (.Subscript o i pos) X.env v = (do
      let ov ← holding [v] (eval o X.env)
      let iv ← holding [v, ov] (eval i X.env)
      standAt pos
      holding [v, ov, iv] (setItem ov iv v)
      release [v, ov, iv] []) := by intro _; rfl) : PG X (.Subscript o i pos) (gSub to ti t) := by
  intro pins s σ H v u Q I r h
  rw [ha]
  refine wpAny_bind (wpAny_holding (thn (ho pins s σ H _ I h) fun ov s1 ⟨x, H1, I1, r1, q1⟩ => ?_))
  refine wpAny_bind (wpAny_holding (thn (hi pins s1 σ H1 _ I1 q1) fun iv s2 ⟨y, H2, I2, r2, q2⟩ => ?_))
  refine wpAny_bind (wpAny_standAt (wpAny_bind (wpAny_holding (thn (hs pins s2 σ H2 x y v ov iv u _ I2 r1 r2 r q2) fun _ s3 ⟨H3, I3, q3⟩ => ?_))))
  exact wpAny_release ⟨σ, H3, I3, q3⟩
/-- target = value -/
def tAsg (te : TE) (g : TG) : TS := fun D σ H => te σ H fun x H1 => g x σ H1 D.nx
theorem ps_asg {tg e : Expr} {te : TE} {g : TG} (he : PE X e te) (hg : PG X tg g) (hs : swapsWithSole [tg] e pos.line X.env = pure false := by rfl) (hw : swappedStores [tg] e X.env = pure none := by rfl)
    (h1 : (assignEach [tg] X.env).map (·.2) = [assign tg X.env] := by rfl) : PS X (.Assign [tg] e pos) (tAsg te g) := by
  intro pins s σ H D I h
  refine wpAny_Assign_stores (thn (he pins s σ H _ I h) fun v s1 ⟨x, H1, I1, r1, q1⟩ => ?_) hs hw
  rw [h1]
  exact thn (hg pins s1 σ H1 x v _ I1 r1 q1) fun _ s2 q => q
/-- name = value -/
theorem ps_set {i : Nat} {x : Str} {e : Expr} {te : TE} {pos' : Pos} (hN : X.N.Nodup) (hi : X.N[i]? = some x) (hx : Loc X.env.scope x) (he : PE X e te) (hs : swapsWith e (some (.Name x pos')) pos.line X.env = pure false := by rfl) (hf : X.fn x = true ∨ X.env.scope.names.lookup x = some .local := by first | exact .inl rfl | exact .inr rfl | assumption) :
    PS X (.Assign [.Name x pos'] e pos) (tAsg te (gName i)) := by
  intro pins s σ H D I h
  refine wpAny_Assign_Name (thn (he pins s σ H _ I h) fun v s1 ⟨y, H1, I1, r1, q1⟩ => ?_) hs
  exact store_ok I1 hN hi hx r1 (fun s2 I2 => ⟨_, H1, I2, q1⟩) hf
end

/-! ### while -/
section
variable {X : Cx} {pos : Pos}
/-- the invariant W with its measure -/
def tWhile (c : TT) (tb : TS) : TS := fun D σ H => ∃ W : Nat → St → Hp → Prop, (∃ m, W m σ H) ∧ ∀ m σ H, W m σ H →
  c σ H fun b H1 => if b = true then ∃ N : St → Hp → Prop, (∀ σ' H', N σ' H' → ∃ m', m' < m ∧ W m' σ' H') ∧ tb { D with nx := N, ct := N, bk := D.nx } σ H1 else D.nx σ H1
theorem ps_while {c : Expr} {body : List Stmt} {tc : TT} {tb : TS} (hp : PassesOwn (model X.prog X.w) X.A X.env X.xe) (hc : PT X c tc) (hb : PSs X body tb) : PS X (.While c body [] pos) (tWhile tc tb) := by
  intro pins s σ H D I h
  obtain ⟨W, ⟨m0, w0⟩, turn⟩ := h
  refine wpAny_While (codeAny_whileLoop (fun n s' => ∃ σ' H', Inv X pins σ' H' s' ∧ W n σ' H') ?_ m0 ⟨σ, H, I, w0⟩)
  rintro n s1 ⟨σ1, H1, I1, w1⟩
  refine wpAny_passesOwn hp (thn (hc pins s1 σ1 H1 _ I1 (turn n σ1 H1 w1)) fun b s2 ⟨H2, I2, q2⟩ => ?_)
  cases b with
  | true =>
    obtain ⟨N, hN, q2⟩ := q2
    rw [if_pos rfl]
    refine wpAny_passesOwn hp (thn (hb pins s2 σ1 H2 _ I2 q2) fun f s3 q3 => ?_)
    cases f with
    | next =>
      obtain ⟨σ3, H3, I3, n3⟩ := q3
      obtain ⟨m', hm, w3⟩ := hN σ3 H3 n3
      exact ⟨m', hm, σ3, H3, I3, w3⟩
    | cont =>
      obtain ⟨σ3, H3, I3, n3⟩ := q3
      obtain ⟨m', hm, w3⟩ := hN σ3 H3 n3
      exact ⟨m', hm, σ3, H3, I3, w3⟩
    | brk => exact q3
    | ret v => exact q3
  | false =>
    rw [if_neg Bool.false_ne_true]
    exact wpAny_execs_nil ⟨σ1, H2, I2, q2⟩
end

/-! ### what a loop or a comprehension walks -/
/-- at turn i: it yields x (the heap may grow), or it stops -/
structure It where
  go : Nat → Hp → Prop
  yld : Nat → Hp → V → Hp → Prop
  stop : Nat → Hp → Prop
/-- the iterator's own objects may turn: they are not the frame's, not pinned, younger than the entry (or a comprehension's own) -/
def FpOk (X : Cx) (pins : List (Addr × Obj)) (H : Hp) (b : Addr) : Prop :=
  H b = none ∧ b ≠ X.env.locals ∧ b ∉ X.fs ∧ (b ∈ X.ex ∨ X.s₀.heap.objs.size ≤ b) ∧ (∀ x c, X.env.cells.lookup x = some c → c ≠ b) ∧ ∀ p ∈ X.pn ++ pins, p.1 ≠ b
theorem Inv.fpOk {X : Cx} {pins : List (Addr × Obj)} {σ : St} {H H' : Hp} {s : Shared} {b : Addr} (I : Inv X pins σ H s) (hb : s.heap.objs.size ≤ b) (hn : H' b = none) : FpOk X pins H' b := by
  refine ⟨hn, Nat.ne_of_gt (Nat.lt_of_lt_of_le I.lt hb), I.nofs hb, .inr (Nat.le_trans I.sz hb), fun x c e z => ?_, fun p hp z => ?_⟩
  · obtain ⟨v, q⟩ := I.cell x c e
    exact absurd (Nat.lt_of_lt_of_le q.lt (by rw [z]; exact hb)) (Nat.lt_irrefl _)
  · exact absurd (Nat.lt_of_lt_of_le (Heap.lt_size (I.pin p hp).1) (by rw [z]; exact hb)) (Nat.lt_irrefl _)
structure Turn (P : Program) (w : World) (K : PySem.W.Frag) (tg : Expr) (J : It) (fp : List Addr) (it : Addr) (tn : Nat → Heap → Prop) : Prop where
  mem : it ∈ fp
  obj : ∀ i h, tn i h → ∀ b ∈ fp, ∃ o, h.get? b = some o ∧ ∀ v, o.data ≠ .cell v
  keep : ∀ i h h', tn i h → (∀ b ∈ fp, ∀ o, h.get? b = some o → h'.get? b = some o) → tn i h'
  item : ∀ (X : Cx), X.prog = P → X.w = w → X.K = K → X.calm = true → ∀ (i : Nat) (pins : List (Addr × Obj)) (s : Shared) (σ : St) (H : Hp) (E : Value → Shared → Prop), Inv X pins σ H s → (∀ b ∈ fp, FpOk X pins H b) → tn i s.heap → J.go i H →
    wpAny (model P w) X.A (pyNext (.ref it)) (fun r s1 => ∃ u, r = some u ∧
      wpAny (model P w) X.A (letOwnedTupleGo tg (.ref it) u) (fun _ s2 => ∃ x H', Inv X pins σ H' s2 ∧ RelV x u ∧ J.yld i H x H' ∧ tn (i + 1) s2.heap ∧ ∀ b ∈ fp, H' b = none) E s1) E s
  done : ∀ (X : Cx), X.prog = P → X.w = w → X.K = K → X.calm = true → ∀ (i : Nat) (pins : List (Addr × Obj)) (s : Shared) (σ : St) (H : Hp) (E : Value → Shared → Prop), Inv X pins σ H s → (∀ b ∈ fp, FpOk X pins H b) → tn i s.heap → J.stop i H →
    wpAny (model P w) X.A (pyNext (.ref it)) (fun r s1 => r = none ∧ Inv X pins σ H s1) E s
  self : ∀ (A : Around) (i : Nat) (s : Shared) (Q : Value → Shared → Prop) (E : Value → Shared → Prop), tn i s.heap → Q (.ref it) s → wpAny (model P w) A (pyIter (.ref it)) Q E s
abbrev TI := St → Hp → (It → Hp → Prop) → Prop
/-- an iterator has come -/
def PIE (X : Cx) (pins : List (Addr × Obj)) (σ : St) (tg : Expr) (R : It → Hp → Prop) (itv : Value) (s2 : Shared) : Prop :=
  ∃ (it : Addr) (fp : List Addr) (tn : Nat → Heap → Prop) (J : It) (H' : Hp), itv = .ref it ∧ Inv X pins σ H' s2 ∧ Turn X.prog X.w X.K tg J fp it tn ∧ tn 0 s2.heap ∧ (∀ b ∈ fp, FpOk X pins H' b) ∧ R J H'
def PI (X : Cx) (tg iter : Expr) (wi : TI) : Prop :=
  ∀ (pins : List (Addr × Obj)) (s : Shared) (σ : St) (H : Hp) (R : It → Hp → Prop), Inv X pins σ H s → wi σ H R →
    wpAny (model X.prog X.w) X.A (eval iter X.env) (fun v s1 => wpAny (model X.prog X.w) X.A (pyIter v) (PIE X pins σ tg R) X.xe s1) X.xe s

/-- the step ahead of the store is nothing for an iterator that keeps no tuple -/
theorem go_of {M : Model} {A : Around} {E : Value → Shared → Prop} {s : Shared} {tg : Expr} {it : Addr} {u : Value} {o : Obj} {n : String} {vs : Array Value} {Q : Unit → Shared → Prop} (ho : s.heap.get? it = some o) (hc : o.cls = .type n) (hd : o.data = .fields vs)
    (hn : ["enumerate", "zip", "dict_itemiterator", "dict_reverseitemiterator", "odict_iterator", "itertools.zip_longest", "itertools.pairwise"].contains n = false) (hQ : Q () s) : wpAny M A (letOwnedTupleGo tg (.ref it) u) Q E s := by
  unfold letOwnedTupleGo
  cases tg <;> first
    | exact wpAny_pure hQ
    | (cases u <;> first
        | exact wpAny_pure hQ
        | (refine wpAny_bind (wpAny_load ho ?_)
           rw [hc, hd]
           show wpAny M A (if (["enumerate", "zip", "dict_itemiterator", "dict_reverseitemiterator", "odict_iterator", "itertools.zip_longest", "itertools.pairwise"].contains n && vs[0]? == some (rawInt _)) = true then _ else _) Q E s
           rw [if_neg (by intro h; rw [hn, Bool.false_and] at h; cases h)]
           exact wpAny_pure hQ))

/-- the list at a, as it stands at each turn (a loop may append to it) -/
def Itl (K : PySem.W.Frag) (a : Addr) : It :=
  ⟨fun i H => ∃ xs x, SqL K H a xs ∧ xs[i]? = some x, fun i H x H' => H' = H ∧ ∀ xs, SqL K H a xs → xs[i]? = some x, fun i H => ∃ xs, SqL K H a xs ∧ xs.length ≤ i⟩
/-- lo, lo + 1, .. (n of them) -/
def Itr (lo : Int) (n : Nat) : It := ⟨fun i _ => i < n, fun i H x H' => H' = H ∧ x = .int (lo + i), fun i _ => n ≤ i⟩
theorem turn_list {P : Program} {w : World} {K : PySem.W.Frag} {tg : Expr} (a it : Addr) : Turn P w K tg (Itl K a) [it] it (fun i h => h.IsListIter it a i) where
  mem := by simp
  obj := fun i h st b hb => by
    have e : b = it := by simpa using hb
    subst e
    obtain ⟨o, e, c, d⟩ := st
    exact ⟨o, e, fun v z => by rw [d] at z; cases z⟩
  keep := fun i h h' st k => st.at fun o e => k it (by simp) o e
  item := by
    intro X hP hw hK hc i pins s σ H E I hf st hg
    subst hP hw hK
    obtain ⟨xs, x, hq, hx⟩ := hg
    obtain ⟨its, rv, p, hz⟩ := I.list hq
    obtain ⟨u, hu, ru⟩ := rv.get hx
    obtain ⟨f0, f1, f2, f3, f4, f5⟩ := hf it (by simp)
    refine wpAny_pyNext_list_item st p.isList (x := u) (by simpa using hu) fun h' st' sb => ?_
    have I1 : Inv X pins σ H { s with heap := h' } := I.turned (t' := s.toks) (fun b o hb e => (sb.2 b hb).trans e) f0 f1 f3 f4 f5
    obtain ⟨o, e, c, d⟩ := id st'
    exact ⟨u, rfl, go_of (s := { s with heap := h' }) e c d (by decide) ⟨x, H, I1, ru, ⟨rfl, fun ys hy => by rw [I.list_inj hy hq]; exact hx⟩, st', fun b hb => (hf b hb).1⟩⟩
  done := by
    intro X hP hw hK hc i pins s σ H E I hf st hg
    subst hP hw hK
    obtain ⟨xs, hq, hx⟩ := hg
    obtain ⟨its, rv, p, hz⟩ := I.list hq
    obtain ⟨f0, f1, f2, f3, f4, f5⟩ := hf it (by simp)
    have hl := rv.length
    exact wpAny_pyNext_list_end (I.ok.hd hc) st p.isList (by simp; omega) fun h' eb => ⟨rfl, I.turned (t' := s.toks) (fun b o hb e => eb b o hb e) f0 f1 f3 f4 f5⟩
  self := fun _ _ _ _ _ st h => wpAny_pyIter_listiter st h
theorem turn_range {P : Program} {w : World} {K : PySem.W.Frag} {tg : Expr} (it : Addr) (lo : Int) (n : Nat) : Turn P w K tg (Itr lo n) [it] it (fun i h => IsRangeIter h it (lo + (i : Nat) * 1) ((n : Int) - (i : Nat)) 1) where
  mem := by simp
  obj := fun i h st b hb => by
    have e : b = it := by simpa using hb
    subst e
    exact ⟨_, st, fun v z => by
      have z' : Data.fields _ = Data.cell v := z
      cases z'⟩
  keep := fun i h h' st k => k it (by simp) _ st
  item := by
    intro X hP hw hK hc i pins s σ H E I hf st hg
    subst hP hw hK
    obtain ⟨f0, f1, f2, f3, f4, f5⟩ := hf it (by simp)
    have W := Walks.range (prog := X.prog) (w := X.w) (I.ok.hd hc) it lo 1 n
    refine W.item i s _ _ hg st fun v h' tk hv st' kk => ?_
    obtain ⟨t, rfl⟩ := hv
    have I1 : Inv X pins σ H { s with heap := h', toks := tk } := I.turned (fun b o hb e => kk b o (by simpa using hb) e) f0 f1 f3 f4 f5
    refine ⟨_, rfl, go_of (s := { s with heap := h', toks := tk }) (n := "range_iterator") st' rfl rfl (by decide) ⟨.int (lo + i), H, I1, ⟨t, ?_⟩, ⟨rfl, rfl⟩, st', fun b hb => (hf b hb).1⟩⟩
    rw [Int.mul_one]
  done := by
    intro X hP hw hK hc i pins s σ H E I hf st hg
    subst hP hw hK
    obtain ⟨f0, f1, f2, f3, f4, f5⟩ := hf it (by simp)
    exact wpAny_pyNext_range_end (I.ok.hd hc) st (by have : n ≤ i := hg; omega) fun h' eb => ⟨rfl, I.turned (t' := s.toks) (fun b o hb e => eb b o hb e) f0 f1 f3 f4 f5⟩
  self := fun _ _ _ _ _ st h => wpAny_pyIter_rangeiter st h
end L2

namespace L2
open PySem PySem.Spec PyProof.Rows
section
variable {X : Cx} {tg : Expr}
def iList (K : PySem.W.Frag) (tl : TE) : TI := fun σ H R => tl σ H fun x H1 => ∃ a, x = .ref a ∧ (∃ xs, SqL K H1 a xs) ∧ R (Itl K a) H1
theorem pi_list {l : Expr} {tl : TE} (hl : PE X l tl) : PI X tg l (iList X.K tl) := by
  intro pins s σ H R I h
  refine thn (hl pins s σ H _ I h) fun v s1 ⟨x, H1, I1, r1, q1⟩ => ?_
  obtain ⟨a, e, ⟨xs, hq⟩, q⟩ := q1
  subst e
  cases r1
  obtain ⟨its, rv, p, hz⟩ := I1.list hq
  refine wpAny_pyIter_list p.isList ?_
  refine ⟨s1.heap.objs.size, [s1.heap.objs.size], _, _, H1, rfl, I1.kept (t' := s1.toks) fun b o e => Heap.get?_push_of_some _ e, turn_list a _, ⟨_, Heap.get?_push_size _ rfl, rfl, rfl⟩, fun b hb => ?_, q⟩
  have e : b = s1.heap.objs.size := by simpa using hb
  subst e
  exact I1.fpOk (Nat.le_refl _) (I1.hok.fresh (Nat.le_refl _))
/-- a range object just made, walked -/
theorem range_it {pins : List (Addr × Obj)} {σ : St} {H : Hp} {s : Shared} {R : It → Hp → Prop} {E : Value → Shared → Prop} {lo hi : Int} {t u v : Tok} {tk : Nat} (I : Inv X pins σ H s) (h1 : -(2 ^ 62) ≤ lo) (h2 : lo < 2 ^ 62) (h3 : -(2 ^ 62) ≤ hi) (h4 : hi < 2 ^ 62)
    (q : R (Itr lo (hi - lo).toNat) H) : wpAny (model X.prog X.w) X.A (pyIter (.ref s.heap.objs.size)) (PIE X pins σ tg R) E { s with heap := s.heap.push { cls := .type "range", data := .fields #[.int lo t, .int hi u, .int 1 v] }, toks := tk } := by
  refine wpAny_pyIter_range (IsRange.new ..) (small_one h1 h2 h3 h4) ?_
  have I1 : Inv X pins σ H { s with heap := s.heap.push { cls := .type "range", data := .fields #[.int lo t, .int hi u, .int 1 v] }, toks := tk } := I.kept fun b o e => Heap.get?_push_of_some _ e
  refine ⟨(s.heap.push { cls := .type "range", data := .fields #[.int lo t, .int hi u, .int 1 v] }).objs.size, [(s.heap.push { cls := .type "range", data := .fields #[.int lo t, .int hi u, .int 1 v] }).objs.size], _, _, H, rfl,
    I1.kept (t' := tk) fun b o e => Heap.get?_push_of_some _ e, turn_range _ lo (hi - lo).toNat, ?_, fun b hb => ?_, q⟩
  · have e1 : lo + ((0 : Nat) : Int) * 1 = lo := by simp
    have e2 : (((hi - lo).toNat : Nat) : Int) - ((0 : Nat) : Int) = Builtin.Range.rangeSize lo hi 1 := by rw [rangeSize_one]; split <;> omega
    show IsRangeIter _ _ (lo + ((0 : Nat) : Int) * 1) ((((hi - lo).toNat : Nat) : Int) - ((0 : Nat) : Int)) 1
    rw [e1, e2]
    exact Heap.get?_push_size _ rfl
  · have e : b = (s.heap.push { cls := .type "range", data := .fields #[.int lo t, .int hi u, .int 1 v] }).objs.size := by simpa using hb
    subst e
    exact I1.fpOk (Nat.le_refl _) (I1.hok.fresh (Nat.le_refl _))
def iRng2 (ta : TA) : TI := fun σ H R => ta σ H fun vs H1 => ∃ i j : Int, vs = [.int i, .int j] ∧ (-(2 ^ 62) ≤ i ∧ i < 2 ^ 62 ∧ -(2 ^ 62) ≤ j ∧ j < 2 ^ 62) ∧ R (Itr i (j - i).toNat) H1
theorem pi_range2 {a b : Expr} {ta : TA} {p pos : Pos} (hg : Gl X "range") (hm : X.mg "range" = none) (ha : PA X [a, b] ta) (hs : starEach [a, b] X.env = [(false, eval a X.env), (false, eval b X.env)] := by rfl) (hs2 : starEach [b] X.env = [(false, eval b X.env)] := by rfl) :
    PI X tg (.Call (.Name "range" p) [a, b] [] pos) (iRng2 ta) := by
  intro pins s σ H R I h
  refine Call_ (ld_blt I hg hm boot_range (PyProof.Rows.callWith_type1 (thn (ha pos pins s σ H _ I h) fun us s1 ⟨vs, H1, I1, r1, q1⟩ => ?_) (by rw [hs, hs2]) (by rw [hs2]; rfl)))
  obtain ⟨i, j, e, ⟨q1, q2, q3, q4⟩, q⟩ := q1
  subst e
  cases r1 with
  | cons r rr =>
    cases rr with
    | cons r' rr =>
      cases rr
      obtain ⟨t, rfl⟩ := r
      obtain ⟨t', rfl⟩ := r'
      exact call_range_2 (range_it I1 q1 q2 q3 q4 q)

/-! ### for -/
/-- W: the invariant by the turn and a measure; N: what the body is to reach -/
def tFor (wi : TI) (g : TG) (tb : TS) : TS := fun D σ H => wi σ H fun J H1 => ∃ W : Nat → Nat → St → Hp → Prop, (∃ m, W 0 m σ H1) ∧ ∀ i m σ H, W i m σ H →
  (J.stop i H ∧ D.nx σ H) ∨ (J.go i H ∧ ∃ N : St → Hp → Prop, (∀ σ' H', N σ' H' → ∃ m', m' < m ∧ W (i + 1) m' σ' H') ∧ ∀ x H', J.yld i H x H' → g x σ H' fun σ2 H2 => tb { D with nx := N, ct := N, bk := D.nx } σ2 H2)
/-- the records at fp as they stand -/
def pinsAt (fp : List Addr) (h : Heap) : List (Addr × Obj) := fp.filterMap fun b => (h.get? b).map fun o => (b, o)
theorem mem_pinsAt {fp : List Addr} {h : Heap} {b : Addr} {o : Obj} (hb : b ∈ fp) (e : h.get? b = some o) : (b, o) ∈ pinsAt fp h := List.mem_filterMap.mpr ⟨b, hb, by rw [e]; rfl⟩
theorem of_pinsAt {fp : List Addr} {h : Heap} {p : Addr × Obj} (hp : p ∈ pinsAt fp h) : p.1 ∈ fp ∧ h.get? p.1 = some p.2 := by
  obtain ⟨b, hb, e⟩ := List.mem_filterMap.mp hp
  cases q : h.get? b with
  | none => rw [q] at e; cases e
  | some o =>
    rw [q] at e
    have e' : (b, o) = p := Option.some.inj e
    subst e'
    exact ⟨hb, q⟩
theorem Inv.pinned {pins : List (Addr × Obj)} {σ : St} {H : Hp} {s : Shared} {fp : List Addr} (I : Inv X pins σ H s) (hf : ∀ b ∈ fp, FpOk X pins H b) (ho : ∀ b ∈ fp, ∃ o, s.heap.get? b = some o ∧ ∀ v, o.data ≠ .cell v) : Inv X (pins ++ pinsAt fp s.heap) σ H s :=
  I.pins_of fun p hp => (List.mem_append.mp hp).elim (fun z => I.pin p (List.mem_append_right _ z)) fun z => by
    obtain ⟨hb, e⟩ := of_pinsAt z
    obtain ⟨f0, f1, f2, _⟩ := hf p.1 hb
    obtain ⟨o, e', d⟩ := ho p.1 hb
    rw [e] at e'; cases e'
    exact ⟨e, f0, f1, f2, d⟩
theorem Inv.unpinned {pins pl : List (Addr × Obj)} {σ : St} {H : Hp} {s : Shared} (I : Inv X (pins ++ pl) σ H s) : Inv X pins σ H s := I.pins_of fun p hp => I.pin p (List.mem_append_right _ (List.mem_append_left _ hp))
theorem ps_for {iter : Expr} {body : List Stmt} {wi : TI} {g : TG} {tb : TS} {pos : Pos} (hp : PassesOwn (model X.prog X.w) X.A X.env X.xe) (hc : X.calm = true) (hi : PI X tg iter wi) (hg : PG X tg g) (hb : PSs X body tb)
    (hs : ∀ x, foldedSetIterable iter X.env x = pure x := by intro _; rfl) : PS X (.For tg iter body [] pos) (tFor wi g tb) := by
  intro pins s σ H D I h
  refine wpAny_For (thn (hi pins s σ H _ I h) fun v s1 h1 => thn h1 fun itv s2 h2 => ?_) hs
  obtain ⟨it, fp, tn, J, H2, e, I2, T, st2, f2, W, ⟨m0, w0⟩, turn⟩ := h2
  subst e
  -- what stays true of the iterator's objects through the loop
  have stat : ∀ {H' : Hp}, (∀ b ∈ fp, H' b = none) → ∀ b ∈ fp, FpOk X pins H' b := fun hn b hb => ⟨hn b hb, (f2 b hb).2⟩
  refine codeAny_forLoop_any (fun n s' => ∃ i σ' H', Inv X pins σ' H' s' ∧ tn i s'.heap ∧ (∀ b ∈ fp, H' b = none) ∧ W i n σ' H') ?_ m0 ⟨0, σ, H2, I2, st2, fun b hb => (f2 b hb).1, w0⟩
  rintro n s3 ⟨i, σ3, H3, I3, st3, fr3, w3⟩
  rcases turn i n σ3 H3 w3 with ⟨stop, qn⟩ | ⟨go, N, hN, step⟩
  · refine wpAny_passesOwn hp (thn (T.done X rfl rfl rfl hc i pins s3 σ3 H3 X.xe I3 (stat fr3) st3 stop) fun r s4 ⟨hr, I4⟩ => ?_)
    subst hr
    exact wpAny_execs_nil ⟨σ3, H3, I4, qn⟩
  · refine wpAny_passesOwn hp (thn (T.item X rfl rfl rfl hc i pins s3 σ3 H3 X.xe I3 (stat fr3) st3 go) fun r s4 ⟨u, hr, h4⟩ => ?_)
    subst hr
    refine wpAny_passesOwn hp (thn h4 fun _ s5 ⟨x, H5, I5, r5, y5, st5, fr5⟩ => ?_)
    have I5' := I5.pinned (stat fr5) (T.obj _ _ st5)
    refine wpAny_passesOwn hp (thn (hg _ s5 σ3 H5 x u _ I5' r5 (step x H5 y5)) fun _ s6 ⟨σ6, H6, I6, q6⟩ => ?_)
    refine wpAny_passesOwn hp (thn (hb _ s6 σ6 H6 _ I6 q6) fun f s7 q7 => ?_)
    have again : ∀ {σ7 : St} {H7 : Hp}, Inv X (pins ++ pinsAt fp s5.heap) σ7 H7 s7 → N σ7 H7 → ∃ m, m < n ∧ ∃ i σ' H', Inv X pins σ' H' s7 ∧ tn i s7.heap ∧ (∀ b ∈ fp, H' b = none) ∧ W i m σ' H' := fun {σ7 H7} I7 n7 => by
      obtain ⟨m', hm, w7⟩ := hN σ7 H7 n7
      refine ⟨m', hm, i + 1, σ7, H7, I7.unpinned, T.keep _ _ _ st5 fun b hb o e => (I7.pin (b, o) (List.mem_append_right _ (List.mem_append_right _ (mem_pinsAt hb e)))).1, fun b hb => ?_, w7⟩
      obtain ⟨o, e, d⟩ := T.obj _ _ st5 b hb
      exact (I7.pin (b, o) (List.mem_append_right _ (List.mem_append_right _ (mem_pinsAt hb e)))).2.1
    cases f with
    | next => obtain ⟨σ7, H7, I7, n7⟩ := q7; exact again I7 n7
    | cont => obtain ⟨σ7, H7, I7, n7⟩ := q7; exact again I7 n7
    | brk => obtain ⟨σ7, H7, I7, q7⟩ := q7; exact ⟨σ7, H7, I7.unpinned, q7⟩
    | ret v => obtain ⟨x7, σ7, H7, I7, r7, q7⟩ := q7; exact ⟨x7, σ7, H7, I7.unpinned, r7, q7⟩
end

/-! ### the forms one uses -/
/-- over a list that the body leaves as it is -/
theorem for_list {K : PySem.W.Frag} {a : Addr} {xs : List V} {g : TG} {tb : TS} {D : Ends} {σ : St} {H : Hp} (Pv : Nat → St → Hp → Prop) (h0 : Pv 0 σ H) (hl : ∀ i σ H, i ≤ xs.length → Pv i σ H → SqL K H a xs)
    (hs : ∀ i x σ H, xs[i]? = some x → Pv i σ H → g x σ H fun σ2 H2 => tb { D with nx := Pv (i + 1), ct := Pv (i + 1), bk := D.nx } σ2 H2) (hd : ∀ σ H, Pv xs.length σ H → D.nx σ H) :
    ∃ W : Nat → Nat → St → Hp → Prop, (∃ m, W 0 m σ H) ∧ ∀ i m σ H, W i m σ H →
      ((Itl K a).stop i H ∧ D.nx σ H) ∨ ((Itl K a).go i H ∧ ∃ N : St → Hp → Prop, (∀ σ' H', N σ' H' → ∃ m', m' < m ∧ W (i + 1) m' σ' H') ∧ ∀ x H', (Itl K a).yld i H x H' → g x σ H' fun σ2 H2 => tb { D with nx := N, ct := N, bk := D.nx } σ2 H2) := by
  refine ⟨fun i m σ H => m = xs.length - i ∧ i ≤ xs.length ∧ Pv i σ H, ⟨xs.length, by simp, Nat.zero_le _, h0⟩, ?_⟩
  rintro i m σ H ⟨rfl, hi, p⟩
  have q := hl i σ H hi p
  by_cases hlt : i < xs.length
  · refine .inr ⟨⟨xs, xs[i], q, by simp [hlt]⟩, Pv (i + 1), fun σ' H' p' => ⟨xs.length - (i + 1), by omega, rfl, hlt, p'⟩, fun x H' y => ?_⟩
    obtain ⟨e, y⟩ := y
    subst e
    exact hs i x σ _ (y xs q) p
  · have e : i = xs.length := by omega
    subst e
    exact .inl ⟨⟨xs, q, Nat.le_refl _⟩, hd σ H p⟩
end L2

namespace L2
open PySem PySem.Spec PyProof.Rows

abbrev R2 := V → V → Hp → VK → Prop
/-- a two-place operation on values: f is binaryOp op, inplaceOp op or compareOp op -/
def OpR (X : Cx) (f : Value → Value → Sem Value) (r : R2) : Prop :=
  ∀ (pins : List (Addr × Obj)) (s : Shared) (σ : St) (H : Hp) (x y : V) (v u : Value) (Q : VK), Inv X pins σ H s → RelV x v → RelV y u → r x y H Q →
    wpAny (model X.prog X.w) X.A (f v u) (EP X pins σ Q) X.xe s
/-- a one-place operation -/
def UnR (X : Cx) (f : Value → Sem Value) (r : V → Hp → VK → Prop) : Prop :=
  ∀ (pins : List (Addr × Obj)) (s : Shared) (σ : St) (H : Hp) (x : V) (v : Value) (Q : VK), Inv X pins σ H s → RelV x v → r x H Q →
    wpAny (model X.prog X.w) X.A (f v) (EP X pins σ Q) X.xe s
/-- a call of a value that is known (a builtin, a type) with values -/
def CallR (X : Cx) (f : Value) (r : List V → Hp → VK → Prop) : Prop :=
  ∀ (pins : List (Addr × Obj)) (s : Shared) (σ : St) (H : Hp) (xs : List V) (us : List Value) (Q : VK), Inv X pins σ H s → Vals xs us → r xs H Q →
    wpAny (model X.prog X.w) X.A (call f us) (EP X pins σ Q) X.xe s
def tOp (r : R2) (ta tb : TE) : TE := fun σ H Q => ta σ H fun x H1 => tb σ H1 fun y H2 => r x y H2 Q
def tUn (r : V → Hp → VK → Prop) (ta : TE) : TE := fun σ H Q => ta σ H fun x H1 => r x H1 Q
/-- ints in, under C, and a value out -/
def rI (C : Int → Int → Prop) (g : Int → Int → V) : R2 := fun x y H Q => ∃ i j, x = .int i ∧ y = .int j ∧ C i j ∧ Q (g i j) H
def rI0 (g : Int → Int → V) : R2 := fun x y H Q => ∃ i j, x = .int i ∧ y = .int j ∧ Q (g i j) H
def rU (g : Int → V) : V → Hp → VK → Prop := fun x H Q => ∃ i, x = .int i ∧ Q (g i) H

section
variable {X : Cx} {a b c : Expr} {ta tb tc : TE} {pos : Pos}

theorem binT (ha : PE X a ta) (hb : PE X b tb) {pins : List (Addr × Obj)} {s : Shared} {σ : St} {H : Hp} {R : V → V → Hp → Prop} (I : Inv X pins σ H s)
    (h : ta σ H fun x H1 => tb σ H1 fun y H2 => R x y H2) {Q : Value → Shared → Prop} {f : Value → Value → Sem Value}
    (hf : ∀ v u s2 x y H2, Inv X pins σ H2 s2 → RelV x v → RelV y u → R x y H2 → wpAny (model X.prog X.w) X.A (f v u) Q X.xe s2) :
    wpAny (model X.prog X.w) X.A (eval a X.env) (fun v s₁ => wpAny (model X.prog X.w) X.A (eval b X.env) (fun u s₂ => wpAny (model X.prog X.w) X.A (f v u) Q X.xe s₂) X.xe s₁) X.xe s := by
  refine thn (ha pins s σ H _ I h) fun v s1 ⟨x, H1, I1, r1, q1⟩ => ?_
  refine thn (hb pins s1 σ H1 _ I1 q1) fun u s2 ⟨y, H2, I2, r2, q2⟩ => ?_
  exact hf v u s2 x y H2 I2 r1 r2 q2

theorem pe_op {op : Operator} {r : R2} (ho : OpR X (binaryOp op) r) (ha : PE X a ta) (hb : PE X b tb) : PE X (.BinOp a op b pos) (tOp r ta tb) := by
  intro pins s σ H Q I h
  exact wpAny_BinOp (binT ha hb I h fun v u s2 x y H2 I2 rx ry q => ho pins s2 σ H2 x y v u Q I2 rx ry q)
theorem pe_un {op : UnaryOp} {r : V → Hp → VK → Prop} (ho : UnR X (unaryOp op) r) (ha : PE X a ta) : PE X (.UnaryOp op a pos) (tUn r ta) := by
  intro pins s σ H Q I h
  exact UnaryOp_ (thn (ha pins s σ H _ I h) fun v s1 ⟨x, H1, I1, r1, q1⟩ => ho pins s1 σ H1 x v Q I1 r1 q1)
/-! ### ints -/
theorem opI {f : Value → Value → Sem Value} {C : Int → Int → Prop} {g : Int → Int → Int}
    (rule : ∀ (i j : Int) (t u : Tok) (s : Shared) (Q : Value → Shared → Prop) (E : Value → Shared → Prop), C i j → Q (.int (g i j) s.toks) { s with toks := s.toks + 1 } → wpAny (model X.prog X.w) X.A (f (.int i t) (.int j u)) Q E s) :
    OpR X f (rI C fun i j => .int (g i j)) := by
  intro pins s σ H x y v u Q I rx ry h
  obtain ⟨i, j, rfl, rfl, hc, q⟩ := h
  obtain ⟨t, rfl⟩ := rx
  obtain ⟨t', rfl⟩ := ry
  exact rule i j t t' s _ _ hc ⟨.int (g i j), H, I.tok _, ⟨_, rfl⟩, q⟩
theorem opI0 {f : Value → Value → Sem Value} {g : Int → Int → Int}
    (rule : ∀ (i j : Int) (t u : Tok) (s : Shared) (Q : Value → Shared → Prop) (E : Value → Shared → Prop), Q (.int (g i j) s.toks) { s with toks := s.toks + 1 } → wpAny (model X.prog X.w) X.A (f (.int i t) (.int j u)) Q E s) :
    OpR X f (rI0 fun i j => .int (g i j)) := by
  intro pins s σ H x y v u Q I rx ry h
  obtain ⟨i, j, rfl, rfl, q⟩ := h
  obtain ⟨t, rfl⟩ := rx
  obtain ⟨t', rfl⟩ := ry
  exact rule i j t t' s _ _ ⟨.int (g i j), H, I.tok _, ⟨_, rfl⟩, q⟩
theorem opB0 {f : Value → Value → Sem Value} {g : Int → Int → Bool}
    (rule : ∀ (i j : Int) (t u : Tok) (s : Shared) (Q : Value → Shared → Prop) (E : Value → Shared → Prop), Q (.bool (g i j)) s → wpAny (model X.prog X.w) X.A (f (.int i t) (.int j u)) Q E s) :
    OpR X f (rI0 fun i j => .bl (g i j)) := by
  intro pins s σ H x y v u Q I rx ry h
  obtain ⟨i, j, rfl, rfl, q⟩ := h
  obtain ⟨t, rfl⟩ := rx
  obtain ⟨t', rfl⟩ := ry
  exact rule i j t t' s _ _ ⟨.bl (g i j), H, I, rfl, q⟩

def CDiv (i j : Int) : Prop := 0 < j ∧ j < 1073741824
def CPow (i j : Int) : Prop := 0 ≤ j ∧ j ≤ 1000000 ∧ i.natAbs < 2 ^ 64
def CMul (i j : Int) : Prop := (-(2 ^ 64) < i ∧ i < 2 ^ 64) ∨ (-(2 ^ 64) < j ∧ j < 2 ^ 64)
theorem CMul.ok {i j : Int} (h : CMul i j) : IntMulOk i j := by
  rcases h with ⟨h1, h2⟩ | ⟨h1, h2⟩
  · exact .of_left (intBits_le_64 h1 h2)
  · exact .of_right (intBits_le_64 h1 h2)
theorem op_add : OpR X (binaryOp .Add) (rI0 fun i j => .int (i + j)) := opI0 fun _ _ _ _ _ _ _ q => add_int q
theorem op_sub : OpR X (binaryOp .Sub) (rI0 fun i j => .int (i - j)) := opI0 fun _ _ _ _ _ _ _ q => sub_int q
theorem op_mul : OpR X (binaryOp .Mult) (rI CMul fun i j => .int (i * j)) := opI fun _ _ _ _ _ _ _ hc q => mul_int q hc.ok
/-- // by a positive divisor -/
theorem op_fdiv : OpR X (binaryOp .FloorDiv) (rI CDiv fun i j => .int (i / j)) := opI fun i j _ _ _ _ _ hc q => by
  have h1 : (0 : Int) < j := hc.1
  have h2 : j < 1073741824 := hc.2
  exact floordiv_int (by omega) (by rw [Int.fdiv_eq_ediv_of_nonneg i (by omega)]; exact q) (.inl (PyProof.noPylong_small (by omega)))
/-- % by a positive divisor of any size -/
theorem op_mod : OpR X (binaryOp .Mod) (rI (fun _ j => 0 < j) fun i j => .int (i % j)) := opI fun i j _ _ _ _ _ hc q => by
  have h1 : (0 : Int) < j := hc
  exact mod_int' (by omega) (by rw [Int.fmod_eq_emod_of_nonneg i (by omega)]; exact q)
theorem op_pow : OpR X (binaryOp .Pow) (rI CPow fun i j => .int (i ^ j.toNat)) := opI fun _ _ _ _ _ _ _ hc q => pow_int_small hc.1 hc.2.1 hc.2.2 q
theorem unI {f : Value → Sem Value} {g : Int → Int}
    (rule : ∀ (i : Int) (t : Tok) (s : Shared) (Q : Value → Shared → Prop) (E : Value → Shared → Prop), Q (.int (g i) s.toks) { s with toks := s.toks + 1 } → wpAny (model X.prog X.w) X.A (f (.int i t)) Q E s) :
    UnR X f (rU fun i => .int (g i)) := by
  intro pins s σ H x v Q I rx h
  obtain ⟨i, rfl, q⟩ := h
  obtain ⟨t, rfl⟩ := rx
  exact rule i t s _ _ ⟨.int (g i), H, I.tok _, ⟨_, rfl⟩, q⟩
theorem un_neg : UnR X (unaryOp .USub) (rU fun i => .int (-i)) := unI fun _ _ _ _ _ q => neg_int q
/-! ### bools among ints: n += (a < b) -/
end

/-! ### comparisons -/
/-- the scalars that == tells apart as data does -/
def scal : V → V → Bool
  | .non, .non => true | .non, .int _ => true | .int _, .non => true | .non, .bl _ => true | .bl _, .non => true | .non, .str _ => true | .str _, .non => true
  | .int _, .int _ => true | .bl _, .bl _ => true | .str _, .str _ => true | .byt _, .byt _ => true
  | .int _, .str _ => true | .str _, .int _ => true | .bl _, .str _ => true | .str _, .bl _ => true
  | _, _ => false
def rEq : R2 := fun x y H Q => scal x y = true ∧ Q (.bl (decide (x = y))) H
def rNe : R2 := fun x y H Q => scal x y = true ∧ Q (.bl (!decide (x = y))) H

theorem dec_int {i j : Int} : decide (V.int i = V.int j) = (i == j) := by
  rw [Bool.eq_iff_iff]
  simp
theorem dec_bl {i j : Bool} : decide (V.bl i = V.bl j) = (i == j) := by
  rw [Bool.eq_iff_iff]
  simp
theorem dec_str {i j : Str} : decide (V.str i = V.str j) = (i == j) := by
  rw [Bool.eq_iff_iff]
  simp
theorem dec_byt {i j : Array UInt8} : decide (V.byt i = V.byt j) = (i.toList == j.toList) := by
  rw [Bool.eq_iff_iff]
  cases i
  cases j
  simp

section
variable {X : Cx} {a b c : Expr} {ta tb tc : TE} {pos : Pos}
theorem fin_bl {pins : List (Addr × Obj)} {σ : St} {H : Hp} {s : Shared} {Q : VK} {k k' : Bool} (I : Inv X pins σ H s) (q : Q (.bl k) H) (e : k = k') : EP X pins σ Q (.bool k') s := by
  subst e
  exact ⟨.bl k, H, I, rfl, q⟩
theorem op_eq : OpR X (compareOp .Eq) rEq := by
  intro pins s σ H x y v u Q I rx ry h
  obtain ⟨hs, q⟩ := h
  cases x with
  | non =>
    cases rx
    cases y with
    | non => cases ry; exact PySem.EqNone.eq_none_none (fin_bl I q (by simp))
    | bl j => cases ry; exact PySem.EqNone.eq_none_bool (fin_bl I q (by simp))
    | int j => obtain ⟨t', rfl⟩ := ry; exact PySem.EqNone.eq_none_int (fin_bl I q (by simp))
    | str j => obtain ⟨t', rfl⟩ := ry; exact PySem.EqNone.eq_none_str (fin_bl I q (by simp))
    | _ => exact absurd (show false = true from hs) Bool.false_ne_true
  | bl i =>
    cases rx
    cases y with
    | non => cases ry; exact PySem.EqNone.eq_bool_none (fin_bl I q (by simp))
    | bl j => cases ry; exact eq_bool (fin_bl I q dec_bl)
    | str j => obtain ⟨t', rfl⟩ := ry; exact PySem.EqMixed.eq_bool_str (fin_bl I q (by simp))
    | _ => exact absurd (show false = true from hs) Bool.false_ne_true
  | int i =>
    obtain ⟨t, rfl⟩ := rx
    cases y with
    | non => cases ry; exact PySem.EqNone.eq_int_none (fin_bl I q (by simp))
    | int j => obtain ⟨t', rfl⟩ := ry; exact eq_int (fin_bl I q dec_int)
    | str j => obtain ⟨t', rfl⟩ := ry; exact PySem.EqMixed.eq_int_str (fin_bl I q (by simp))
    | _ => exact absurd (show false = true from hs) Bool.false_ne_true
  | str i =>
    obtain ⟨t, rfl⟩ := rx
    cases y with
    | non => cases ry; exact PySem.EqNone.eq_str_none (fin_bl I q (by simp))
    | bl j => cases ry; exact PySem.EqMixed.eq_str_bool (fin_bl I q (by simp))
    | int j => obtain ⟨t', rfl⟩ := ry; exact PySem.EqMixed.eq_str_int (fin_bl I q (by simp))
    | str j => obtain ⟨t', rfl⟩ := ry; exact eq_str (fin_bl I q dec_str)
    | _ => exact absurd (show false = true from hs) Bool.false_ne_true
  | byt i =>
    obtain ⟨t, rfl⟩ := rx
    cases y with
    | byt j => obtain ⟨t', rfl⟩ := ry; exact PySem.W.eq_bytes (fin_bl I q dec_byt)
    | _ => exact absurd (show false = true from hs) Bool.false_ne_true
  | _ => cases y <;> exact absurd (show false = true from hs) Bool.false_ne_true
theorem op_ne : OpR X (compareOp .NotEq) rNe := by
  intro pins s σ H x y v u Q I rx ry h
  obtain ⟨hs, q⟩ := h
  cases x with
  | non =>
    cases rx
    cases y with
    | non => cases ry; exact PySem.EqNone.ne_none_none (fin_bl I q (by simp))
    | bl j => cases ry; exact PySem.EqNone.ne_none_bool (fin_bl I q (by simp))
    | int j => obtain ⟨t', rfl⟩ := ry; exact PySem.EqNone.ne_none_int (fin_bl I q (by simp))
    | str j => obtain ⟨t', rfl⟩ := ry; exact PySem.EqNone.ne_none_str (fin_bl I q (by simp))
    | _ => exact absurd (show false = true from hs) Bool.false_ne_true
  | bl i =>
    cases rx
    cases y with
    | non => cases ry; exact PySem.EqNone.ne_bool_none (fin_bl I q (by simp))
    | bl j => cases ry; exact ne_bool (fin_bl I q (congrArg not dec_bl))
    | str j => obtain ⟨t', rfl⟩ := ry; exact PySem.EqMixed.ne_bool_str (fin_bl I q (by simp))
    | _ => exact absurd (show false = true from hs) Bool.false_ne_true
  | int i =>
    obtain ⟨t, rfl⟩ := rx
    cases y with
    | non => cases ry; exact PySem.EqNone.ne_int_none (fin_bl I q (by simp))
    | int j => obtain ⟨t', rfl⟩ := ry; exact ne_int (fin_bl I q (congrArg not dec_int))
    | str j => obtain ⟨t', rfl⟩ := ry; exact PySem.EqMixed.ne_int_str (fin_bl I q (by simp))
    | _ => exact absurd (show false = true from hs) Bool.false_ne_true
  | str i =>
    obtain ⟨t, rfl⟩ := rx
    cases y with
    | non => cases ry; exact PySem.EqNone.ne_str_none (fin_bl I q (by simp))
    | bl j => cases ry; exact PySem.EqMixed.ne_str_bool (fin_bl I q (by simp))
    | int j => obtain ⟨t', rfl⟩ := ry; exact PySem.EqMixed.ne_str_int (fin_bl I q (by simp))
    | str j => obtain ⟨t', rfl⟩ := ry; exact ne_str (fin_bl I q (congrArg not dec_str))
    | _ => exact absurd (show false = true from hs) Bool.false_ne_true
  | byt i =>
    obtain ⟨t, rfl⟩ := rx
    cases y with
    | byt j => obtain ⟨t', rfl⟩ := ry; exact PySem.W.ne_bytes (fin_bl I q (congrArg not dec_byt))
    | _ => exact absurd (show false = true from hs) Bool.false_ne_true
  | _ => cases y <;> exact absurd (show false = true from hs) Bool.false_ne_true

theorem op_lt : OpR X (compareOp .Lt) (rI0 fun i j => .bl (decide (i < j))) := opB0 fun _ _ _ _ _ _ _ q => lt_int q
theorem op_le : OpR X (compareOp .LtE) (rI0 fun i j => .bl (decide (i ≤ j))) := opB0 fun _ _ _ _ _ _ _ q => le_int q
theorem op_ge : OpR X (compareOp .GtE) (rI0 fun i j => .bl (decide (j ≤ i))) := opB0 fun _ _ _ _ _ _ _ q => ge_int q
/-- the one string within the other -/
theorem op_in_str : OpR X (compareOp .In) (fun x y H Q => ∃ i j, x = .str i ∧ y = .str j ∧ Q (.bl (!(Builtin.Str.occurrences j i 0 j.length 1).isEmpty)) H) := by
  intro pins s σ H x y v u Q I rx ry h
  obtain ⟨i, j, rfl, rfl, q⟩ := h
  obtain ⟨t, rfl⟩ := rx
  obtain ⟨t', rfl⟩ := ry
  exact in_str (fin_bl I q rfl)

/-- two rules for one operation: by cases -/
theorem OpR.or {f : Value → Value → Sem Value} {r r' : R2} (h : OpR X f r) (h' : OpR X f r') : OpR X f (fun x y H Q => r x y H Q ∨ r' x y H Q) := by
  intro pins s σ H x y v u Q I rx ry q
  rcases q with q | q
  · exact h pins s σ H x y v u Q I rx ry q
  · exact h' pins s σ H x y v u Q I rx ry q

theorem nomark (b : Expr) {op : CmpOp} (h : op ≠ .In := by decide) (h2 : op ≠ .NotIn := by decide) : behindInMarks op b = false := by
  have e1 : (op == CmpOp.In) = false := by cases op <;> first | rfl | exact absurd rfl h
  have e2 : (op == CmpOp.NotIn) = false := by cases op <;> first | rfl | exact absurd rfl h2
  cases b <;> simp [behindInMarks, e1, e2]
/-- a comparison as a value; hm: nomark b, or (for in, not in) by with_unfolding_all rfl -/
theorem pe_cmpR {op : CmpOp} {r : R2} (ho : OpR X (compareOp op) r) (ha : PE X a ta) (hb : PE X b tb) (hm : behindInMarks op b = false) : PE X (.Compare a [op] [b] pos) (tOp r ta tb) := by
  intro pins s σ H Q I h
  exact wpAny_Compare1 (binT ha hb I h fun v u s2 x y H2 I2 rx ry q => ho pins s2 σ H2 x y v u Q I2 rx ry q) hm
/-- a reading of a value as a test -/
def tTest (t : TE) : TT := fun σ H Q => t σ H fun x H' => ∃ k, x = .bl k ∧ Q k H'
theorem pt_cmpR {op : CmpOp} {r : R2} (ho : OpR X (compareOp op) r) (ha : PE X a ta) (hb : PE X b tb) (hm : behindInMarks op b = false) : PT X (.Compare a [op] [b] pos) (tTest (tOp r ta tb)) := by
  intro pins s σ H Q I h
  refine wpAny_isTrue_Compare1 (thn (ha pins s σ H _ I h) fun v s1 ⟨x, H1, I1, r1, q1⟩ => thn (hb pins s1 σ H1 _ I1 q1) fun u s2 ⟨y, H2, I2, r2, q2⟩ =>
    thn (ho pins s2 σ H2 x y v u _ I2 r1 r2 q2) fun c s3 ⟨z, H3, I3, r3, k, e, q3⟩ => ?_) hm
  subst e
  cases r3
  exact wpAny_truthy_bool ⟨H3, I3, q3⟩
/-- a op1 b op2 c -/
def tChain (r r' : R2) (ta tb tc : TE) : TE := fun σ H Q => ta σ H fun x H1 => tb σ H1 fun y H2 => r x y H2 fun z H3 => ∃ k, z = .bl k ∧
  (if k = true then tc σ H3 fun w' H4 => r' y w' H4 Q else Q (.bl false) H3)
theorem pt_chain {op op' : CmpOp} {r r' : R2} (ho : OpR X (compareOp op) r) (ho' : OpR X (compareOp op') r') (ha : PE X a ta) (hb : PE X b tb) (hc : PE X c tc)
    (hm : lastMarks [op, op'] [b, c] = false := by with_unfolding_all rfl) : PT X (.Compare a [op, op'] [b, c] pos) (tTest (tChain r r' ta tb tc)) := by
  intro pins s σ H Q I h
  refine isTrue_chain (thn (ha pins s σ H _ I h) fun v s1 ⟨x, H1, I1, r1, q1⟩ => test_link (thn (hb pins s1 σ H1 _ I1 q1) fun u s2 ⟨y, H2, I2, r2, q2⟩ =>
    thn (ho pins s2 σ H2 x y v u _ I2 r1 r2 q2) fun d s3 ⟨z, H3, I3, r3, k, e, q3⟩ => ?_)) hm
  subst e
  cases r3
  refine wpAny_truthy_bool ?_
  cases k with
  | false =>
    obtain ⟨k', e', q'⟩ := q3
    cases e'
    exact ite_ff ⟨H3, I3, q'⟩
  | true =>
    refine ite_tt (test_last (thn (hc pins s3 σ H3 _ I3 q3) fun w' s4 ⟨z', H4, I4, r4, q4⟩ => thn (ho' pins s4 σ H4 y z' u w' _ I4 r2 r4 q4) fun d' s5 ⟨z2, H5, I5, r5, k2, e2, q5⟩ => ?_))
    subst e2
    cases r5
    exact wpAny_truthy_bool ⟨H5, I5, q5⟩

/-! ### truth -/
theorem line63 : (sizeLine : Nat) < 2 ^ 63 := by rw [sizeLine_eq]; decide
/-! ### strs and bytes -/
theorem op_add_str : OpR X (binaryOp .Add) (fun x y H Q => ∃ i j, x = .str i ∧ y = .str j ∧ i.length + j.length ≤ sizeLine ∧ Q (.str (i ++ j)) H) := by
  intro pins s σ H x y v u Q I rx ry h
  obtain ⟨i, j, rfl, rfl, hz, q⟩ := h
  obtain ⟨t, rfl⟩ := rx
  obtain ⟨t', rfl⟩ := ry
  exact add_str (fun t' tk => ⟨.str (i ++ j), H, I.tok _, ⟨_, rfl⟩, q⟩) hz
/-! ### scalar builtins, by CallR -/
theorem vals1 {x : V} {us : List Value} (r : Vals [x] us) : ∃ u, us = [u] ∧ RelV x u := by
  cases r with
  | cons r1 r2 => cases r2; exact ⟨_, rfl, r1⟩
theorem vals2 {x y : V} {us : List Value} (r : Vals [x, y] us) : ∃ u w', us = [u, w'] ∧ RelV x u ∧ RelV y w' := by
  cases r with
  | cons r1 r2 =>
    cases r2 with
    | cons r3 r4 => cases r4; exact ⟨_, _, rfl, r1, r3⟩
theorem call_int1 : CallR X (.type "int") (fun xs H Q => (∃ i, xs = [.int i] ∧ Q (.int i) H) ∨ ∃ k, xs = [.bl k] ∧ Q (.int (if k then 1 else 0)) H) := by
  intro pins s σ H xs us Q I r h
  rcases h with ⟨i, rfl, q⟩ | ⟨k, rfl, q⟩
  · obtain ⟨u, rfl, t, rfl⟩ := vals1 r
    exact call_int_int ⟨.int i, H, I, ⟨_, rfl⟩, q⟩
  · obtain ⟨u, rfl, r1⟩ := vals1 r
    cases r1
    exact call_int_bool ⟨.int (if k then 1 else 0), H, I.tok _, ⟨_, rfl⟩, q⟩
theorem call_str_int : CallR X (.type "str") (fun xs H Q => ∃ i, xs = [.int i] ∧ i.natAbs.log2 < 1920 ∧ Q (.str (toString i)) H) := by
  intro pins s σ H xs us Q I r h
  obtain ⟨i, rfl, hz, q⟩ := h
  obtain ⟨u, rfl, t, rfl⟩ := vals1 r
  exact PySem.P.str_of_int hz ⟨.str _, H, I.tok _, ⟨_, rfl⟩, q⟩
end
end L2

namespace L2
open PySem PySem.Spec PyProof.Rows

/-! ### an instance, its attributes a map -/
structure ObjM (h : Heap) (x dx C : Addr) (mA : Str → Option Value) : Prop where
  obj : h.get? x = some (PySem.W.instObj C dx)
  ns : h.Ns1 dx mA
  ne : dx ≠ x

theorem lookIn_ns {h : Heap} {dx : Addr} {mA : Str → Option Value} (n : h.Ns1 dx mA) : ∃ od, h.get? dx = some od ∧ ∀ name, PySem.W.lookIn name od = some (mA name) := by
  obtain ⟨o, es, ep, ho, hd, hk, _, hm⟩ := n
  refine ⟨o, ho, fun name => ?_⟩
  have e := hm name
  unfold nsFind findBy at e
  rw [← Array.find?_toList] at e
  unfold PySem.W.lookIn
  rw [hd]
  dsimp only
  split
  · rename_i y q
    rw [q] at e
    exact congrArg some e
  · rename_i q
    rw [q] at e
    have a : es.toList.any (·.refKey) = false := by
      rw [List.any_eq_false]
      intro y hy
      obtain ⟨z, t, hkey⟩ := hk y (Array.mem_toList_iff.mp hy)
      simp [DictEntry.refKey, hkey]
    have a' : ¬ es.toList.any (·.refKey) = true := by rw [a]; exact Bool.false_ne_true
    rw [if_neg a']
    exact congrArg some e

theorem ObjM.look {h : Heap} {x dx C : Addr} {mA : Str → Option Value} (I : ObjM h x dx C mA) : ∃ od, PySem.W.InstAt h x (PySem.W.instObj C dx) C (some od) ∧ ∀ name, PySem.W.lookIn name od = some (mA name) :=
  let ⟨od, ho, hl⟩ := lookIn_ns I.ns
  ⟨od, ⟨I.obj, rfl, rfl, ho⟩, hl⟩

section
variable {prog : Program} {w : World} {A : Around} {E : Value → Shared → Prop} {s : Shared} {K : PySem.W.Frag} {x dx C f : Addr} {mA : Str → Option Value} {name : Str} {v : Value}

end

/-! ### the attributes as a list of pairs -/
def putF (f : Str) (v : V) : List (Str × V) → List (Str × V)
  | [] => [(f, v)]
  | (g, x) :: r => if g = f then (g, v) :: r else (g, x) :: putF f v r
theorem RelO.none_of {o : Option Value} (r : RelO none o) : o = none := by
  cases o with
  | none => rfl
  | some u => exact (show False from r).elim
section
variable {P : Program} {w : World} {H H' : Hp} {h h' : Heap} {a C dx : Addr} {fs fs' : List (Str × V)}
theorem ins_get (hok : HOk P w H h) (e : H a = some (.ins C dx fs)) : ∃ mA, ObjM h a dx C mA ∧ (∀ f, RelO (fs.lookup f) (mA f)) ∧ PySem.Within mA (fs.map (·.1)) ∧ fs.length ≤ 1000 ∧ H dx = some (.own a) := by
  obtain ⟨d, z, ne, ob, mA, n, r, q⟩ := (show ObjOk P w H h a (.ins C dx fs) from hok a _ e)
  exact ⟨mA, ⟨ob, n, ne⟩, r, q, z, d⟩
end

/-! ### what of the text a class must have -/
structure Cls (K : PySem.W.Frag) (C : Addr) : Prop where
  pg : PySem.W.plainGet K C Str.empty = true
  hd : PySem.W.hasDictIn K C = true
  po : PySem.W.plainOver K C = true
  sa : PySem.W.findIn K (.ref C) "__setattr__" = some (some (.builtin "object.__setattr__"))
theorem Cls.get {K : PySem.W.Frag} {C : Addr} (c : Cls K C) (f : Str) : PySem.W.plainGet K C f = true := c.pg
/-- no class of it has the name -/
def NoAttr (K : PySem.W.Frag) (C : Addr) (f : Str) : Prop := PySem.W.findIn K (.ref C) f = some none
/-- a constant of the class -/
structure Con (K : PySem.W.Frag) (C : Addr) (f : Str) (v : V) (u : Value) : Prop where
  at_ : PySem.W.findIn K (.ref C) f = some (some u)
  rel : RelV v u
  get : PySem.W.specialIn K u "__get__" = some none
  cp : PySem.W.copiedNames.contains f = false
/-- a method: a plain def of the class or of one above it -/
structure Meth (K : PySem.W.Frag) (C : Addr) (m : Str) (f : Addr) : Prop where
  at_ : PySem.W.findIn K (.ref C) m = some (some (.ref f))
  fn : PySem.W.isFn K (.ref f) = true
  kp : PySem.W.keepIn K (.ref f) = true

section
variable {X : Cx} {pins : List (Addr × Obj)} {σ : St} {H : Hp} {s : Shared} {a C dx : Addr} {fs : List (Str × V)} {f : Str} {v : V} {A : Around} {E : Value → Shared → Prop}

/-- a new instance, tracked, without attributes -/
theorem Inv.made (I : Inv X pins σ H s) : Inv X pins σ (upd (upd H s.heap.objs.size (.own (s.heap.objs.size + 1))) (s.heap.objs.size + 1) (.ins C s.heap.objs.size []))
    { s with heap := (s.heap.push PySem.W.emptyDict).push (PySem.W.instObj C s.heap.objs.size) } := by
  have e1 : (s.heap.push PySem.W.emptyDict).get? s.heap.objs.size = some PySem.W.emptyDict := Heap.get?_push_size s.heap rfl
  have e2 : ((s.heap.push PySem.W.emptyDict).push (PySem.W.instObj C s.heap.objs.size)).get? (s.heap.objs.size + 1) = some (PySem.W.instObj C s.heap.objs.size) := by
    have := Heap.get?_push_size (s.heap.push PySem.W.emptyDict) (o := PySem.W.instObj C s.heap.objs.size) rfl
    rwa [Heap.size_push] at this
  have e3 : (s.heap.push PySem.W.emptyDict).Ns s.heap.objs.size (fun _ => none) := ⟨PySem.W.emptyDict, #[], _, e1, rfl, (fun e he => absurd he (by simp)), fun _ => rfl⟩
  have I1 := I.laid (a := s.heap.objs.size) (o := .own (s.heap.objs.size + 1)) (h' := s.heap.push PySem.W.emptyDict) (t' := s.toks) (fun b u q => Heap.get?_push_of_some _ q) (Nat.le_refl _) ⟨_, e1⟩
  refine I1.laid (a := s.heap.objs.size + 1) (o := .ins C s.heap.objs.size []) (t' := s.toks) (fun b u q => Heap.get?_push_of_some _ q) (Nat.le_of_eq (Heap.size_push _ _)) ?_
  have ne : s.heap.objs.size ≠ s.heap.objs.size + 1 := Nat.ne_of_lt (Nat.lt_succ_self _)
  refine ⟨by rw [upd_ne ne, upd_same], Nat.zero_le _, ne, e2, fun _ => none, (Heap.Ns1.of_empty e3).at fun o q => Heap.get?_push_of_some _ q, fun _ => True.intro, fun y hy => absurd rfl hy⟩

end

/-! ### readings and rules -/
section
variable {X : Cx} {o e value : Expr} {f : Str} {pos pos' tpos : Pos} {ta tv : TE}
end

/-! ### isinstance -/
section
variable {X : Cx} {pins : List (Addr × Obj)} {σ : St} {H : Hp} {s : Shared} {A : Around} {E : Value → Shared → Prop} {Q : Value → Shared → Prop} {c : Value} {b : Bool}
/-- the type of a value, as the fragment's deciders take it; for an instance its class -/
inductive TyOf (K : PySem.W.Frag) (H : Hp) : V → Value → Prop where
  | non : TyOf K H .non (.type "NoneType")
  | bl (x : Bool) : TyOf K H (.bl x) (.type "bool")
  | int (i : Int) : TyOf K H (.int i) (.type "int")
  | str (x : Str) : TyOf K H (.str x) (.type "str")
  | flt (x : UInt64) : TyOf K H (.flt x) (.type "float")
  | lst {a : Addr} {xs : List V} (e : H a = some (.lst xs)) : TyOf K H (.ref a) (.type "list")
  | frz {a : Addr} {o : Obj} {xs : List V} (e : H a = some (.frz o (.lst xs))) : TyOf K H (.ref a) (.type "list")
  | tup {a : Addr} {xs : List V} (e : H a = some (.tup xs)) : TyOf K H (.ref a) (.type "tuple")
  | dK {a : Addr} {kvs : List (Key × V)} (e : H a = some (.dK kvs)) : TyOf K H (.ref a) (.type "dict")
  | dT {a : Addr} {kvs : List (List Key × V)} (e : H a = some (.dT kvs)) : TyOf K H (.ref a) (.type "dict")
  | ins {a C dx : Addr} {fs : List (Str × V)} (e : H a = some (.ins C dx fs)) (cl : Cls K C) (ha : PySem.W.findIn K (.ref C) "__class__" = some (some (.builtin "object.__class__")))
      (hn : PySem.W.specialIn K (.builtin "object.__class__") "__get__" = some (some (.builtin "getset_descriptor.__get__"))) (htk : PySem.W.takesIn K (.builtin "object.__class__") = some true)
      (hm : PySem.W.mroIn K C (.type "object") = some true) : TyOf K H (.ref a) (.ref C)
/-- isinstance(x, c) for one class c, a built-in or an own one: kitOne's answer -/
theorem isinst_ok {x : V} {u t : Value} (I : Inv X pins σ H s) (rx : RelV x u) (ty : TyOf X.K H x t) (e : PySem.W.kitOne X.K t c = some b) (h : ∀ tk, Q (.bool b) { s with toks := tk }) :
    wpAny (model X.prog X.w) A (call (.builtin "isinstance") [u, c]) Q E s := by
  cases ty with
  | non => cases (show u = Value.none from rx); exact PySem.W.kia_one PySem.W.kitx_none I.kIn True.intro e (fun z => nomatch z) h
  | bl y => cases (show u = Value.bool y from rx); exact PySem.W.kia_one PySem.W.kitx_bool I.kIn True.intro e (fun z => nomatch z) h
  | int i => obtain ⟨t, q⟩ := (show ∃ t, u = Value.int i t from rx); cases q; exact PySem.W.kia_one PySem.W.kitx_int I.kIn True.intro e (fun z => nomatch z) h
  | str y => obtain ⟨t, q⟩ := (show ∃ t, u = Value.str y t from rx); cases q; exact PySem.W.kia_one PySem.W.kitx_str I.kIn True.intro e (fun z => nomatch z) h
  | flt y => obtain ⟨t, q⟩ := (show ∃ t, u = Value.float y t from rx); cases q; exact PySem.W.kia_one PySem.W.kitx_float I.kIn True.intro e (fun z => nomatch z) h
  | @lst a xs ea =>
    cases (show u = Value.ref a from rx)
    obtain ⟨_, _, n, _, h1⟩ := (show ObjOk X.prog X.w H s.heap a (.lst xs) from I.hok a _ ea)
    exact PySem.W.kia_one PySem.W.kitx_list I.kIn ⟨_, h1, rfl⟩ e (fun z => nomatch z) h
  | @frz a ob xs ea =>
    cases (show u = Value.ref a from rx)
    obtain ⟨_, _, _, n, _, h1⟩ := (show ObjOk X.prog X.w H s.heap a (.frz ob (.lst xs)) from I.hok a _ ea)
    exact PySem.W.kia_one PySem.W.kitx_list I.kIn ⟨_, h1, rfl⟩ e (fun z => nomatch z) h
  | @tup a xs ea =>
    cases (show u = Value.ref a from rx)
    obtain ⟨_, _, _, p⟩ := (show ObjOk X.prog X.w H s.heap a (.tup xs) from I.hok a _ ea)
    obtain ⟨o, h1, h2, _⟩ := p
    exact PySem.W.kia_one PySem.W.kitx_tuple I.kIn ⟨o, h1, h2⟩ e (fun z => nomatch z) h
  | @dK a kvs ea =>
    cases (show u = Value.ref a from rx)
    obtain ⟨_, _, vs, _, p⟩ := (show ObjOk X.prog X.w H s.heap a (.dK kvs) from I.hok a _ ea)
    obtain ⟨o, es, ep, h1, h2, _⟩ := p
    exact PySem.W.kia_one PySem.W.kitx_dict I.kIn ⟨o, h1, h2.1⟩ e (fun z => nomatch z) h
  | @dT a kvs ea =>
    cases (show u = Value.ref a from rx)
    obtain ⟨_, _, xs, _, o, es, ep, h1, h2, _⟩ := (show ObjOk X.prog X.w H s.heap a (.dT kvs) from I.hok a _ ea)
    exact PySem.W.kia_one PySem.W.kitx_dict I.kIn ⟨o, h1, h2.1⟩ e (fun z => nomatch z) h
  | @ins a C dx fs ea cl ha hn htk hm =>
    cases (show u = Value.ref a from rx)
    obtain ⟨mA, O, _⟩ := ins_get I.hok ea
    obtain ⟨od, J, _⟩ := O.look
    exact PySem.W.kia_one (PySem.W.kitx_own (cl.get _) cl.hd ha hn htk hm) I.kIn J e (fun z => nomatch z) h
end
end L2

namespace L2
open PySem PySem.Spec PyProof.Rows

/-! ### room -/
structure Room (k : Nat) (A : Around) : Prop where
  hd : A.handled = none
  dp : A.depth + 3 * k + 5 < recursionLimit
  un : A.units + 16 * k + 200 < cLine
  gd : A.guards = some []
theorem Room.mono {j k : Nat} {A : Around} (r : Room k A) (h : j ≤ k) : Room j A := ⟨r.hd, by have := r.dp; omega, by have := r.un; omega, r.gd⟩
theorem Room.deeper {k : Nat} {A : Around} (r : Room (k + 1) A) (env : Env) : Room k (A.deeper env) :=
  ⟨r.hd, by have := r.dp; show A.depth + 1 + 3 * k + 5 < _; omega, by have := r.un; show A.units + 3 + 16 * k + 200 < _; omega, r.gd⟩
theorem Room.in1 {k : Nat} {A : Around} (r : Room (k + 1) A) : Room k A.in1 :=
  ⟨r.hd, by have := r.dp; show A.depth + 3 * k + 5 < _; omega, by have := r.un; show A.units + 1 + 16 * k + 200 < _; omega, r.gd⟩
theorem make_depth {A : Around} {C : Addr} {us : List Value} {kw : List (Str × Value)} : (A.under (.builtin "type.__call__" ⟨.ref C :: us, kw⟩)).depth = A.depth + 1 := by
  first | rfl | simp [Around.under, Code.weight, Code.isCreation, Code.isGuard, Code.isCaller, Code.frames, Code.isFrame, guardIds]
theorem make_units {A : Around} {C : Addr} {us : List Value} {kw : List (Str × Value)} : (A.under (.builtin "type.__call__" ⟨.ref C :: us, kw⟩)).units = A.units + 1 := by
  first | rfl | simp [Around.under, Code.cUnits, Code.frames, Code.isFrame]
theorem Room.make {k : Nat} {A : Around} (r : Room (k + 1) A) (C : Addr) (us : List Value) (kw : List (Str × Value)) : Room k (A.under (.builtin "type.__call__" ⟨.ref C :: us, kw⟩)) :=
  ⟨r.hd, by have := r.dp; rw [make_depth]; omega, by have := r.un; rw [make_units]; omega, by first | exact r.gd | (have := r.gd; simp [Around.under, Code.isGuard, guardIds, this])⟩
theorem Room.depth {k : Nat} {A : Around} (r : Room k A) : A.depth < recursionLimit := by have := r.dp; omega
theorem Room.units {k : Nat} {A : Around} (r : Room k A) : A.units + 64 < cLine := by have := r.un; omega
theorem Room.units0 {k : Nat} {A : Around} (r : Room k A) : A.units < cLine := by have := r.un; omega

/-! ### argument lists and displays -/
def tNil : TA := fun _ H Q => Q [] H
def tCons (ta : TE) (tr : TA) : TA := fun σ H Q => ta σ H fun x H1 => tr σ H1 fun xs H2 => Q (x :: xs) H2
section
variable {X : Cx} {e : Expr} {es : List Expr} {te : TE} {t : TA} {pos : Pos}
theorem pa_nil : PA X [] tNil := fun _ _ _ _ H Q I h => Calls.spliced_nil ⟨[], H, I, .nil, h⟩
theorem pa_cons (ha : PE X e te) (hr : PA X es t) (hs : starEach (e :: es) X.env = (false, eval e X.env) :: starEach es X.env := by rfl) : PA X (e :: es) (tCons te t) := by
  intro pos pins s σ H Q I h
  rw [hs]
  show wpAny _ _ (spliced ((false, eval e X.env) :: backTo pos (starEach es X.env))) _ _ s
  refine Calls.spliced_cons (thn (ha pins s σ H _ I h) fun u s1 ⟨x, H1, I1, r1, q1⟩ => ?_)
  exact thn (hr pos pins s1 σ H1 _ I1 q1) fun us s2 ⟨xs, H2, I2, r2, q2⟩ => ⟨x :: xs, H2, I2, .cons r1 r2, q2⟩

/-- a tuple, a list of written items -/
def tTup (t : TA) : TE := fun σ H Q => t σ H fun xs H1 => xs.length ≤ sizeLine ∧ ∀ p, H1 p = none → Q (.ref p) (upd H1 p (.tup xs))
def tLst (t : TA) : TE := fun σ H Q => t σ H fun xs H1 => xs.length ≤ sizeLine ∧ ∀ p, H1 p = none → Q (.ref p) (upd H1 p (.lst xs))
theorem pe_tup {x1} (h : PA X es t) : PE X (.Tuple es x1 pos) (tTup t) := by
  intro pins s σ H Q I hq
  refine wpAny_Tuple_spliced (thn (h pos pins s σ H _ I hq) fun us s1 ⟨xs, H1, I1, r, z, q⟩ => ⟨by rw [← r.length]; exact z, ?_⟩)
  have hf : H1 s1.heap.objs.size = none := I1.hok.fresh (Nat.le_refl _)
  refine ⟨.ref s1.heap.objs.size, upd H1 s1.heap.objs.size (.tup xs), I1.laid (t' := s1.toks) (fun b u e => Heap.get?_push_of_some _ e) (Nat.le_refl _) ?_, rfl, q _ hf⟩
  exact ⟨z, us, r, ⟨_, Heap.get?_push_size _ rfl, rfl, _, rfl⟩⟩
theorem pe_lst (h : PA X es t) : PE X (.List es pos) (tLst t) := by
  intro pins s σ H Q I hq
  refine wpAny_List_spliced (thn (h pos pins s σ H _ I hq) fun us s1 ⟨xs, H1, I1, r, z, q⟩ => ⟨by rw [← r.length]; exact z, ?_⟩)
  have hf : H1 s1.heap.objs.size = none := I1.hok.fresh (Nat.le_refl _)
  refine ⟨.ref s1.heap.objs.size, upd H1 s1.heap.objs.size (.lst xs), I1.laid (t' := s1.toks) (fun b u e => Heap.get?_push_of_some _ e) (Nat.le_refl _) ?_, rfl, q _ hf⟩
  exact ⟨z, us, 0, r, Heap.get?_push_size _ rfl⟩
end

/-! ### what a def promises -/
/-- a def's promise: the bound arguments in the parameters' order, the heap, the wanted end, the wanted exception -/
abbrev Sp := List V → Hp → VK → XK → Prop
/-- how an exception lies behind a call (file 08 gives it): the callers' frames, abstract heap and state ahead of the call, the wish, the exception, the state -/
abbrev CXT := List Env → Hp → Shared → XK → Value → Shared → Prop

/-- the state at a call -/
structure Env0 (P : Program) (w : World) (K : PySem.W.Frag) (mg : Str → Option Value) (base : Heap) (A : Around) (outer : List Env) (s : Shared) (H : Hp) : Prop where
  frames : A.frames = some outer
  mod : Mod K mg base
  bs : ∀ b o, base.get? b = some o → s.heap.get? b = some o ∧ H b = none
  bsz : base.objs.size ≤ s.heap.objs.size
  funs : s.heap.FunFrames base outer
  frf : ∀ b ∈ frs outer, H b = none
  hok : HOk P w H s.heap
  bare : AllBare s.gens
/-- a call's end -/
def CE (outer : List Env) (P : Program) (w : World) (H : Hp) (s : Shared) (Q : VK) (u : Value) (s' : Shared) : Prop :=
  ∃ v H', s'.os = s.os ∧ AllBare s'.gens ∧ Un (frs outer) [] H H' s.heap s'.heap ∧ HOk P w H' s'.heap ∧ RelV v u ∧ Q v H'
def CR (CX : CXT) (outer : List Env) (P : Program) (w : World) (H : Hp) (s : Shared) (Q : VK) (E : XK) (r : Result) (s' : Shared) : Prop :=
  match r with
  | .ok (.ret u) => CE outer P w H s Q u s'
  | .ok _ => False
  | .error e => CX outer H s E e s'
structure FnOk (P : Program) (w : World) (K : PySem.W.Frag) (mg : Str → Option Value) (base : Heap) (CX : CXT) (k : Nat) (f : Addr) (fd : FuncData) (ps : List Str) (sp : Sp) : Prop where
  len : ∀ vs H Q E, sp vs H Q E → vs.length = ps.length
  run : ∀ (A : Around) (outer : List Env) (s : Shared) (H : Hp) (args : Args) (us : List Value) (vs : List V) (Q : VK) (E : XK), Room k A → Env0 P w K mg base A outer s H → BindsTo s fd args (ps.zip us) → Vals vs us → sp vs H Q E →
    codeAny (model P w) A (.call (.ref f) args) (CR CX outer P w H s Q E) s
theorem FnOk.mono {P : Program} {w : World} {K : PySem.W.Frag} {mg : Str → Option Value} {base : Heap} {CX : CXT} {j k : Nat} {f : Addr} {fd : FuncData} {ps : List Str} {sp : Sp} (F : FnOk P w K mg base CX j f fd ps sp) (h : j ≤ k) :
    FnOk P w K mg base CX k f fd ps sp := ⟨F.len, fun A outer s H args us vs Q E hr => F.run A outer s H args us vs Q E (hr.mono h)⟩
/-- a weaker promise -/
theorem FnOk.imp {P : Program} {w : World} {K : PySem.W.Frag} {mg : Str → Option Value} {base : Heap} {CX : CXT} {k : Nat} {f : Addr} {fd : FuncData} {ps : List Str} {sp sp' : Sp} (F : FnOk P w K mg base CX k f fd ps sp)
    (h : ∀ vs H Q E, sp' vs H Q E → sp vs H Q E) : FnOk P w K mg base CX k f fd ps sp' :=
  ⟨fun vs H Q E q => F.len vs H Q E (h _ _ _ _ q), fun A outer s H args us vs Q E hr he hb hv hs => F.run A outer s H args us vs Q E hr he hb hv (h _ _ _ _ hs)⟩

theorem Env0.make {P : Program} {w : World} {K : PySem.W.Frag} {mg : Str → Option Value} {base : Heap} {A : Around} {outer : List Env} {s : Shared} {H : Hp} (e : Env0 P w K mg base A outer s H) (C : Addr) (us : List Value) (kw : List (Str × Value)) :
    Env0 P w K mg base (A.under (.builtin "type.__call__" ⟨.ref C :: us, kw⟩)) outer s H := ⟨by first | exact e.frames | (simpa [Around.under, Code.envs, Code.isFrame, pushEnvs] using e.frames), e.mod, e.bs, e.bsz, e.funs, e.frf, e.hok, e.bare⟩
theorem Env0.in1 {P : Program} {w : World} {K : PySem.W.Frag} {mg : Str → Option Value} {base : Heap} {A : Around} {outer : List Env} {s : Shared} {H : Hp} (e : Env0 P w K mg base A outer s H) :
    Env0 P w K mg base A.in1 outer s H := ⟨e.frames, e.mod, e.bs, e.bsz, e.funs, e.frf, e.hok, e.bare⟩

section
variable {X : Cx} {pins : List (Addr × Obj)} {σ : St} {H : Hp} {s s' : Shared}
/-- from a body: what a callee wants -/
theorem Inv.env0 (I : Inv X pins σ H s) : Env0 X.prog X.w X.K X.mg X.base X.A X.stack s H :=
  ⟨I.ok.frames, I.ok.mod, I.bs, Nat.le_trans I.ok.bsz I.sz, I.stack, I.stkFree, I.hok, I.bare⟩
/-- behind a call -/
theorem Inv.after {Q : VK} {u : Value} (I : Inv X pins σ H s) (h : CE X.stack X.prog X.w H s Q u s') : EP X pins σ Q u s' := by
  obtain ⟨v, H', os, bare, un, hok, r, q⟩ := h
  obtain ⟨hh, g, d, t, os'⟩ := s'
  obtain rfl : os' = s.os := os
  exact ⟨v, H', I.call (h' := hh) (g' := g) (d' := d) (t' := t) (ch := []) un hok bare (fun b z => absurd z (by simp)), r, q⟩
end

/-! ### calls -/
/-- f(..): the written arguments, then the defaults dvs; E: what is wanted of an exception -/
def tCall (sp : Sp) (dvs : List V) (E : XK) (t : TA) : TE := fun σ H Q => t σ H fun vs H1 => sp (vs ++ dvs) H1 Q E
/-- how the parameters are bound: us the positional arguments, kw the keywords' values by name, ds the defaults that fill up -/
def Binds (K : PySem.W.Frag) (fd : FuncData) (ps : List Str) (ds : List Value) : Prop :=
  ∀ (s : Shared) (us : List Value), K.In s.heap → (us ++ ds).length = ps.length → BindsTo s fd ⟨us, []⟩ (ps.zip (us ++ ds))
/-- every parameter is given -/
theorem Binds.all {K : PySem.W.Frag} {fd : FuncData} {ps : List Str} (h : ∀ us : List Value, us.length = ps.length → bindArgs fd ⟨us, []⟩ = pure (ps.zip us)) : Binds K fd ps [] := fun s us _ hl => by
  rw [List.append_nil] at hl ⊢
  exact .of_eq (h us hl)

/-- an exception of a callee reaches what this body wants of exceptions -/
def Passes (CX : CXT) (X : Cx) (E : XK) : Prop := ∀ (pins : List (Addr × Obj)) (σ : St) (H : Hp) (s : Shared) (e : Value) (s' : Shared), Inv X pins σ H s → CX X.stack H s E e s' → X.xe e s'

section
variable {X : Cx} {CX : CXT} {k : Nat} {f C : Addr} {fd : FuncData} {ps : List Str} {sp : Sp} {dvs : List V} {ds : List Value} {E : XK} {x m : Str} {p pos apos : Pos} {e o : Expr} {es : List Expr} {ta : TE} {t : TA}

/-- the callee runs -/
theorem run_fn {pins : List (Addr × Obj)} {σ : St} {H : Hp} {s : Shared} {Q : VK} {us : List Value} {vs : List V} (F : FnOk X.prog X.w X.K X.mg X.base CX k f fd ps sp) (hr : Room k X.A) (hb : Binds X.K fd ps ds) (hd : Vals dvs ds) (hx : Passes CX X E)
    (I : Inv X pins σ H s) (r : Vals vs us) (h : sp (vs ++ dvs) H Q E) : wpAny (model X.prog X.w) X.A (call (.ref f) us) (EP X pins σ Q) X.xe s := by
  have r2 : Vals (vs ++ dvs) (us ++ ds) := r.append hd
  have hl : (us ++ ds).length = ps.length := by rw [← r2.length]; exact F.len _ _ _ _ h
  refine wpAny_call (codeAny_mono (F.run X.A X.stack s H ⟨us, []⟩ (us ++ ds) (vs ++ dvs) Q E hr I.env0 (hb s us I.kIn hl) r2 h) fun r s' hq => ?_)
  cases r with
  | error e => exact hx pins σ H s e s' I hq
  | ok fl =>
    cases fl with
    | ret u => exact I.after hq
    | next => exact False.elim hq
    | brk => exact False.elim hq
    | cont => exact False.elim hq

theorem pe_call (F : FnOk X.prog X.w X.K X.mg X.base CX k f fd ps sp) (hr : Room k X.A) (hg : Gl X x) (hm : X.mg x = some (.ref f)) (hk : PySem.W.keepIn X.K (.ref f) = true) (hb : Binds X.K fd ps ds) (hd : Vals dvs ds) (hx : Passes CX X E)
    (ha : PA X (e :: es) t) (hdb : (x == ("__debug__" : Str)) = false := by decide) (he : starEach (e :: es) X.env = (false, eval e X.env) :: starEach es X.env := by rfl) (hpl : (backTo pos (starEach es X.env)).any (·.1) = false := by rfl) :
    PE X (.Call (.Name x p) (e :: es) [] pos) (tCall sp dvs E t) := by
  intro pins s σ H Q I h
  refine wpAny_Call_Name_kw (ld_glob I hg hm ?_ hdb)
  refine PySem.W.callWith_K (h₀ := X.base) I.ok.mod.kin hk (thn (ha pos pins s σ H _ I h) fun us s1 ⟨vs, H1, I1, r, q⟩ => ⟨I1.kIn, ?_⟩) he hpl
  exact run_fn F hr hb hd hx I1 r q
/-- what a class must have to be made -/
structure Mk (K : PySem.W.Frag) (C f : Addr) : Prop where
  makes : PySem.W.makesIn K C = true
  init : PySem.W.findIn K (.ref C) "__init__" = some (some (.ref f))
  fn : PySem.W.isFn K (.ref f) = true
  kp : PySem.W.keepIn K (.ref C) = true

end

/-! ### keywords -/
section
variable {X : Cx} {CX : CXT} {k : Nat} {f C : Addr} {fd : FuncData} {ps ks : List Str} {sp : Sp} {E : XK} {x m : Str} {p pos apos kpos : Pos} {e o : Expr} {es : List Expr} {kws : List Keyword} {te ta : TE} {t tk : TA} {nm : Option Str}
/-- how a call with keywords binds: g puts the positional values us and the keywords' values ws (names ks) in the parameters' order, defaults among them -/
structure KBinds (K : PySem.W.Frag) (fd : FuncData) (ps ks : List Str) (g : List Value → List Value → List Value) (gV : List V → List V → List V) : Prop where
  to : ∀ (s : Shared) (us ws : List Value), K.In s.heap → (g us ws).length = ps.length → BindsTo s fd ⟨us, ks.zip ws⟩ (ps.zip (g us ws))
  rel : ∀ {vs : List V} {us : List Value} {zs : List V} {ws : List Value}, Vals vs us → Vals zs ws → Vals (gV vs zs) (g us ws)
variable {g : List Value → List Value → List Value} {gV : List V → List V → List V}
end

/-! ### a def's body keeps its promise -/
/-- names: the parameters first -/
structure FnScope (N P : List Str) (sc : Scope) : Prop where
  kind : sc.kind = .function
  co : sc.isCoroutine = false
  gen : sc.isGenerator = false
  nd : N.Nodup
  pre : N.take P.length = P
  par : ∀ x ∈ P, sc.names.lookup x = some .local ∨ sc.names.lookup x = some .cell
  nofree : ∀ y ∈ sc.names, y.2 ≠ .free

theorem bindL_out {kindOf : Str → Option NameKind} {x : Str} : ∀ {binds : List (Str × Value)} {m : Str → Option Value}, (∀ v, (x, v) ∉ binds) → bindL kindOf binds m x = m x
  | [], _, _ => rfl
  | (n, v) :: r, m, h => by
    unfold bindL
    rw [bindL_out fun w hw => h w (List.mem_cons_of_mem _ hw)]
    split
    · have : x ≠ n := by rintro rfl; exact h v List.mem_cons_self
      simp [this]
    · rfl
theorem bindC_out {kindOf : Str → Option NameKind} {x : Str} : ∀ {binds : List (Str × Value)} {m : Str → Option Value}, (∀ v, (x, v) ∉ binds) → bindC kindOf binds m x = m x
  | [], _, _ => rfl
  | (n, v) :: r, m, h => by
    unfold bindC
    rw [bindC_out fun w hw => h w (List.mem_cons_of_mem _ hw)]
    split
    · rfl
    · have : x ≠ n := by rintro rfl; exact h v List.mem_cons_self
      simp [this]
theorem bindL_get {kindOf : Str → Option NameKind} {x : Str} {v : Value} : ∀ {P : List Str} {vs : List Value} {i : Nat} {m : Str → Option Value}, P.Nodup → P[i]? = some x → vs[i]? = some v → kindOf x = some .local →
    bindL kindOf (P.zip vs) m x = some v
  | [], _, _, _, _, h, _, _ => by simp at h
  | _ :: _, [], _, _, _, _, h, _ => by simp at h
  | p :: P, w :: vs, 0, m, nd, h1, h2, hk => by
    simp at h1 h2; subst h1; subst h2
    show bindL kindOf ((p, w) :: P.zip vs) m p = _
    unfold bindL
    rw [bindL_out fun v hv => (List.nodup_cons.mp nd).1 (List.of_mem_zip hv).1, if_pos hk]
    simp
  | p :: P, w :: vs, i + 1, m, nd, h1, h2, hk => by
    show bindL kindOf ((p, w) :: P.zip vs) m x = _
    unfold bindL
    exact bindL_get (i := i) (List.nodup_cons.mp nd).2 (by simpa using h1) (by simpa using h2) hk
theorem bindC_get {kindOf : Str → Option NameKind} {x : Str} {v : Value} : ∀ {P : List Str} {vs : List Value} {i : Nat} {m : Str → Option Value}, P.Nodup → P[i]? = some x → vs[i]? = some v → kindOf x ≠ some .local →
    bindC kindOf (P.zip vs) m x = some v
  | [], _, _, _, _, h, _, _ => by simp at h
  | _ :: _, [], _, _, _, _, h, _ => by simp at h
  | p :: P, w :: vs, 0, m, nd, h1, h2, hk => by
    simp at h1 h2; subst h1; subst h2
    show bindC kindOf ((p, w) :: P.zip vs) m p = _
    unfold bindC
    rw [bindC_out fun v hv => (List.nodup_cons.mp nd).1 (List.of_mem_zip hv).1, if_neg hk]
    simp
  | p :: P, w :: vs, i + 1, m, nd, h1, h2, hk => by
    show bindC kindOf ((p, w) :: P.zip vs) m x = _
    unfold bindC
    exact bindC_get (i := i) (List.nodup_cons.mp nd).2 (by simpa using h1) (by simpa using h2) hk

/-- the names' values at the entry -/
def start (N : List Str) (vs : List V) : St := vs.map some ++ List.replicate (N.length - vs.length) none

/-- the context of a def's body, at its entry; an exception leaves the frame, then lies as CX says -/
def cxOf (CX : CXT) (P : Program) (w : World) (K : PySem.W.Frag) (mg : Str → Option Value) (base : Heap) (N : List Str) (qual : Str) (scope : Scope) (f : Addr) (cd : Value) (A : Around) (outer : List Env) (s : Shared) (H : Hp) (E : XK) : Cx where
  prog := P
  w := w
  K := K
  mg := mg
  base := base
  A := A.deeper (envOfC qual scope s.heap.objs.size f cd)
  N := N
  s₀ := s
  H₀ := H
  env := envOfC qual scope s.heap.objs.size f cd
  outer := outer
  stack := envOfC qual scope s.heap.objs.size f cd :: outer
  ex := []
  calm := true
  fn := fun _ => true
  pn := []
  xe := fun e s' => wpAny (model P w) (A.deeper (envOfC qual scope s.heap.objs.size f cd)) (leaving (envOfC qual scope s.heap.objs.size f cd) e) (fun _ s'' => CX outer H s E e s'') (fun e' s'' => CX outer H s E e' s'') s'

theorem cell_has {sc : Scope} {n : Nat} {x : Str} (h : sc.names.lookup x = some .cell) : ∃ c, (cellsFrom n sc.names []).lookup x = some c := by
  have q := PySem.W.cellsFrom_some sc.names n [] (.inl h)
  exact Option.isSome_iff_exists.mp q

theorem inv_start {CX : CXT} {P : Program} {w : World} {K : PySem.W.Frag} {mg : Str → Option Value} {base : Heap} {N ps : List Str} {qual : Str} {scope : Scope} {f : Addr} {cd : Value} {A : Around} {outer : List Env} {s s1 : Shared} {H : Hp} {E : XK} {us : List Value} {vs : List V}
    (S : FnScope N ps scope) (hd : A.handled = none) (e0 : Env0 P w K mg base A outer s H) (hl : vs.length = ps.length) (r : Vals vs us)
    (x : InCallC s s.heap.objs.size (bindL (envOfC qual scope s.heap.objs.size f cd).kindOf (ps.zip us) fun _ => none) (cellsFrom (s.heap.objs.size + 1) scope.names []) (bindC (envOfC qual scope s.heap.objs.size f cd).kindOf (ps.zip us) fun _ => none) s1) :
    Inv (cxOf CX P w K mg base N qual scope f cd A outer s H E) [] (start N vs) H s1 := by
  have hpl : ps.length ≤ N.length := by have := congrArg List.length S.pre; rw [List.length_take] at this; omega
  obtain ⟨h1, tk, rfl, hk⟩ := x.done
  have noA : ∀ b : Addr, b ∉ (cxOf CX P w K mg base N qual scope f cd A outer s H E).ex := fun b z => absurd (show b ∈ ([] : List Addr) from z) (by simp)
  refine ⟨⟨e0.mod, S.kind, rfl, rfl, Nat.le_refl _, fun y z c h1 h2 => ?_, fun y hy => ?_, fun y c _ h => ?_, fun _ => hd, Around.frames_deeper e0.frames, .inr ⟨rfl, rfl⟩, fun b z => absurd z (noA b), e0.bs, e0.bsz, fun b _ _ => noA b, fun b z => absurd z (noA b), e0.funs, e0.frf⟩,
    rfl, e0.bare, Un.kept hk, ⟨_, x.toInCall.ns, fun i y v h1 h2 h3 => ?_⟩, fun y c h => ⟨_, x.cell y c h⟩, e0.hok.fresh (Nat.le_refl _), fun y c h => ?_, fun p hp => absurd (show p ∈ ([] : List (Addr × Obj)) from hp) (by simp), e0.hok.kept hk, ?_⟩
  · exact name_of_addr x.apart (PySem.mem_of_lookup h1) (PySem.mem_of_lookup h2)
  · have hy : scope.names.lookup y = some .cell ∨ scope.names.lookup y = some .free := hy
    rcases hy with hy | hy
    · exact cell_has hy
    · exact absurd rfl (S.nofree _ (PySem.mem_of_lookup hy))
  · exact Nat.le_of_lt (x.above y c (PySem.mem_of_lookup h))
  · have hi : i < vs.length := by
      unfold start at h2
      by_cases hi : i < vs.length
      · exact hi
      · rw [List.getElem?_append_right (by simpa using hi)] at h2
        rw [List.getElem?_replicate] at h2
        split at h2 <;> cases h2
    have ha : vs[i]? = some v := by
      unfold start at h2
      rw [List.getElem?_append_left (by simpa using hi), List.getElem?_map] at h2
      cases e : vs[i]? with
      | none => rw [e] at h2; cases h2
      | some a => rw [e] at h2; cases h2; rfl
    obtain ⟨u, hu, rv⟩ := r.get ha
    have hp : ps[i]? = some y := by
      rw [← S.pre, List.getElem?_take_of_lt (by omega)]; exact h1
    have ndP : ps.Nodup := by rw [← S.pre]; exact S.nd.sublist (List.take_sublist _ _)
    refine ⟨u, rv, ?_⟩
    rcases S.par y (List.mem_of_getElem? hp) with k | k
    · exact .inl ⟨k, bindL_get ndP hp hu k⟩
    · obtain ⟨c, e⟩ := cell_has (n := s.heap.objs.size + 1) k
      refine .inr ⟨.inl k, c, e, ?_⟩
      have q := x.cell y c e
      rw [bindC_get ndP hp hu (by show scope.names.lookup y ≠ _; rw [k]; decide)] at q
      exact q
  · exact e0.hok.fresh (Nat.le_of_lt (x.above y c (PySem.mem_of_lookup h)))
  · unfold start
    show _ = N.length
    rw [List.length_append, List.length_map, List.length_replicate]
    omega

/-- THE RULE: a def (or a method) of the text, by its body. The body's reading t is chosen for each entry; it is run at the parameters' values -/
theorem fn_of {CX : CXT} {P : Program} {w : World} {K : PySem.W.Frag} {mg : Str → Option Value} {base : Heap} {k : Nat} {f : Addr} {name qual : Str} {params : Arguments} {body : List Stmt} {scope : Scope} {dV kV doc pm cdv ct oc : Value} {an od : Option Addr}
    {osl : Array (Option Value)} {N ps : List Str} {sp : Sp} (lk : K.lookup f = some ⟨oc, od, .func (PySem.W.fnOf name qual params body scope dV kV doc pm an cdv ct), osl⟩) (hcd : PySem.W.codeIn K cdv qual = true) (S : FnScope N ps scope)
    (len : ∀ vs H Q E, sp vs H Q E → vs.length = ps.length)
    (hbody : ∀ (A : Around) (outer : List Env) (s : Shared) (H : Hp) (vs : List V) (Q : VK) (E : XK), Room k (A.deeper (envOfC qual scope s.heap.objs.size f cdv)) → sp vs H Q E →
      ∃ t, PSs (cxOf CX P w K mg base N qual scope f cdv A outer s H E) body t ∧ t { nx := fun _ H' => Q .non H', rt := Q } (start N vs) H) :
    FnOk P w K mg base CX (k + 1) f (PySem.W.fnOf name qual params body scope dV kV doc pm an cdv ct) ps sp := by
  refine ⟨len, fun A outer s H args us vs Q E hr e0 hb r hsp => ?_⟩
  have hl := len _ _ _ _ hsp
  have KX : K.In s.heap := e0.mod.kin.keeps fun b o e => (e0.bs b o e).1
  have lim : s.heap.NoLimit := e0.mod.nolimit.keeps fun b o e => (e0.bs b o e).1
  have hkind : ∀ y ∈ ps.zip us, scope.names.lookup y.1 = some .local ∨ (scope.names.lookup y.1 = some .cell ∧ ((cellsFrom (s.heap.objs.size + 1) scope.names []).lookup y.1).isSome = true) := fun ⟨n, v⟩ hy => by
    rcases S.par n (List.of_mem_zip hy).1 with q | q
    · exact .inl q
    · exact .inr ⟨q, PySem.W.cellsFrom_some _ _ _ (.inl q)⟩
  refine codeAny_call_function hr.depth (KX _ _ lk) rfl S.co S.gen rfl (PySem.W.codeRec_of KX hcd) (hb _ _ _ _ ?_)
  refine wpAny_newFunctionEnv_cells S.kind hkind fun env he s1 x => ?_
  subst he
  refine ⟨lim.keeps x.toInCall.keep, codeAny_func ?_⟩
  obtain ⟨t, ht, hq⟩ := hbody A outer s H vs Q E (hr.deeper _) hsp
  have I : Inv (cxOf CX P w K mg base N qual scope f cdv A outer s H E) [] (start N vs) H s1 := inv_start S hr.hd e0 hl r x
  refine wpAny_mono (ht [] s1 (start N vs) H _ I hq) (fun fl s' hs => ?_) fun e s' hs => hs
  have fin : ∀ {σ' : St} {H' : Hp} {v : V} {u : Value}, Inv (cxOf CX P w K mg base N qual scope f cdv A outer s H E) [] σ' H' s' → RelV v u → Q v H' → CE outer P w H s Q u s' :=
    fun {σ' H' v u} J rv q => ⟨v, H', J.os, J.bare, J.base, J.hok, rv, q⟩
  cases fl with
  | ret u =>
    obtain ⟨v, σ', H', J, rv, q⟩ := hs
    exact fin J rv q
  | next =>
    obtain ⟨σ', H', J, q⟩ := hs
    exact fin (v := V.non) (u := Value.none) J rfl q
  | brk =>
    obtain ⟨_, _, _, q⟩ := hs
    exact False.elim q
  | cont =>
    obtain ⟨_, _, _, q⟩ := hs
    exact False.elim q
end L2

namespace L2
open PySem PySem.Spec PyProof.Rows
section
variable {X : Cx} {x : Str} {p pos : Pos} {e : Expr} {es : List Expr} {t : TA} {id T : String} {r : List V → Hp → VK → Prop}

def tCB (r : List V → Hp → VK → Prop) (t : TA) : TE := fun σ H Q => t σ H fun vs H1 => r vs H1 Q
/-- f(e, ..), f a built-in function -/
theorem pe_callB (hc : CallR X (.builtin id) r) (hg : Gl X x) (hm : X.mg x = none) (hv : bootBuiltins x = some (.builtin id)) (ha : PA X (e :: es) t) (hn : x ≠ "__name__" := by decide) (hdb : (x == ("__debug__" : Str)) = false := by decide)
    (he : starEach (e :: es) X.env = (false, eval e X.env) :: starEach es X.env := by rfl) (hpl : (backTo pos (starEach es X.env)).any (·.1) = false := by rfl) : PE X (.Call (.Name x p) (e :: es) [] pos) (tCB r t) := by
  intro pins s σ H Q I h
  refine wpAny_Call_Name_kw (ld_blt I hg hm hv ?_ hn hdb)
  exact PyProof.Rows.callWith_builtin1 (thn (ha pos pins s σ H _ I h) fun us s1 ⟨vs, H1, I1, r1, q1⟩ => hc pins s1 σ H1 vs us Q I1 r1 q1) he hpl
/-- T(e, ..), T a built-in type -/
theorem pe_callTy (hc : CallR X (.type T) r) (hg : Gl X x) (hm : X.mg x = none) (hv : bootBuiltins x = some (.type T)) (ha : PA X (e :: es) t) (hn : x ≠ "__name__" := by decide) (hdb : (x == ("__debug__" : Str)) = false := by decide)
    (he : starEach (e :: es) X.env = (false, eval e X.env) :: starEach es X.env := by rfl) (hpl : (backTo pos (starEach es X.env)).any (·.1) = false := by rfl) : PE X (.Call (.Name x p) (e :: es) [] pos) (tCB r t) := by
  intro pins s σ H Q I h
  refine wpAny_Call_Name_kw (ld_blt I hg hm hv ?_ hn hdb)
  exact PyProof.Rows.callWith_type1 (thn (ha pos pins s σ H _ I h) fun us s1 ⟨vs, H1, I1, r1, q1⟩ => hc pins s1 σ H1 vs us Q I1 r1 q1) he hpl
end
end L2

namespace HT
open PySem PyProof.Rows

/-- t < u of tuples of ints -/
def lexLt : List Int → List Int → Bool
  | [], [] => false
  | [], _ :: _ => true
  | _ :: _, [] => false
  | x :: xs, y :: ys => if x = y then lexLt xs ys else decide (x < y)
theorem lexLt_cons (x y : Int) (xs ys : List Int) : lexLt (x :: xs) (y :: ys) = if x = y then lexLt xs ys else decide (x < y) := rfl
section
open PySem.SeqAt
open PySem.AutoSeq1 (wpAny_loadPart')
open PySem.MeetsSeq PySem.MeetsSeq2 PySem.MeetsSeq3

end

section
variable {prog : Program} {w : World} {A : Around} {E : Value → Shared → Prop} {s : Shared}

/-! ### t[a:b], not the whole -/
/-- a slice's bound as a place among n (d where it is left out) -/
def sIx (n d : Nat) : Option Int → Nat
  | none => d
  | some v => if v < 0 then (v + (n : Int)).toNat else min v.toNat n
theorem sIx_none (n d : Nat) : sIx n d none = d := rfl
theorem sIx_nat (n d k : Nat) : sIx n d (some (k : Int)) = min k n := by
  show (if (k : Int) < 0 then ((k : Int) + (n : Int)).toNat else min (k : Int).toNat n) = min k n
  rw [if_neg (by omega), Int.toNat_natCast]
end
end HT

namespace L2
open PySem PySem.Spec PyProof.Rows

/-! ### the parts of a slice -/
abbrev TO := St → Hp → (Option Int → Hp → Prop) → Prop
/-- a slice's part (left out, or an int) -/
def PO (X : Cx) (e : Option Expr) (t : TO) : Prop :=
  ∀ (pins : List (Addr × Obj)) (s : Shared) (σ : St) (H : Hp) (Q : Option Int → Hp → Prop), Inv X pins σ H s → t σ H Q →
    wpAny (model X.prog X.w) X.A (evalPart e X.env) (fun u s' => ∃ o H', Inv X pins σ H' s' ∧ IsPart u o ∧ Q o H') X.xe s
def tNoPart : TO := fun _ H Q => Q none H
def tPart (t : TE) : TO := fun σ H Q => t σ H fun x H1 => ∃ i, x = .int i ∧ Q (some i) H1

section
variable {X : Cx} {e : Expr} {te : TE} {lo hi : Option Expr} {tl th : TO} {pos p2 : Pos}

theorem po_none : PO X none tNoPart := by
  intro pins s σ H Q I h
  rw [evalPart_none]
  exact wpAny_pure ⟨none, H, I, .none, h⟩
theorem po_some (h : PE X e te) : PO X (some e) (tPart te) := by
  intro pins s σ H Q I hw
  rw [evalPart_some]
  refine thn (h pins s σ H _ I hw) fun u s1 ⟨x, H1, I1, r1, q1⟩ => ?_
  obtain ⟨i, rfl, q⟩ := q1
  obtain ⟨t, rfl⟩ := r1
  exact ⟨some i, H1, I1, .int i t, q⟩

/-- what a slice of a value is, by values: the slice object stands at sl -/
def SlR (X : Cx) (r : V → Option Int → Option Int → Hp → VK → Prop) : Prop :=
  ∀ (pins : List (Addr × Obj)) (s : Shared) (σ : St) (H : Hp) (x : V) (v vl vu : Value) (lo hi : Option Int) (sl : Addr) (Q : VK), Inv X pins σ H s → RelV x v → s.heap.IsSliceOf sl vl vu .none → IsPart vl lo → IsPart vu hi → r x lo hi H Q →
    ∃ T id, typeLookup (.type T) "__getitem__" = pure (some (.builtin id)) ∧ s.TypeIs v T ∧ wpAny (model X.prog X.w) X.A (getItem v (.ref sl)) (EP X pins σ Q) X.xe s
theorem SlR.or {r r' : V → Option Int → Option Int → Hp → VK → Prop} (h : SlR X r) (h' : SlR X r') : SlR X (fun x lo hi H Q => r x lo hi H Q ∨ r' x lo hi H Q) := by
  intro pins s σ H x v vl vu lo hi sl Q I rx hs pl pu q
  rcases q with q | q
  · exact h pins s σ H x v vl vu lo hi sl Q I rx hs pl pu q
  · exact h' pins s σ H x v vl vu lo hi sl Q I rx hs pl pu q
def tSl (r : V → Option Int → Option Int → Hp → VK → Prop) (te : TE) (tl th : TO) : TE := fun σ H Q => te σ H fun x H1 => tl σ H1 fun l H2 => th σ H2 fun u H3 => r x l u H3 Q
/-- a[lo:hi], any a -/
theorem pe_slice {r : V → Option Int → Option Int → Hp → VK → Prop} (hr : SlR X r) (he : PE X e te) (hl : PO X lo tl) (hu : PO X hi th) : PE X (.Subscript e (.Slice lo hi none p2) pos) (tSl r te tl th) := by
  intro pins s σ H Q I h
  refine Subscript_ (thn (he pins s σ H _ I h) fun v s1 ⟨x, H1, I1, r1, q1⟩ => ?_)
  refine wpAny_Slice (thn (hl pins s1 σ H1 _ I1 q1) fun vl s2 ⟨l, H2, I2, pl, q2⟩ => thn (hu pins s2 σ H2 _ I2 q2) fun vu s3 ⟨u, H3, I3, pu, q3⟩ => ?_)
  rw [evalPart_none]
  refine wpAny_pure ?_
  have I4 : Inv X pins σ H3 { s3 with heap := s3.heap.push { cls := .type "slice", data := .fields #[vl, vu, .none] } } := I3.kept (t' := s3.toks) fun b ob q => Heap.get?_push_of_some _ q
  obtain ⟨T, id, hT, ht, hg⟩ := hr pins { s3 with heap := s3.heap.push { cls := .type "slice", data := .fields #[vl, vu, .none] } } σ H3 x v vl vu l u s3.heap.objs.size Q I4 r1 (Heap.IsSliceOf.new ..) pl pu q3
  show wpAny (model X.prog X.w) X.A (subscriptTail e (.Slice lo hi none p2) v (.ref s3.heap.objs.size)) (EP X pins σ Q) X.xe { s3 with heap := s3.heap.push { cls := .type "slice", data := .fields #[vl, vu, .none] } }
  exact tail_any (ops := [.ref s3.heap.objs.size, v]) ht hT hg (by with_unfolding_all rfl)

/-- the items of xs[lo:hi] -/
def cutV (xs : List V) (lo hi : Option Int) : List V := (xs.drop (HT.sIx xs.length 0 lo)).take (HT.sIx xs.length xs.length hi - HT.sIx xs.length 0 lo)
theorem cutV_length (xs : List V) (lo hi : Option Int) : (cutV xs lo hi).length ≤ xs.length := by
  unfold cutV
  rw [List.length_take, List.length_drop]
  omega
/-! ### t < u, t + u -/
end
end L2

namespace L2
open PySem PySem.Spec PyProof.Rows

/-! ### places -/
/-- the place that an index of any sign means -/
def ixN (n : Nat) (i : Int) : Option Nat := if 0 ≤ i then (if i < n then some i.toNat else none) else if -(n : Int) ≤ i then some (i + n).toNat else none
def atI {α : Type} (xs : List α) (i : Int) : Option α := (ixN xs.length i).bind fun j => xs[j]?
theorem ixN_seq {n : Nat} {i : Int} {j : Nat} (h : ixN n i = some j) : seqIndex? i n = some j ∧ j < n ∧ -(n : Int) ≤ i ∧ i < n := by
  unfold ixN at h
  by_cases h0 : 0 ≤ i
  · rw [if_pos h0] at h
    by_cases h1 : i < n
    · rw [if_pos h1] at h
      have e : i.toNat = j := Option.some.inj h
      exact ⟨by rw [seqIndex_of h0 h1, e], by omega, by omega, h1⟩
    · rw [if_neg h1] at h; cases h
  · rw [if_neg h0] at h
    by_cases h1 : -(n : Int) ≤ i
    · rw [if_pos h1] at h
      have e : (i + n).toNat = j := Option.some.inj h
      exact ⟨by rw [seqIndex_neg (by omega) h1, e], by omega, h1, by omega⟩
    · rw [if_neg h1] at h; cases h
theorem atI_get {α : Type} {xs : List α} {i : Int} {v : α} (h : atI xs i = some v) : ∃ j, seqIndex? i xs.length = some j ∧ xs[j]? = some v ∧ j < xs.length ∧ -(xs.length : Int) ≤ i ∧ i < xs.length := by
  unfold atI at h
  cases e : ixN xs.length i with
  | none => rw [e] at h; cases h
  | some j =>
    rw [e] at h
    obtain ⟨h1, h2, h3, h4⟩ := ixN_seq e
    exact ⟨j, h1, h, h2, h3, h4⟩
theorem atI_nat {α : Type} {xs : List α} {j : Nat} {v : α} (h : xs[j]? = some v) : atI xs (j : Int) = some v := by
  have hj : j < xs.length := (List.getElem?_eq_some_iff.mp h).1
  have e : ixN xs.length (j : Int) = some j := by
    unfold ixN
    rw [if_pos (by omega), if_pos (by omega)]; simp
  unfold atI; rw [e]; exact h
/-! ### what may be subscripted -/
/-- what stands as an index of a plain subscript -/
def PlainIx (b : Expr) : Prop := ∀ o i, subscripted b false o i = operate [o, i] (getItem o i)
/-- a subscript by values -/
def IxR (X : Cx) (r : R2) : Prop :=
  ∀ (value slice : Expr) (pins : List (Addr × Obj)) (s : Shared) (σ : St) (H : Hp) (x y : V) (v u : Value) (Q : VK), Inv X pins σ H s → RelV x v → RelV y u → r x y H Q →
    subscripted slice false v u = operate [v, u] (getItem v u) → wpAny (model X.prog X.w) X.A (subscriptTail value slice v u) (EP X pins σ Q) X.xe s
/-- a call of a builtin's method by values: the receiver, the arguments -/
def MtR (X : Cx) (id : String) (r : V → List V → Hp → VK → Prop) : Prop :=
  ∀ (pins : List (Addr × Obj)) (s : Shared) (σ : St) (H : Hp) (x : V) (xs : List V) (v : Value) (us : List Value) (Q : VK), Inv X pins σ H s → RelV x v → Vals xs us → r x xs H Q →
    wpAny (model X.prog X.w) X.A (call (.builtin id) (v :: us)) (EP X pins σ Q) X.xe s
section
variable {X : Cx} {a b : Expr} {ta tb : TE} {pos : Pos}
theorem IxR.or {r r' : R2} (h : IxR X r) (h' : IxR X r') : IxR X (fun x y H Q => r x y H Q ∨ r' x y H Q) := by
  intro value slice pins s σ H x y v u Q I rx ry q hs
  rcases q with q | q
  · exact h value slice pins s σ H x y v u Q I rx ry q hs
  · exact h' value slice pins s σ H x y v u Q I rx ry q hs
theorem MtR.or {id : String} {r r' : V → List V → Hp → VK → Prop} (h : MtR X id r) (h' : MtR X id r') : MtR X id (fun x xs H Q => r x xs H Q ∨ r' x xs H Q) := by
  intro pins s σ H x xs v us Q I rx rs q
  rcases q with q | q
  · exact h pins s σ H x xs v us Q I rx rs q
  · exact h' pins s σ H x xs v us Q I rx rs q
/-- a[b] -/
theorem pe_ix {r : R2} (hr : IxR X r) (ha : PE X a ta) (hb : PE X b tb) (hs : PlainIx b) : PE X (.Subscript a b pos) (tOp r ta tb) := by
  intro pins s σ H Q I h
  exact Subscript_ (binT ha hb I h fun v u s2 x y H2 I2 rx ry q => hr a b pins s2 σ H2 x y v u Q I2 rx ry q (hs _ _))

def rIxL (K : PySem.W.Frag) : R2 := fun x y H Q => ∃ p xs i v, x = .ref p ∧ y = .int i ∧ SqL K H p xs ∧ atI xs i = some v ∧ Q v H
def rIxS : R2 := fun x y H Q => ∃ z i c, x = .str z ∧ y = .int i ∧ z.length ≤ sizeLine ∧ atI z.cps.toList i = some c ∧ Q (.str ⟨#[c]⟩) H
theorem ix_list : IxR X (rIxL X.K) := by
  intro value slice pins s σ H x y v u Q I rx ry h hs
  obtain ⟨p, xs, i, z, rfl, rfl, hq, he, q⟩ := h
  cases rx
  obtain ⟨t, rfl⟩ := ry
  obtain ⟨its, r, pl, hz⟩ := I.list hq
  obtain ⟨j, h1, h2, h3, h4, h5⟩ := atI_get he
  obtain ⟨w, ew, rw'⟩ := r.get h2
  have hl := r.length
  have hn := line63
  have fin : EP X pins σ Q w s := ⟨z, H, I, rw', q⟩
  by_cases h0 : 0 ≤ i
  · have hj : i.toNat = j := by
      rw [seqIndex_of h0 h5] at h1
      exact Option.some.inj h1
    exact item_listR pl.isList h0 (by omega) (by rw [hj]; simpa using ew) fin hs
  · have hj : (i + (its.toArray.size : Int)).toNat = j := by
      rw [seqIndex_neg (by omega) h4] at h1
      rw [List.size_toArray, ← hl]
      exact Option.some.inj h1
    exact subscriptTail_builtinR (x := w) pl.isList.typeIs slot_list_getitem.lookup
      (wpAny_getItem_list_neg (Q := fun r s' => r = w ∧ EP X pins σ Q r s') pl.isList (by omega) (by rw [List.size_toArray] <;> omega) (by omega) (by rw [hj]; simpa using ew) ⟨rfl, fin⟩) hs
theorem ix_str : IxR X rIxS := by
  intro value slice pins s σ H x y v u Q I rx ry h hs
  obtain ⟨z, i, c, rfl, rfl, hz, he, q⟩ := h
  obtain ⟨t, rfl⟩ := rx
  obtain ⟨t', rfl⟩ := ry
  obtain ⟨j, h1, h2, h3, h4, h5⟩ := atI_get he
  have hl : z.cps.toList.length = z.length := by simp [Str.length]
  rw [hl] at h1 h4 h5
  have hn := line63
  exact tail_any (typeIs_str s z t) slot_str_getitem.lookup (getItem_str (c := c) (by
    have e1 : decide (i < -(2 ^ 63 : Int)) = false := decide_eq_false (by omega)
    have e2 : decide (i ≥ 2 ^ 63) = false := decide_eq_false (by omega)
    rw [e1, e2, Bool.or_false]) (by rw [h1]; simpa using h2) ⟨.str ⟨#[c]⟩, H, I.tok _, ⟨_, rfl⟩, q⟩) hs
/-! ### xs[i] = v, any sign -/
/-- the list's object behind a store -/
theorem mapSeq_set (its : List Value) (n j : Nat) (u : Value) : Obj.mapSeq (·.setIfInBounds j u) { cls := .type "list", data := .seq its.toArray n } = { cls := .type "list", data := .seq (its.set j u).toArray n } := by
  simp [Obj.mapSeq]
theorem Inv.lst {pins : List (Addr × Obj)} {σ : St} {H : Hp} {s : Shared} {p : Addr} {xs : List V} (I : Inv X pins σ H s) (h : H p = some (.lst xs)) :
    ∃ (its : List Value) (n : Nat), Vals xs its ∧ s.heap.get? p = some { cls := .type "list", data := .seq its.toArray n } ∧ xs.length ≤ sizeLine := by
  obtain ⟨z, its, n, r, e⟩ := I.hok p _ h
  exact ⟨its, n, r, e, z⟩
/-- the list at p is written by an update of its object -/
theorem Inv.lstUpd {pins : List (Addr × Obj)} {σ : St} {H : Hp} {s : Shared} {p : Addr} {xs ys : List V} {its its' : List Value} {n n' : Nat} {f : Obj → Obj} (I : Inv X pins σ H s) (h : H p = some (.lst xs))
    (ho : s.heap.get? p = some { cls := .type "list", data := .seq its.toArray n }) (hf : f { cls := .type "list", data := .seq its.toArray n } = { cls := .type "list", data := .seq its'.toArray n' }) (r : Vals ys its') (hz : ys.length ≤ sizeLine) (t : Nat) :
    Inv X pins σ (upd H p (.lst ys)) { s with heap := s.heap.update p f, toks := t } := by
  have e : (s.heap.update p f).get? p = some { cls := .type "list", data := .seq its'.toArray n' } := by
    rw [Heap.get?_update_self f ho (by rw [hf] <;> rfl), hf]
  refine I.write (x := p) (e := p) (by rw [h]; trivial) (.inl rfl) (fun b u hb q => (Heap.get?_update_other _ _ (Ne.symm hb)).trans q) ⟨_, e⟩ ?_
  exact ⟨hz, its', n', r, e⟩
def rSetL : V → V → V → Hp → (Hp → Prop) → Prop := fun o i v H Q => ∃ p xs k j, o = .ref p ∧ i = .int k ∧ H p = some (.lst xs) ∧ ixN xs.length k = some j ∧ Q (upd H p (.lst (xs.set j v)))
theorem set_list : PSet X rSetL := by
  intro pins s σ H o i v ov iv u Q I ro ri rv h
  obtain ⟨p, xs, k, j, rfl, rfl, hp, hj, q⟩ := h
  cases ro
  obtain ⟨t, rfl⟩ := ri
  obtain ⟨its, n, r, ho, hz⟩ := I.lst hp
  obtain ⟨h1, h2, h3, h4⟩ := ixN_seq hj
  have hl := r.length
  have hn := line63
  have I' : Inv X pins σ (upd H p (.lst (xs.set j v))) { s with heap := s.heap.update p (Obj.mapSeq (·.setIfInBounds j u)) } :=
    I.lstUpd hp ho (mapSeq_set its n j u) (r.set rv j) (by rw [List.length_set]; exact hz) s.toks
  by_cases h0 : 0 ≤ k
  · have hk : k.toNat = j := by
      rw [seqIndex_of h0 h4] at h1
      exact Option.some.inj h1
    exact PySem.W.ki_setAt ho h0 (by omega) (by rw [List.size_toArray, ← hl]; exact h4) (by rw [hk]; exact ⟨_, I', q⟩)
  · have hk : (k + (its.toArray.size : Int)).toNat = j := by
      rw [seqIndex_neg (by omega) h3] at h1
      rw [List.size_toArray, ← hl]
      exact Option.some.inj h1
    exact PySem.W.ki_setBack ho (by omega) (by rw [List.size_toArray, ← hl]; exact h3) (by omega) (by rw [hk]; exact ⟨_, I', q⟩)

/-! ### slices -/
theorem slice_bounds (lo hi : Option Int) (n : Nat) : (sliceBounds lo hi none n).1 = ((HT.sIx n 0 lo : Nat) : Int) ∧ (sliceBounds lo hi none n).2.1 = ((HT.sIx n n hi : Nat) : Int) ∧ (sliceBounds lo hi none n).2.2 = 1 := by
  refine ⟨?_, ?_, rfl⟩
  · cases lo with
    | none => simp [sliceBounds, HT.sIx]
    | some i =>
      simp only [sliceBounds, HT.sIx, Option.getD_none, show (1 : Int) > 0 by decide, if_true]
      by_cases h : i < 0
      · simp only [h, if_true] <;> omega
      · simp only [h, if_false] <;> omega
  · cases hi with
    | none => simp [sliceBounds, HT.sIx]
    | some i =>
      simp only [sliceBounds, HT.sIx, Option.getD_none, show (1 : Int) > 0 by decide, if_true]
      by_cases h : i < 0
      · simp only [h, if_true] <;> omega
      · simp only [h, if_false] <;> omega
theorem slicePick_cut (its : List Value) (lo hi : Option Int) : slicePick its.toArray lo hi none = ((its.drop (HT.sIx its.length 0 lo)).take (HT.sIx its.length its.length hi - HT.sIx its.length 0 lo)).toArray := by
  obtain ⟨h1, h2, h3⟩ := slice_bounds lo hi its.toArray.size
  unfold slicePick
  rw [h1, h2, h3]
  simp only [sliceRange_one, pick_run, List.size_toArray] <;> rfl
/-- xs[lo:hi] of a list: a new list -/
def rSlL (K : PySem.W.Frag) : V → Option Int → Option Int → Hp → VK → Prop := fun x lo hi H Q => ∃ a xs, x = .ref a ∧ SqL K H a xs ∧ ∀ p, H p = none → Q (.ref p) (upd H p (.lst (cutV xs lo hi)))
theorem sl_list : SlR X (rSlL X.K) := by
  intro pins s σ H x v vl vu lo hi sl Q I rx hs pl pu h
  obtain ⟨a, xs, rfl, hx, q⟩ := h
  cases rx
  obtain ⟨its, r, ht, hz⟩ := I.list hx
  have hlen := r.length
  refine ⟨"list", _, slot_list_getitem.lookup, ht.isList.typeIs, ?_⟩
  refine wpAny_getItem_list_slice ht.isList hs pl pu .none (by simp) ?_ (by rw [List.size_toArray] <;> omega)
  rw [slicePick_cut, ← hlen]
  refine ⟨.ref s.heap.objs.size, _, I.laid (t' := s.toks) (o := .lst (cutV xs lo hi)) (fun b ob q => Heap.get?_push_of_some _ q) (Nat.le_refl _) ?_, rfl, q _ (I.hok.fresh (Nat.le_refl _))⟩
  exact ⟨Nat.le_trans (cutV_length xs lo hi) hz, _, 0, (r.drop (HT.sIx xs.length 0 lo)).take (HT.sIx xs.length xs.length hi - HT.sIx xs.length 0 lo), Heap.get?_push_size _ rfl⟩

/-! ### in, not in: flat items -/
def flatV : V → Bool
  | .non => true
  | .bl _ => true
  | .int _ => true
  | .str _ => true
  | _ => false
/-- == of flat values -/
def eqV : V → V → Bool
  | .non, .non => true
  | .bl a, .bl b => a == b
  | .bl a, .int b => (if a then 1 else 0) == b
  | .int a, .bl b => a == (if b then 1 else 0)
  | .int a, .int b => a == b
  | .str a, .str b => a == b
  | _, _ => false
theorem eqAt_V {A : Around} {s : Shared} {y x : V} {u v : Value} (ry : RelV y u) (rx : RelV x v) (fy : flatV y = true) (fx : flatV x = true) : SeqAt.EqAt A s u v (eqV y x) := by
  cases y with
  | non =>
    cases ry
    cases x with
    | non => cases rx; exact SeqAt.EqAt.same _
    | bl b => cases rx; exact SeqAt.EqAt.none_bool b
    | int b => obtain ⟨t, rfl⟩ := rx; exact SeqAt.EqAt.none_int b t
    | str b => obtain ⟨t, rfl⟩ := rx; exact SeqAt.EqAt.none_str b t
    | _ => exact absurd (show false = true from fx) Bool.false_ne_true
  | bl a =>
    cases ry
    cases x with
    | non => cases rx; exact SeqAt.EqAt.bool_none a
    | bl b => cases rx; exact SeqAt.EqAt.bool_bool a b
    | int b => obtain ⟨t, rfl⟩ := rx; exact SeqAt.EqAt.bool_int a b t
    | str b => obtain ⟨t, rfl⟩ := rx; exact SeqAt.EqAt.bool_str a b t
    | _ => exact absurd (show false = true from fx) Bool.false_ne_true
  | int a =>
    obtain ⟨t', rfl⟩ := ry
    cases x with
    | non => cases rx; exact SeqAt.EqAt.int_none a t'
    | bl b => cases rx; exact SeqAt.EqAt.int_bool a t' b
    | int b => obtain ⟨t, rfl⟩ := rx; exact SeqAt.EqAt.int_int a t' b t
    | str b => obtain ⟨t, rfl⟩ := rx; exact SeqAt.EqAt.int_str a t' b t
    | _ => exact absurd (show false = true from fx) Bool.false_ne_true
  | str a =>
    obtain ⟨t', rfl⟩ := ry
    cases x with
    | non => cases rx; exact SeqAt.EqAt.str_none a t'
    | bl b => cases rx; exact SeqAt.EqAt.str_bool a t' b
    | int b => obtain ⟨t, rfl⟩ := rx; exact SeqAt.EqAt.str_int a t' b t
    | str b => obtain ⟨t, rfl⟩ := rx; exact SeqAt.EqAt.str_str a t' b t
    | _ => exact absurd (show false = true from fx) Bool.false_ne_true
  | _ => exact absurd (show false = true from fy) Bool.false_ne_true
/-! ### len, list(x), tuple(x) of any list or tuple that is read -/
theorem call_len_seq : CallR X (.builtin "len") (fun xs H Q => ∃ p ys, xs = [.ref p] ∧ (SqL X.K H p ys ∨ SqT X.K H p ys) ∧ Q (.int ys.length) H) := by
  intro pins s σ H xs us Q I r h
  obtain ⟨p, ys, rfl, hq, q⟩ := h
  obtain ⟨u, rfl, rx⟩ := vals1 r
  cases rx
  have hn := line63
  rcases hq with hq | hq
  · obtain ⟨its, r', pl, hz⟩ := I.list hq
    have hlen := r'.length
    exact Calls.call_len_list pl.isList (by simp only [List.size_toArray] <;> omega) ⟨.int ys.length, H, I.tok _, ⟨s.toks + 1, by rw [List.size_toArray, hlen]⟩, q⟩
  · obtain ⟨its, r', pl, hz⟩ := I.tuple hq
    have hlen := r'.length
    exact len_tuple pl (by simp only [List.size_toArray] <;> omega) ⟨.int ys.length, H, I.tok _, ⟨s.toks + 1, by rw [List.size_toArray, hlen]⟩, q⟩
theorem call_len_str : CallR X (.builtin "len") (fun xs H Q => ∃ z, xs = [.str z] ∧ z.length ≤ sizeLine ∧ Q (.int z.length) H) := by
  intro pins s σ H xs us Q I r h
  obtain ⟨z, rfl, hz, q⟩ := h
  obtain ⟨u, rfl, t, rfl⟩ := vals1 r
  have hn := line63
  exact len_str (by omega) ⟨.int z.length, H, I.tok _, ⟨_, rfl⟩, q⟩
theorem CallR.or {f : Value} {r r' : List V → Hp → VK → Prop} (h : CallR X f r) (h' : CallR X f r') : CallR X f (fun xs H Q => r xs H Q ∨ r' xs H Q) := by
  intro pins s σ H xs us Q I rs q
  rcases q with q | q
  · exact h pins s σ H xs us Q I rs q
  · exact h' pins s σ H xs us Q I rs q
theorem call_list_of : CallR X (.type "list") (fun xs H Q => ∃ p ys, xs = [.ref p] ∧ (SqL X.K H p ys ∨ SqT X.K H p ys) ∧ ∀ l, H l = none → Q (.ref l) (upd H l (.lst ys))) := by
  intro pins s σ H xs us Q I r h
  obtain ⟨p, ys, rfl, hq, q⟩ := h
  obtain ⟨u, rfl, rx⟩ := vals1 r
  cases rx
  have fin : ∀ (its : List Value), Vals ys its → ys.length ≤ sizeLine → ∀ (h' : Heap) (c' : Nat), (∀ b o', s.heap.get? b = some o' → h'.get? b = some o') →
      h'.get? s.heap.objs.size = some { cls := .type "list", dict := none, data := .seq its.toArray c', slots := #[] } → EP X pins σ Q (.ref s.heap.objs.size) { s with heap := h' } := fun its r' hz h' c' kp e =>
    ⟨.ref s.heap.objs.size, _, I.laid (t' := s.toks) kp (Nat.le_refl _) (show ObjOk X.prog X.w _ h' _ (.lst ys) from ⟨hz, its, c', r', e⟩), rfl, q _ (I.hok.fresh (Nat.le_refl _))⟩
  rcases hq with hq | hq
  · obtain ⟨its, r', pl, hz⟩ := I.list hq
    have hlen := r'.length
    obtain ⟨o, ho, hc, n, hd⟩ := pl.isList
    exact call_list_seq p (.inl rfl) ho hc hd (fun h' c' kp e => fin its r' hz h' c' kp e) (by simp only [List.size_toArray] <;> omega)
  · obtain ⟨its, r', pl, hz⟩ := I.tuple hq
    have hlen := r'.length
    obtain ⟨o, ho, hc, n, hd⟩ := pl
    exact call_list_seq p (.inr rfl) ho hc hd (fun h' c' kp e => fin its r' hz h' c' kp e) (by simp only [List.size_toArray] <;> omega)
/-! ### the call of a builtin's method: o.m(..) -/
/-- the value is of that builtin type -/
def tyV (K : PySem.W.Frag) (T : String) (x : V) (H : Hp) : Prop := match x with
  | .str _ => T = "str"
  | .int _ => T = "int"
  | .ref p => (T = "list" ∧ ∃ xs, SqL K H p xs) ∨ (T = "tuple" ∧ ∃ o, K.lookup p = some o ∧ o.cls = .type "tuple" ∧ o.dict = none) ∨
      (T = "dict" ∧ ((∃ kvs, H p = some (.dK kvs)) ∨ ∃ kvs, H p = some (.dT kvs))) ∨ (T = "set" ∧ ∃ S n, H p = some (.set S n))
  | _ => False
theorem tyV_is {pins : List (Addr × Obj)} {σ : St} {H : Hp} {s : Shared} {T : String} {x : V} {v : Value} (I : Inv X pins σ H s) (r : RelV x v) (ty : tyV X.K T x H) :
    s.TypeIs v T ∧ ∀ a, v = .ref a → ∃ ob, s.heap.get? a = some ob ∧ ob.dict = none := by
  cases x with
  | str z =>
    obtain ⟨t, rfl⟩ := r
    cases (show T = "str" from ty)
    exact ⟨typeIs_str s z t, fun _ e => nomatch e⟩
  | int i =>
    obtain ⟨t, rfl⟩ := r
    cases (show T = "int" from ty)
    exact ⟨typeIs_int s i t, fun _ e => nomatch e⟩
  | ref p =>
    cases r
    rcases ty with ⟨rfl, xs, hq⟩ | ⟨rfl, o, hk, hc, hd⟩ | ⟨rfl, hk⟩ | ⟨rfl, S, n, hk⟩
    · obtain ⟨its, _, pl, _⟩ := I.list hq
      refine ⟨pl.isList.typeIs, fun a e => ?_⟩
      cases e
      obtain ⟨o, n, e, c, hd, _⟩ := pl
      exact ⟨o, e, hd⟩
    · refine ⟨⟨o, I.kIn p o hk, hc⟩, fun a e => ?_⟩
      cases e
      exact ⟨o, I.kIn _ o hk, hd⟩
    · have z : ∃ o, s.heap.get? p = some o ∧ o.ExactDict := by
        rcases hk with ⟨kvs, hk⟩ | ⟨kvs, hk⟩
        · obtain ⟨_, _, _, _, o, _, _, e, ex, _⟩ := I.hok p _ hk
          exact ⟨o, e, ex⟩
        · obtain ⟨_, _, _, _, o, _, _, e, ex, _⟩ := I.hok p _ hk
          exact ⟨o, e, ex⟩
      obtain ⟨o, e, ex⟩ := z
      refine ⟨⟨o, e, ex.1⟩, fun a e2 => ?_⟩
      cases e2
      exact ⟨o, e, ex.2.1⟩
    · obtain ⟨o, _, _, _, e, ex, _⟩ := I.hok p _ hk
      refine ⟨⟨o, e, ex.1⟩, fun a e2 => ?_⟩
      cases e2
      exact ⟨o, e, ex.2.1⟩
  | _ => exact False.elim ty
def tBM (K : PySem.W.Frag) (T : String) (r : V → List V → Hp → VK → Prop) (to : TE) (t : TA) : TE := fun σ H Q => to σ H fun x H1 => tyV K T x H1 ∧ t σ H1 fun xs H2 => r x xs H2 Q
variable {o e : Expr} {es : List Expr} {to : TE} {t : TA} {name : Str} {apos cpos : Pos} {T id : String} {r : V → List V → Hp → VK → Prop}
theorem pe_bm (pa : PlainAttrs T) (slot : Slot T name id) (hty : typeOf (.builtin id) = pure (.type "method_descriptor")) (hm : MtR X id r) (ho : PE X o to) (ha : PA X (e :: es) t)
    (hbase : attributeBase o name X.env (eval o X.env) = eval o X.env := by rfl)
    (hfew : ((backTo cpos (starEach (e :: es) X.env)).all (fun x => !x.1) && (backToKw cpos (keywordEach [] X.env)).all (fun x => x.1.isSome)
      && decide ((e :: es).length + ([] : List Keyword).length + (if ([] : List Keyword).isEmpty then 0 else 1) < 30)) = true := by rfl)
    (hline : (apos.endLine == cpos.line) = true := by rfl) (hs : starEach (e :: es) X.env = (false, eval e X.env) :: starEach es X.env := by rfl) (hplain : (backTo cpos (starEach es X.env)).any (·.1) = false := by rfl) :
    PE X (.Call (.Attribute o name apos) (e :: es) [] cpos) (tBM X.K T r to t) := by
  intro pins s σ H Q I h
  refine wpAny_Call_method_late hbase hfew hline rfl (thn (ho pins s σ H _ I h) fun v s1 ⟨x, H1, I1, r1, ty, q1⟩ => ?_)
  obtain ⟨h1, h2⟩ := tyV_is I1 r1 ty
  refine ⟨T, id, pa, slot, hty, h1, h2, ?_⟩
  have hA := ha cpos pins s1 σ H1 _ I1 q1
  rw [hs] at hA ⊢
  refine Calls.callWith_builtin (by show (false || (backTo cpos (starEach es X.env)).any (·.1)) = false; rw [hplain] <;> rfl) (Calls.evalArgs_plain ?_)
  exact thn hA fun us s2 ⟨vs, H2, I2, r2, q2⟩ => hm pins s2 σ H2 x vs v us Q I2 r1 r2 q2
/- xs.append(e), list.index on a module's tuple .. are MtR facts of 06m -/
end
end L2

namespace L2
open PySem PySem.Spec PyProof.Rows

def MtM (X : Cx) (id : String) (r : V → List V → Hp → VK → Prop) : Prop :=
  ∀ (pins : List (Addr × Obj)) (s : Shared) (σ : St) (H : Hp) (x : V) (xs : List V) (v : Value) (us : List Value) (Q : VK), Inv X pins σ H s → RelV x v → Vals xs us → r x xs H Q →
    wpAny (model X.prog X.w) X.A (call (.builtin id) (v :: us)) (EP X pins σ Q) X.xe s

/-! ### lists of values -/
theorem Vals.one : ∀ {x : V} {us : List Value}, Vals [x] us → ∃ u, us = [u] ∧ RelV x u
  | _, _, .cons r .nil => ⟨_, rfl, r⟩
theorem Vals.two : ∀ {x y : V} {us : List Value}, Vals [x, y] us → ∃ u v, us = [u, v] ∧ RelV x u ∧ RelV y v
  | _, _, _, .cons r (.cons q .nil) => ⟨_, _, rfl, r, q⟩
theorem Vals.zero : ∀ {us : List Value}, Vals [] us → us = []
  | _, .nil => rfl
theorem Vals.dropLast {xs : List V} {us : List Value} (h : Vals xs us) : Vals xs.dropLast us.dropLast := by
  induction h with
  | nil => exact .nil
  | cons r t ih =>
    cases t with
    | nil => exact .nil
    | cons q t' => exact .cons r ih
theorem Vals.eraseIdx : ∀ {xs : List V} {us : List Value} (i : Nat), Vals xs us → Vals (xs.eraseIdx i) (us.eraseIdx i)
  | _, _, _, .nil => .nil
  | _, _, 0, .cons _ t => t
  | _, _, i + 1, .cons r t => .cons r (Vals.eraseIdx i t)
theorem Vals.reverse {xs : List V} {us : List Value} (h : Vals xs us) : Vals xs.reverse us.reverse := by
  induction h with
  | nil => exact .nil
  | cons r t ih => rw [List.reverse_cons, List.reverse_cons]; exact Vals.append ih (.cons r .nil)
section
variable {X : Cx} {pins : List (Addr × Obj)} {σ : St} {H : Hp} {s : Shared} {l b : Addr} {xs ys zs : List V}

/-! ### the two steps: a tracked list is rewritten, a new list is laid -/
theorem Inv.lset {its its' : List Value} {n : Nat} {f : Array Value → Array Value} {t' : Nat} (I : Inv X pins σ H s) (hH : H l = some (.lst xs))
    (e : s.heap.get? l = some { cls := .type "list", data := .seq its.toArray n }) (hf : f its.toArray = its'.toArray) (hv : Vals ys its') (hz : ys.length ≤ sizeLine) :
    Inv X pins σ (upd H l (.lst ys)) { s with heap := s.heap.update l (Obj.mapSeq f), toks := t' } := by
  have q := PySem.IsL.update e f
  rw [hf] at q
  refine I.write (x := l) (e := l) (by rw [hH]; exact trivial) (.inl rfl) (fun b' u hb hu => (Heap.get?_update_other s.heap (Obj.mapSeq f) (Ne.symm hb)).trans hu) ⟨_, q⟩ ?_
  exact ⟨hz, its', _, hv, q⟩
theorem Inv.lnew {its : List Value} {t' : Nat} (I : Inv X pins σ H s) (hv : Vals ys its) (hz : ys.length ≤ sizeLine) :
    Inv X pins σ (upd H s.heap.objs.size (.lst ys)) { s with heap := s.heap.push { cls := .type "list", data := .seq its.toArray }, toks := t' } :=
  I.laid (fun _ _ q => Heap.get?_push_of_some _ q) (Nat.le_refl _) ⟨hz, its, 0, hv, Heap.get?_push_size _ rfl⟩
theorem Inv.fresh (I : Inv X pins σ H s) : H s.heap.objs.size = none := I.hok.fresh (Nat.le_refl _)
theorem Inv.lstM (I : Inv X pins σ H s) (hH : H l = some (.lst xs)) : xs.length ≤ sizeLine ∧ ∃ (its : List Value) (n : Nat), Vals xs its ∧ xs.length = its.length ∧ s.heap.get? l = some { cls := .type "list", data := .seq its.toArray n } := by
  obtain ⟨z, its, n, r, e⟩ := I.hok l _ hH
  exact ⟨z, its, n, r, r.length, e⟩

end

section
variable {X : Cx}

/-! ### methods -/
def rAppend : V → List V → Hp → VK → Prop := fun x vs H Q => ∃ l xs y, x = .ref l ∧ vs = [y] ∧ H l = some (.lst xs) ∧ xs.length < sizeLine ∧ Q .non (upd H l (.lst (xs ++ [y])))
theorem mt_append : MtM X "list.append" rAppend := by
  intro pins s σ H x vs v us Q I rx rv h
  obtain ⟨l, xs, y, rfl, rfl, hH, hz, q⟩ := h
  cases rx
  obtain ⟨u, rfl, ru⟩ := rv.one
  obtain ⟨z, its, n, r, hl, e⟩ := I.lstM hH
  refine call_meets F.slot_list_append ⟨_, e, rfl⟩ F.entry_list_append (F.args_list_append_2 _ _) (PySem.list_append l its.toArray n u (by rw [List.size_toArray]; omega)) ⟨e, ?_⟩
  refine ⟨.non, _, I.lset (its' := its ++ [u]) hH e (by simp) (r.append (.cons ru .nil)) ?_, rfl, q⟩
  rw [List.length_append, List.length_singleton]
  omega

/-! ### list + list, list += list, list * int -/
def rCat : R2 := fun x y H Q => ∃ l b xs zs, x = .ref l ∧ y = .ref b ∧ H l = some (.lst xs) ∧ H b = some (.lst zs) ∧ xs.length + zs.length ≤ sizeLine ∧ ∀ p, H p = none → Q (.ref p) (upd H p (.lst (xs ++ zs)))
theorem op_cat : OpR X (binaryOp .Add) rCat := by
  intro pins s σ H x y v u Q I rx ry h
  obtain ⟨l, b, xs, zs, rfl, rfl, hH, hB, hz, q⟩ := h
  cases rx
  cases ry
  obtain ⟨z, its, n, r, hl, e⟩ := I.lstM hH
  obtain ⟨z2, its2, n2, r2, hl2, e2⟩ := I.lstM hB
  refine PySem.P.add_list e e2 ?_ (by rw [List.size_toArray, List.size_toArray]; omega)
  have ea : its.toArray ++ its2.toArray = (its ++ its2).toArray := by simp
  rw [ea]
  exact ⟨.ref _, _, I.lnew (t' := s.toks) (r.append r2) (by rw [List.length_append]; omega), rfl, q _ I.fresh⟩
/-! ### del xs[i] -/
end

/-! ### xs[a:b] = ys -/
section
variable {prog : Program} {w : World} {A : Around} {E : Value → Shared → Prop} {s : Shared}
end

section
variable {X : Cx}
end
end L2

namespace L2
open PySem PySem.Spec PyProof.Rows

/-! ### lists of pairs as tables -/
section
variable {κ : Type} [DecidableEq κ]
def valV (kvs : List (κ × V)) (k : κ) : Option V := (kvs.find? fun kv => decide (kv.1 = k)).map (·.2)
/-- in its place, or at the end -/
def putK (kvs : List (κ × V)) (k : κ) (v : V) : List (κ × V) :=
  if (kvs.any fun kv => decide (kv.1 = k)) = true then kvs.map (fun kv => if kv.1 = k then (kv.1, v) else kv) else kvs ++ [(k, v)]
def dropK (kvs : List (κ × V)) (k : κ) : List (κ × V) := kvs.filter fun kv => decide (kv.1 ≠ k)

theorem valV_pos {p : κ × V} {r : List (κ × V)} {k : κ} (e : p.1 = k) : valV (p :: r) k = some p.2 := by simp [valV, List.find?_cons, e]
theorem valV_neg {p : κ × V} {r : List (κ × V)} {k : κ} (e : ¬ p.1 = k) : valV (p :: r) k = valV r k := by simp [valV, List.find?_cons, e]
theorem valV_any (k : κ) : ∀ kvs : List (κ × V), (kvs.any fun kv => decide (kv.1 = k)) = (valV kvs k).isSome
  | [] => rfl
  | p :: r => by
    rw [List.any_cons]
    by_cases e : p.1 = k
    · simp only [valV_pos e, decide_eq_true e, Bool.true_or, Option.isSome_some]
    · rw [valV_neg e, decide_eq_false e, Bool.false_or]; exact valV_any k r
theorem RelO.isSome_eq {o : Option V} {u : Option Value} (r : RelO o u) : o.isSome = u.isSome := by
  cases o with
  | none => cases u with
    | none => rfl
    | some _ => exact (show False from r).elim
  | some _ => cases u with
    | none => exact (show False from r).elim
    | some _ => rfl
theorem RelO.getD {o : Option V} {u : Option Value} {d : V} {d' : Value} (r : RelO o u) (rd : RelV d d') : RelV (o.getD d) (u.getD d') := by
  cases o with
  | none => cases u with
    | none => exact rd
    | some _ => exact (show False from r).elim
  | some _ => cases u with
    | none => exact (show False from r).elim
    | some _ => exact r

/-- raw tables of the same keys -/
theorem KV.val {kvs : List (κ × V)} {vs : List (κ × Value)} (r : KV kvs vs) (k : κ) : RelO (valV kvs k) (valueAt vs k) := by
  unfold KV at r
  induction r with
  | nil => exact True.intro
  | @cons p q ps qs h t ih =>
    obtain ⟨h1, h2⟩ := h
    by_cases e : p.1 = k
    · have e' : q.1 = k := h1.symm.trans e
      have b : valueAt (q :: qs) k = some q.2 := by simp [valueAt, List.find?_cons, e']
      rw [valV_pos e, b]; exact h2
    · have e' : ¬ q.1 = k := fun z => e (h1.trans z)
      have b : valueAt (q :: qs) k = valueAt qs k := by simp [valueAt, List.find?_cons, e']
      rw [valV_neg e, b]; exact ih
theorem KV.any {kvs : List (κ × V)} {vs : List (κ × Value)} (r : KV kvs vs) (k : κ) : (kvs.any fun kv => decide (kv.1 = k)) = vs.any fun kv => decide (kv.1 = k) := by
  unfold KV at r
  induction r with
  | nil => rfl
  | cons h t ih => rw [List.any_cons, List.any_cons, ih, h.1]
theorem KV.repl {kvs : List (κ × V)} {vs : List (κ × Value)} (r : KV kvs vs) (k : κ) {y : V} {u : Value} (ry : RelV y u) :
    KV (kvs.map fun kv => if kv.1 = k then (kv.1, y) else kv) (vs.map fun kv => if kv.1 = k then (kv.1, u) else kv) := by
  unfold KV at r ⊢
  induction r with
  | nil => exact .nil
  | @cons p q ps qs h t ih =>
    rw [List.map_cons, List.map_cons]
    refine .cons ?_ ih
    obtain ⟨h1, h2⟩ := h
    by_cases e : p.1 = k
    · rw [if_pos e, if_pos (h1.symm.trans e)]; exact ⟨h1, ry⟩
    · rw [if_neg e, if_neg (fun z => e (h1.trans z))]; exact ⟨h1, h2⟩
theorem KV.put {kvs : List (κ × V)} {vs : List (κ × Value)} (r : KV kvs vs) (k : κ) {y : V} {u : Value} (ry : RelV y u) : KV (putK kvs k y) (stored vs k u) := by
  unfold putK stored
  rw [r.any k]
  by_cases e : (vs.any fun kv => decide (kv.1 = k)) = true
  · rw [if_pos e, if_pos e]; exact r.repl k ry
  · rw [if_neg e, if_neg e]; exact Paired.snoc r ⟨rfl, ry⟩
theorem KV.drop {kvs : List (κ × V)} {vs : List (κ × Value)} (r : KV kvs vs) (k : κ) : KV (dropK kvs k) (without vs k) := by
  unfold KV at r ⊢
  unfold dropK without
  induction r with
  | nil => exact .nil
  | @cons p q ps qs h t ih =>
    obtain ⟨h1, h2⟩ := h
    rw [List.filter_cons, List.filter_cons]
    by_cases e : p.1 = k
    · have a : ¬ decide (p.1 ≠ k) = true := by simp [e]
      have b : ¬ decide (q.1 ≠ k) = true := by simp [h1.symm.trans e]
      rw [if_neg a, if_neg b]; exact ih
    · have e' : ¬ q.1 = k := fun z => e (h1.trans z)
      have a : decide (p.1 ≠ k) = true := by simp [e]
      have b : decide (q.1 ≠ k) = true := by simp [e']
      rw [if_pos a, if_pos b]; exact .cons ⟨h1, h2⟩ ih
theorem KV.keys {kvs : List (κ × V)} {vs : List (κ × Value)} (r : KV kvs vs) : kvs.map (·.1) = vs.map (·.1) := by
  unfold KV at r
  induction r with
  | nil => rfl
  | cons h t ih => rw [List.map_cons, List.map_cons, ih, h.1]
theorem KV.length {kvs : List (κ × V)} {vs : List (κ × Value)} (r : KV kvs vs) : kvs.length = vs.length := Paired.length r
end


/-! ### a tracked dict, its keys ints and texts or tuples of these -/
/-- raw entries of a dict with tuple keys -/
abbrev KT (H : Hp) : List (List Key × V) → List (List Key × Addr × Value) → Prop := Paired fun p q => p.1 = q.1 ∧ H q.2.1 = some (.tup (p.1.map kV)) ∧ RelV p.2 q.2.2
theorem KT.val {H : Hp} {kvs : List (List Key × V)} {xs : List (List Key × Addr × Value)} (r : KT H kvs xs) (k : List Key) : RelO (valV kvs k) ((atKey xs k).map (·.2)) := by
  induction r with
  | nil => exact True.intro
  | @cons p q ps qs h t ih =>
    obtain ⟨h1, _, h2⟩ := h
    by_cases e : p.1 = k
    · have e' : q.1 = k := h1.symm.trans e
      have b : atKey (q :: qs) k = some q.2 := by simp [atKey, List.find?_cons, e']
      rw [valV_pos e, b]; exact h2
    · have e' : ¬ q.1 = k := fun z => e (h1.trans z)
      have b : atKey (q :: qs) k = atKey qs k := by simp [atKey, List.find?_cons, e']
      rw [valV_neg e, b]; exact ih
theorem KT.repl {H : Hp} {kvs : List (List Key × V)} {xs : List (List Key × Addr × Value)} (r : KT H kvs xs) (k : List Key) {y : V} {u : Value} (ry : RelV y u) :
    KT H (kvs.map fun kv => if kv.1 = k then (kv.1, y) else kv) (xs.map (putAt k u)) := by
  induction r with
  | nil => exact .nil
  | @cons p q ps qs h t ih =>
    rw [List.map_cons, List.map_cons]
    refine .cons ?_ ih
    obtain ⟨h1, h2, h3⟩ := h
    unfold putAt
    by_cases e : p.1 = k
    · rw [if_pos e, if_pos (h1.symm.trans e)]; exact ⟨h1, h2, ry⟩
    · rw [if_neg e, if_neg (fun z => e (h1.trans z))]; exact ⟨h1, h2, h3⟩
theorem KT.put {H : Hp} {kvs : List (List Key × V)} {xs : List (List Key × Addr × Value)} (r : KT H kvs xs) (k : List Key) {b : Addr} {y : V} {u : Value} (hb : H b = some (.tup (k.map kV))) (ry : RelV y u) :
    KT H (putK kvs k y) (storedH xs k b u) := by
  have e : (kvs.any fun kv => decide (kv.1 = k)) = (atKey xs k).isSome := by
    rw [valV_any, (r.val k).isSome_eq, Option.isSome_map]
  unfold putK storedH
  rw [e]
  by_cases q : (atKey xs k).isSome = true
  · rw [if_pos q, if_pos q]; exact r.repl k ry
  · rw [if_neg q, if_neg q]; exact Paired.snoc r ⟨rfl, hb, ry⟩
theorem KT.keeps {H H' : Hp} {kvs : List (List Key × V)} {xs : List (List Key × Addr × Value)} (r : KT H kvs xs) (ht : ∀ b ys, H b = some (.tup ys) → H' b = some (.tup ys)) : KT H' kvs xs :=
  Paired.mapP r fun _ _ z => ⟨z.1, ht _ _ z.2.1, z.2.2⟩

section
variable {P : Program} {w : World} {H : Hp} {h : Heap} {a : Addr}
end

/-- what the dict at a holds at the key y -/
def DGet (H : Hp) (a : Addr) (y : V) (r : Option V) : Prop :=
  (∃ kvs k, Rd H a (.dK kvs) ∧ y = kV k ∧ r = valV kvs k) ∨ ∃ kvs k b, Rd H a (.dT kvs) ∧ y = .ref b ∧ H b = some (.tup (k.map kV)) ∧ r = valV kvs k
/-- the heap behind a[y] = v -/
def DPut (H : Hp) (a : Addr) (y v : V) (H' : Hp) : Prop :=
  (∃ kvs k, H a = some (.dK kvs) ∧ y = kV k ∧ kvs.length < sizeLine ∧ H' = upd H a (.dK (putK kvs k v))) ∨
  ∃ kvs k b, H a = some (.dT kvs) ∧ y = .ref b ∧ H b = some (.tup (k.map kV)) ∧ kvs.length < sizeLine ∧ H' = upd H a (.dT (putK kvs k v))
theorem DGet.k {H : Hp} {a : Addr} {kvs : List (Key × V)} {k : Key} (e : H a = some (.dK kvs)) : DGet H a (kV k) (valV kvs k) := .inl ⟨kvs, k, .inl e, rfl, rfl⟩
theorem DGet.t {H : Hp} {a b : Addr} {kvs : List (List Key × V)} {k : List Key} (e : H a = some (.dT kvs)) (eb : H b = some (.tup (k.map kV))) : DGet H a (.ref b) (valV kvs k) := .inr ⟨kvs, k, b, .inl e, rfl, eb, rfl⟩
theorem DPut.k {H : Hp} {a : Addr} {kvs : List (Key × V)} {k : Key} {v : V} (e : H a = some (.dK kvs)) (hl : kvs.length < sizeLine) : DPut H a (kV k) v (upd H a (.dK (putK kvs k v))) := .inl ⟨kvs, k, e, rfl, hl, rfl⟩
theorem DPut.t {H : Hp} {a b : Addr} {kvs : List (List Key × V)} {k : List Key} {v : V} (e : H a = some (.dT kvs)) (eb : H b = some (.tup (k.map kV))) (hl : kvs.length < sizeLine) :
    DPut H a (.ref b) v (upd H a (.dT (putK kvs k v))) := .inr ⟨kvs, k, b, e, rfl, eb, hl, rfl⟩


section
variable {X : Cx} {pins : List (Addr × Obj)} {σ : St} {H : Hp} {s : Shared} {a : Addr} {y v : V} {u r : Value} {o : Option V} {A : Around} {E : Value → Shared → Prop}

end

section
variable {X : Cx} {pins : List (Addr × Obj)} {σ : St} {H : Hp} {s : Shared} {a : Addr} {kvs : List (Key × V)} {k : Key} {u : Value} {A : Around} {E : Value → Shared → Prop}
end


/-! ### readings and rules -/
section
variable {X : Cx} {o i e value : Expr} {pos pos' tpos : Pos} {td ty tv : TE}
end


/-! ### displays -/
section
variable {X : Cx} {pos : Pos}
end

abbrev VV : List (V × V) → List (Value × Value) → Prop := Paired fun p q => RelV p.1 q.1 ∧ RelV p.2 q.2
def mergeK (kvs more : List (Key × V)) : List (Key × V) := more.foldl (fun acc kv => putK acc kv.1 kv.2) kvs
theorem KV.merge : ∀ {more : List (Key × V)} {rs : List (Key × Value)} {kvs : List (Key × V)} {vs : List (Key × Value)}, KV more rs → KV kvs vs → KV (mergeK kvs more) (merged vs rs) := by
  intro more rs kvs vs r
  unfold KV at r
  induction r generalizing kvs vs with
  | nil => intro q; exact q
  | @cons p q ps qs h t ih =>
    intro r0
    have e : KV (putK kvs p.1 p.2) (stored vs q.1 q.2) := by
      have := r0.put p.1 h.2
      rw [← h.1]; exact this
    exact ih e
/-! ### methods -/
/-- a method call o.m(e) of a built-in, with one argument: what must be seen of the text -/
structure M1 (X : Cx) (o : Expr) (m : Str) (apos : Pos) (e : Expr) (cpos : Pos) : Prop where
  base : attributeBase o m X.env (eval o X.env) = eval o X.env
  few : ((backTo cpos (starEach [e] X.env)).all (fun x => !x.1) && (backToKw cpos (keywordEach [] X.env)).all (fun x => x.1.isSome)
    && decide (([e] : List Expr).length + ([] : List Keyword).length + (if ([] : List Keyword).isEmpty then 0 else 1) < 30)) = true
  line : (apos.endLine == cpos.line) = true
  trees : backTo cpos (starEach [e] X.env) = [(false, eval e X.env)]
structure M2 (X : Cx) (o : Expr) (m : Str) (apos : Pos) (e f : Expr) (cpos : Pos) : Prop where
  base : attributeBase o m X.env (eval o X.env) = eval o X.env
  few : ((backTo cpos (starEach [e, f] X.env)).all (fun x => !x.1) && (backToKw cpos (keywordEach [] X.env)).all (fun x => x.1.isSome)
    && decide (([e, f] : List Expr).length + ([] : List Keyword).length + (if ([] : List Keyword).isEmpty then 0 else 1) < 30)) = true
  line : (apos.endLine == cpos.line) = true
  trees : backTo cpos (starEach [e, f] X.env) = [(false, eval e X.env), (false, eval f X.env)]

section
variable {X : Cx} {pins : List (Addr × Obj)} {σ : St} {H : Hp} {s : Shared} {a : Addr} {y d : V} {u r : Value} {o : Option V} {A : Around} {E : Value → Shared → Prop}
end

section
variable {X : Cx} {o e f : Expr} {apos cpos : Pos} {td ty tx : TE}
end

/-! ### dict(d): a copy -/
section
variable {X : Cx} {pins : List (Addr × Obj)} {σ : St} {H : Hp} {s : Shared} {a : Addr} {kvs : List (Key × V)} {A : Around} {E : Value → Shared → Prop}
end


section
variable {X : Cx} {pins : List (Addr × Obj)} {σ : St} {H : Hp} {s : Shared} {a : Addr} {y : V} {u : Value} {A : Around} {E : Value → Shared → Prop}
end
end L2

namespace Att
open PySem PySem.W PySem.Calls PyProof.Rows

/-! ### the script -/
theorem ints_of_wellAll {P : Params} {h : Heap} : ∀ (ns : List Int) (vs : List Value), WellAll P h vs (ns.map WData.int) → IntsAre vs ns := by
  intro ns
  induction ns with
  | nil =>
    intro vs w
    rw [List.map_nil] at w
    cases w
    exact .nil
  | cons n ns ih =>
    intro vs w
    rw [List.map_cons] at w
    cases w with
    | cons a b =>
      cases a
      exact .cons _ _ (ih _ b)

theorem script_of {l : OpenLaw} {n : Nat} (hn : l.most = some n) {P : Params} {h : Heap} {args : List WData} {vals : List Value}
    (hpre : l.row.toRowW.claim.pre args = true) (hwl : WellAll P h vals args) :
    ∃ a vs ns, vals = [Value.ref a] ∧ args = [WData.list (ns.map WData.int)] ∧ h.get? a = some { cls := .type "list", data := .seq vs.toArray } ∧ IntsAre vs ns ∧ ns.length ≤ n := by
  have hsh : WShape.hasAll [] args [.list .int] = true := (pre_splitW hpre).1
  have hc : l.pre.holds [] { args := args } = true := (pre_splitW hpre).2
  obtain ⟨d, r, rfl, h1, h2⟩ := hasAllW_cons hsh
  obtain rfl := hasAllW_nil h2
  obtain ⟨xs, rfl, h3⟩ := hasW_list h1
  obtain ⟨ns, rfl⟩ := items_int h3
  have hlen : ns.length ≤ n := by
    unfold OpenLaw.pre at hc
    have h4 : (WTm.not (.lt (.lit (.int (n : Int))) (.len (.arg 0)))).holds [] { args := [.list (ns.map .int)] } = true := by
      have h4 := (holds_andW hc).1
      rw [hn] at h4
      exact h4
    have h5 := condW_of h4 (w_not (w_lt w_lit (w_len_list (w_arg rfl))))
    rw [List.length_map] at h5
    refine Nat.le_of_not_lt fun q => ?_
    have q' : (n : Int) < ((ns.length : Nat) : Int) := by omega
    first
      | (rw [decide_eq_true q'] at h5; exact absurd h5 (by decide))
      | (simp at h5; omega)
  cases hwl with
  | cons w1 w2 =>
    cases w2
    cases w1 with
    | list ho hall => exact ⟨_, _, ns, rfl, rfl, ho, ints_of_wellAll ns _ hall, hlen⟩

theorem post_true (l : OpenLaw) (args : List WData) : l.row.toRowW.claim.post args (.bool true) args = true :=
  postW_of (r := l.row.toRowW) (X := (true == true))
    (show WShape.has [] (.bool true) .bool = true by first | rfl | decide | simp [WShape.has, WShape.arms, WShape.armsAll])
    (show (WTm.eq .res (.lit (.bool true))).value [] { args := args, res := some (.bool true), after := args } = some (.bool (true == true)) from w_eq_bool (w_res rfl) w_lit) rfl

/-! ### the attachment: holds_open's last premise (the goal 'hc' behind k_head) from a wpAny of the law's body -/
/-- the same from a codeAny of the CALL (for a layer whose function contracts speak of calls) -/
theorem attach_call {l : OpenLaw} {n : Nat} {q : Program} {loose : List Str} {XP : (Str → Option Value) → Heap → Prop} {YP : World → Heap → Prop} {d : DefRec}
    (hn : l.most = some n) (hdf : d.params.defaults = [])
    (call : ∀ (w : World) (s₀ s₁ : Shared) (mg mb : Str → Option Value) (fa : Addr) (o : Obj) (pm cd doc : Value) (a : Addr) (vs : List Value) (ns : List Int),
      Ground q loose [] XP w s₀ mg mb s₁.heap → YP w s₁.heap →
      s₁.heap.get? fa = some o → o.data = .func (docDef d.name d.params d.body d.scope pm cd doc) → s₁.heap.CodeRec cd d.name → mg d.name = some (.ref fa) →
      s₁.heap.get? a = some { cls := .type "list", data := .seq vs.toArray } → IntsAre vs ns → ns.length ≤ n → s₁.gens = #[] →
      codeAny (model l.prog w) callerA (.call (.ref fa) ⟨[.ref a], []⟩) (fun r s' => r = .ok (.ret (.bool true)) ∧ OldK s₁.heap s'.heap ∧ s'.os = s₁.os ∧ AllBare s'.gens) s₁) :
    WalkO q loose XP YP l.row.toRowW d [] (fun f vs => PySem.call f vs) := by
  intro w s₀ s₁ mg mb G Y fa o pm cd doc dV kV ho hd hcd hD hmg hg args vals as hpre hlay hrd hwl hlo
  obtain rfl : dV = .none := Dflts.none hD hdf
  obtain rfl : kV = .none := Dflts.noKw hD
  obtain ⟨a, vs, ns, rfl, rfl, hobj, hints, hlen⟩ := script_of hn hpre hwl
  refine enter_call (codeAny_mono (call w s₀ s₁ mg mb fa o pm cd doc a vs ns G Y ho (fd_plain hd) hcd hmg hobj hints hlen hg) fun r s' hq => ?_)
  obtain ⟨rfl, h2, h3, h4⟩ := hq
  exact ⟨.inl ⟨.bool true, .bool true, [], rfl, fun _ => rfl, .bool true, post_true l _, fun _ => ⟨List.Pairwise.nil, fun _ hm => (nomatch hm)⟩⟩, h2, h3, h4⟩

/-! ### rules over ANY heap (no ledger) from facts about the written part K: the library's own take a ledger (News) for what they write -/
section
variable {prog : Program} {w : World} {A : Around} {E : Value → Shared → Prop} {s : Shared} {K : Frag}

/-! the whole heap as the ledger: makes every rule that writes through a ledger a rule over any heap -/
def ledger (h : Heap) (L d : Addr) : List (Addr × Obj) := (List.range h.objs.size).filterMap fun a => if a = L ∨ a = d then none else (h.get? a).map fun o => (a, o)
end
end Att

namespace L2
open PySem PySem.Spec PyProof.Rows

theorem vals_ints : ∀ {vs : List Value} {ns : List Int}, IntsAre vs ns → Vals (ns.map V.int) vs
  | _, _, .nil => .nil
  | _, _, .cons n t h => .cons ⟨t, rfl⟩ (vals_ints h)

/-- nothing is tracked but the script, known to the object (or it is an object of the module) -/
def Only (H : Hp) : Prop := ∀ b, H b = none ∨ ∃ o xs, H b = some (.frz o (.lst xs))

/-- THE HEAD: the law's promise, at the heap behind the top. F, the promise of the law's def, may use that base is part of the heap (so K.In base, base.Ns mainGlobals mg stand in Mod) -/
theorem law_call {P : Program} {w : World} {K : PySem.W.Frag} {mg mb : Str → Option Value} {CX : CXT} {k : Nat} {fa a : Addr} {fd : FuncData} {x : Str} {sp : Sp} {s₁ : Shared} {vs : List Value} {ns : List Int}
    (KX : K.In s₁.heap) (hns : s₁.heap.Ns mainGlobals mg) (hb : s₁.heap.Ns builtinsNs mb) (hbb : ∀ x : Str, x ≠ "__name__" → mb x = bootBuiltins x) (hlim : s₁.heap.NoLimit) (hg : s₁.gens = #[])
    (ha : s₁.heap.get? a = some { cls := .type "list", data := .seq vs.toArray }) (hi : IntsAre vs ns) (hl : ns.length ≤ sizeLine) (hr : Room k callerA)
    (F : ∀ base : Heap, K.In base → base.Ns mainGlobals mg → FnOk P w K mg base CX k fa fd [x] sp) (hbind : ∀ (s : Shared) (u : Value), BindsTo s fd ⟨[u], []⟩ [(x, u)])
    (hsp : ∀ H : Hp, Only H → SqL K H a (ns.map V.int) → sp [.ref a] H (fun v _ => v = .bl true) fun _ _ _ => False)
    (hCX : ∀ H e s', CX [] H s₁ (fun _ _ _ => False) e s' → False) :
    codeAny (model P w) callerA (.call (.ref fa) ⟨[.ref a], []⟩) (fun r s' => r = .ok (.ret (.bool true)) ∧ OldK s₁.heap s'.heap ∧ s'.os = s₁.os ∧ AllBare s'.gens) s₁ := by
  have rv := vals_ints hi
  have lenV := hi.length
  -- from an abstract heap in which nothing but the script may be tracked
  have core : ∀ H : Hp, Only H → SqL K H a (ns.map V.int) → HOk P w H s₁.heap → (∀ b, H b ≠ none → b = a) → (H a ≠ none → K.lookup a = none) →
      codeAny (model P w) callerA (.call (.ref fa) ⟨[.ref a], []⟩) (fun r s' => r = .ok (.ret (.bool true)) ∧ OldK s₁.heap s'.heap ∧ s'.os = s₁.os ∧ AllBare s'.gens) s₁ := by
    intro H hO hS hok hA hK
    have base_of : ∀ {b : Addr} {o : Obj}, s₁.heap.get? b = some o → H b = none → (hidT s₁.heap H).get? b = some o := fun e n => hidT_get e n
    have noA : ∀ {b : Addr} {o : Obj} {es : Array DictEntry} {ep : Nat}, s₁.heap.get? b = some o → o.data = .dict es ep → H b = none := fun {b o es ep} e d => by
      cases q : H b with
      | none => rfl
      | some u =>
        have e' : b = a := hA b (by rw [q]; simp)
        subst e'
        rw [ha] at e; cases e
        have d' : Data.seq vs.toArray _ = Data.dict es ep := d
        cases d'
    have nsK : ∀ {b : Addr} {m : Str → Option Value}, s₁.heap.Ns b m → (hidT s₁.heap H).Ns b m := fun {b m} ⟨o, es, ep, e, d, r⟩ => ⟨o, es, ep, base_of e (noA e d), d, r⟩
    have hKb : K.In (hidT s₁.heap H) := fun b o e => base_of (KX b o e) (by
      cases q : H b with
      | none => rfl
      | some u =>
        have e' : b = a := hA b (by rw [q]; simp)
        subst e'
        rw [hK (by rw [q]; simp)] at e; cases e)
    have hM : Mod K mg (hidT s₁.heap H) := ⟨hKb, nsK hns, ⟨mb, nsK hb, hbb⟩, let ⟨mc, h1, h2⟩ := hlim; ⟨mc, nsK h1, h2⟩⟩
    have e0 : Env0 P w K mg (hidT s₁.heap H) callerA [] s₁ H := ⟨rfl, hM, fun b o e => of_hidT e, Nat.le_of_eq (hidT_size _ _), trivial, fun b hb => absurd (show b ∈ ([] : List Addr) from hb) (by simp), hok, .of_eq hg⟩
    refine codeAny_mono ((F _ hKb (nsK hns)).run callerA [] s₁ H ⟨[.ref a], []⟩ [.ref a] [.ref a] _ _ hr e0 (hbind s₁ (.ref a)) (.cons rfl .nil) (hsp H hO hS)) fun r s' h => ?_
    cases r with
    | error e => exact (hCX H e s' h).elim
    | ok fl =>
      cases fl with
      | next => exact False.elim h
      | brk => exact False.elim h
      | cont => exact False.elim h
      | ret u =>
        obtain ⟨v, H', os, bare, un, hok', r', q⟩ := h
        have q' : v = .bl true := q
        subst q'
        obtain rfl : u = Value.bool true := r'
        refine ⟨rfl, OldK.of_keep fun b o e => ?_, os, bare⟩
        cases q : H b with
        | none => exact un.keep b o e q (by intro z; exact absurd (show b ∈ ([] : List Addr) from z) (by simp)) (by simp)
        | some u =>
          rcases hO b with z | ⟨ob, xs, z⟩
          · rw [q] at z; cases z
          · have z2 := un.frzs b ob _ z
            obtain ⟨e1, _⟩ := hok b _ z
            obtain ⟨e2, _⟩ := hok' b _ z2
            rw [e] at e1; cases e1
            exact e2
  cases hk : K.lookup a with
  | some o =>
    -- the script is one of the module's own objects
    have e := KX a o hk
    rw [ha] at e
    cases e
    refine core (fun _ => none) (fun _ => .inl rfl) (.inr ⟨_, vs.toArray, _, hk, rfl, rfl, rfl, by rw [List.size_toArray, lenV]; exact hl, by simpa using rv⟩) (fun b u z => by have z' : (none : Option HO) = some u := z; cases z') (fun b z => absurd rfl z) fun z => absurd rfl z
  | none =>
    refine core (fun b => if b = a then some (.frz { cls := .type "list", data := .seq vs.toArray } (.lst (ns.map V.int))) else none) (fun b => ?_) (.inl (.inr ⟨{ cls := .type "list", data := .seq vs.toArray }, if_pos rfl⟩)) (fun b u z => ?_) (fun b z => ?_) fun _ => hk
    · by_cases hb : b = a
      · exact .inr ⟨_, _, if_pos hb⟩
      · exact .inl (if_neg hb)
    · by_cases hb : b = a
      · have z' := (if_pos hb).symm.trans z
        cases z'
        subst hb
        exact ⟨ha, by rw [List.length_map]; exact hl, vs, _, rv, ha⟩
      · have z' := (if_neg hb).symm.trans z
        cases z'
    · by_cases hb : b = a
      · exact hb
      · exact absurd (if_neg hb) z
end L2

namespace L2
open PySem PySem.Spec PyProof.Rows

abbrev KOf {K : PySem.W.Frag} {h : Heap} (_ : K.In h) : PySem.W.Frag := K

/-- the goal that k_head leaves (case hc), from the law's promise. F gives the function object fd (K's own) once, then the promise over every base -/
theorem walk_of {l : PySem.W.OpenLaw} {n k : Nat} {q : Program} {loose : List Str} {XP : (Str → Option Value) → Heap → Prop} {YP : World → Heap → Prop} {d : DefRec} {K : Params → PySem.W.Frag} {CX : World → CXT} {sp : World → Sp} {x : Str}
    (hn : l.most = some n) (hn2 : n ≤ sizeLine) (hdf : d.params.defaults = []) (hr : Room k callerA)
    (hY : ∀ (w : World) (h : Heap), YP w h → (K w.params).In h)
    (F : ∀ (w : World) (mg : Str → Option Value) (fa : Addr) (h : Heap), (K w.params).In h → h.Ns mainGlobals mg → mg d.name = some (.ref fa) →
      ∃ fd : FuncData, (∀ (s : Shared) (u : Value), BindsTo s fd ⟨[u], []⟩ [(x, u)]) ∧
        ∀ base : Heap, (K w.params).In base → base.Ns mainGlobals mg → FnOk l.prog w (K w.params) mg base (CX w) k fa fd [x] (sp w))
    (hsp : ∀ (w : World) (H : Hp) (a : Addr) (ns : List Int), ns.length ≤ n → Only H → SqL (K w.params) H a (ns.map V.int) → sp w [.ref a] H (fun v _ => v = .bl true) fun _ _ _ => False)
    (hCX : ∀ (w : World) (H : Hp) (s : Shared) (e : Value) (s' : Shared), CX w [] H s (fun _ _ _ => False) e s' → False) :
    PySem.W.WalkO q loose XP YP l.row.toRowW d [] (fun f vs => PySem.call f vs) := by
  refine Att.attach_call hn hdf fun w s₀ s₁ mg mb fa o pm cd doc a vs ns G Y ho hd hcd hmg hobj hints hlen hg => ?_
  have KX := hY w _ Y
  obtain ⟨fd, hb, hF⟩ := F w mg fa _ KX G.T.g hmg
  exact law_call KX G.T.g G.T.b G.T.builtins G.T.nolimit hg hobj hints (Nat.le_trans hlen hn2) hr hF hb (fun H hO hS => hsp w H a ns hlen hO hS) fun H e s' => hCX w H s₁ e s'
end L2

/- THE LAST THEOREM (shape; LID, My.* are yours):
   My.Adr: a structure of the addresses that your layer names (classes, functions); My.Txt K t: a structure (Prop) of the equations over K;
   My.txt_mk : {K} {implicit addresses ..} (e1 : nsIn K mainGlobals "law" = some (some (.ref f))) (e2 : K.lookup f = some ⟨oc, od, .func (fnOf "law" "law" params body scope dV kV doc pm an cdv ct), sl⟩) (e3 : codeIn K cdv "law" = true) .. : ∃ t, My.Txt K t

set_option maxRecDepth 100000 in
set_option maxHeartbeats 0 in
theorem PySem.Challenge.cw_LID_holds : PySem.Challenge.rw_LID.Holds := by
  w_on; o_law; k_head; (case hw => w_witness2)
  k_fill
  refine L2.walk_of (l := PySem.Challenge.rw_LID) (n := 63) (k := 40) (x := "script") (CX := fun w => ..) (sp := fun _ => My.sp_law) rfl (by decide) rfl ⟨rfl, by decide, by decide⟩ (fun w h Y => PySem.W.kIn_of Y) ?F ?S ?C
  case F =>
    intro w mg fa h KX G hmg
    have T : ∃ t, My.Txt (L2.KOf KX) t := by
      dsimp only [L2.KOf]                          -- K must stand as «<heap const> w.params» for k_is
      refine' My.txt_mk ?e1 ?e2 ?e3 ..
      (case e1 => PySem.W.k_is)                    -- in the order: a name -> its address -> its object -> its parts
      (case e2 => PySem.W.k_is)
      ..
    obtain ⟨t, T⟩ := T
    have e0 := hmg.symm.trans (PySem.W.mg_of KX G T.law)
    cases e0                                       -- fa is the law's own address
    exact ⟨_, fun s u => .of_eq rfl, fun base kb nb => My.law_fn T kb nb⟩     -- if «.of_eq rfl» comes too early: refine' ⟨_, ?b, fun base kb nb => My.law_fn T kb nb⟩; exact fun s u => .of_eq rfl
  case S => exact fun w H a ns hl hO hS => ..
  case C => exact ..
(the tactic k_is has no namespace: write k_is) -/

/-! SHORT WORDS over the layer: a def of the text, its body, what a loop and a test want. -/
namespace L2
open PySem PySem.Spec PyProof.Rows

/-! ### the text by places -/
def defArgs (s : Stmt) : Arguments := match s with
  | .FunctionDef _ a _ _ _ _ _ _ _ _ => a
  | _ => { posonlyargs := [], args := [], vararg := none, kwonlyargs := [], kw_defaults := [], kwarg := none, defaults := [] }
def defBody (s : Stmt) : List Stmt := match s with
  | .FunctionDef _ _ b _ _ _ _ _ _ _ => b
  | _ => []
def defScope (s : Stmt) : Scope := match s with
  | .FunctionDef _ _ _ _ _ _ sc _ _ _ => sc
  | _ => { kind := .function, names := [], isGenerator := false, isCoroutine := false }

/-! ### no exception leaves a def -/
abbrev CX0 : CXT := fun _ _ _ _ _ _ => False
abbrev E0 : XK := fun _ _ _ => False
theorem pass0 {X : Cx} : Passes CX0 X E0 := fun _ _ _ _ _ _ _ h => h.elim

/-! ### a def (or method) of the text as it stands behind the top -/
structure Fun (K : PySem.W.Frag) (x qual : Str) (st : Stmt) (f : Addr) (fd : FuncData) : Prop where
  ex : ∃ (oc : Value) (od : Option Addr) (kV doc pm : Value) (an : Option Addr) (cdv ct : Value) (osl : Array (Option Value)),
    fd = PySem.W.fnOf x qual (defArgs st) (defBody st) (defScope st) .none kV doc pm an cdv ct ∧ K.lookup f = some ⟨oc, od, .func fd, osl⟩ ∧ PySem.W.codeIn K cdv qual = true
  kp : PySem.W.keepIn K (.ref f) = true
section
variable {P : Program} {w : World} {K : PySem.W.Frag} {mg : Str → Option Value} {base : Heap}
/-- THE RULE for a def: its body as a term of rules, and the reading of that term -/
theorem Fun.ok {x qual : Str} {st : Stmt} {f : Addr} {fd : FuncData} {N ps : List Str} {k : Nat} {sp : Sp} (F : Fun K x qual st f fd) (S : FnScope N ps (defScope st)) (len : ∀ vs H Q E, sp vs H Q E → vs.length = ps.length)
    (hbody : ∀ (cdv : Value) (A : Around) (outer : List Env) (s : Shared) (H : Hp) (vs : List V) (Q : VK) (E : XK), Room k (A.deeper (envOfC qual (defScope st) s.heap.objs.size f cdv)) → sp vs H Q E →
      ∃ t, PSs (cxOf CX0 P w K mg base N qual (defScope st) f cdv A outer s H E).nox (defBody st) t ∧ t { nx := fun _ H' => Q .non H', rt := Q } (start N vs) H) : FnOk P w K mg base CX0 (k + 1) f fd ps sp := by
  obtain ⟨oc, od, kV, doc, pm, an, cdv, ct, osl, rfl, lk, hcd⟩ := F.ex
  refine fn_of lk hcd S len fun A outer s H vs Q E hr hsp => ?_
  obtain ⟨t, h, q⟩ := hbody cdv A outer s H vs Q E hr hsp
  exact ⟨t, h.nox, q⟩
/-- how its arguments bind (no defaults): h is «fun _ _ _ _ _ _ us hl => match us, hl with | [_, _], _ => rfl», one _ a parameter -/
theorem Fun.binds {x qual : Str} {st : Stmt} {f : Addr} {fd : FuncData} {ps : List Str} (F : Fun K x qual st f fd)
    (h : ∀ (kV doc pm : Value) (an : Option Addr) (cdv ct : Value) (us : List Value), us.length = ps.length → bindArgs (PySem.W.fnOf x qual (defArgs st) (defBody st) (defScope st) .none kV doc pm an cdv ct) ⟨us, []⟩ = pure (ps.zip us)) : Binds K fd ps [] := by
  obtain ⟨oc, od, kV, doc, pm, an, cdv, ct, osl, rfl, lk, hcd⟩ := F.ex
  exact .all (h kV doc pm an cdv ct)
theorem fun_mk {x qual : Str} {st : Stmt} {f : Addr} {oc : Value} {od an : Option Addr} {osl : Array (Option Value)} {kV doc pm cdv ct : Value} (l : K.lookup f = some ⟨oc, od, .func (PySem.W.fnOf x qual (defArgs st) (defBody st) (defScope st) .none kV doc pm an cdv ct), osl⟩)
    (c : PySem.W.codeIn K cdv qual = true) (k : PySem.W.keepIn K (.ref f) = true) : Fun K x qual st f (PySem.W.fnOf x qual (defArgs st) (defBody st) (defScope st) .none kV doc pm an cdv ct) := ⟨⟨oc, od, kV, doc, pm, an, cdv, ct, osl, rfl, l, c⟩, k⟩
end
theorem hu_of {A : Around} {k : Nat} (hr : Room k A) : A.units + 1 < cLine := Nat.lt_of_le_of_lt (Nat.add_le_add_left (by decide : 1 ≤ 64) _) hr.units
theorem small1000 {n : Nat} (h : n ≤ 1000) : n < sizeLine := Nat.lt_of_le_of_lt h (by decide)

/-! ### expressions in short: the name that stands in the i-th slot -/
section
variable {X : Cx}
theorem pv (i : Nat) {x : Str} {pos : Pos} (hN : X.N[i]? = some x := by rfl) (hv : Vis X.env.scope x := by first | exact Or.inl rfl | exact Or.inr (Or.inl rfl) | exact Or.inr (Or.inr rfl)) (hd : (x == ("__debug__" : Str)) = false := by decide)
    (hcd : (x == ("__classdict__" : Str)) = false := by decide) : PE X (.Name x pos) (tVar i) := pe_var hN hv hd hcd
end

/-! ### tests -/
theorem iteF {A B : Prop} (h : B) : if false = true then A else B := by
  rw [if_neg Bool.false_ne_true]
  exact h
theorem iteT {A B : Prop} (h : A) : if true = true then A else B := by
  rw [if_pos rfl]
  exact h
theorem ite2 {c A B : Prop} [Decidable c] (h1 : c → A) (h2 : ¬ c → B) : if c then A else B := by
  by_cases h : c
  · rw [if_pos h]
    exact h1 h
  · rw [if_neg h]
    exact h2 h
theorem iteNS {c A B : Prop} [Decidable c] (hc : c) (h : B) : if (!decide c) = true then A else B := by
  rw [decide_eq_true hc]
  exact iteF h

/-! ### heaps -/
/-- all that was tracked is as it was -/
def Same (H H' : Hp) : Prop := ∀ b o, H b = some o → H' b = some o
theorem Same.refl (H : Hp) : Same H H := fun _ _ h => h
theorem Same.trans {H H1 H2 : Hp} (a : Same H H1) (b : Same H1 H2) : Same H H2 := fun c o h => b c o (a c o h)
theorem Same.free {H H' : Hp} (e : Same H H') {l : Addr} (h : H' l = Option.none) : H l = Option.none := by
  cases q : H l with
  | none => rfl
  | some o =>
    rw [e l o q] at h
    cases h
theorem Same.seq {K : PySem.W.Frag} {H H' : Hp} {a : Addr} {xs : List V} (e : Same H H') (h : SqL K H a xs) : SqL K H' a xs := by
  rcases h with (h | ⟨o, h⟩) | h
  · exact .inl (.inl (e _ _ h))
  · exact .inl (.inr ⟨o, e _ _ h⟩)
  · exact .inr h

section
variable {X : Cx}
end

/-! ### a dict's pairs: keys that differ -/
section
variable {κ : Type} [DecidableEq κ]
end
end L2


set_option Elab.async false
set_option linter.all false
set_option maxRecDepth 100000
set_option maxHeartbeats 4000000
/-! A list comprehension of one clause: its block as a context of the layer. -/
namespace L2
open PySem PySem.Spec PyProof.Rows

/-- the context in which a comprehension's block runs -/
def lcx (X : Cx) (sc : Scope) (N : List Str) (cl : List (Str × Addr)) (C : Addr) (fp : List Addr) (s : Shared) (H : Hp) : Cx :=
  { prog := X.prog, w := X.w, K := X.K, mg := X.mg, base := X.base, A := X.A, N := N, s₀ := s, H₀ := H, env := compEnvC sc cl C X.env,
    outer := X.stack, stack := X.stack, ex := fp, fn := fun x => sc.names.lookup x == some .cell, calm := X.calm, pn := [], xe := fun _ _ => False }

/-- its slots: its own names (unbound), then the captured ones, by their places outside -/
def lcSt (own : List Str) (ix : List Nat) (σ : St) : St := own.map (fun _ => none) ++ ix.map fun i => σ.getD i none

structure LcOk (X : Cx) (sc : Scope) (N own : List Str) (ix : List Nat) : Prop where
  kind : sc.kind = .function
  cellN : ∀ y ∈ sc.names, y.2 = .cell → sc.names.lookup y.1 = some .cell
  names : ∀ y ∈ sc.names, y.2 = .local → sc.names.lookup y.1 = some .local
  free : ∀ y ∈ sc.names, y.2 = .free → X.env.kindOf y.1 = some .cell ∨ X.env.kindOf y.1 = some .free
  NN : N = own ++ ix.map fun i => X.N.getD i ""
  cap : ∀ i ∈ ix, sc.names.lookup (X.N.getD i "") = some .free

theorem lookup_relabel (sc : Scope) (env : Env) (x : Str) : (relabel sc env).names.lookup x =
    (sc.names.lookup x).map fun k => if (k == .free && env.scope.kind == .function && env.kindOf x == some .cell) then .cell else k := by
  unfold relabel
  dsimp only
  generalize sc.names = ns
  induction ns with
  | nil => rfl
  | cons p r ih =>
    obtain ⟨n, k⟩ := p
    rw [List.map_cons]
    by_cases hx : (x == n) = true
    · have e : x = n := by simpa using hx
      subst e
      by_cases hc : (k == NameKind.free && env.scope.kind == .function && env.kindOf x == some .cell) = true
      · rw [if_pos hc]; simp only [List.lookup_cons, hx]; rw [Option.map_some, if_pos hc]
      · rw [if_neg hc]; simp only [List.lookup_cons, hx]; rw [Option.map_some, if_neg hc]
    · have hx' : (x == n) = false := by simpa using hx
      by_cases hc : (k == NameKind.free && env.scope.kind == .function && env.kindOf n == some .cell) = true
      · rw [if_pos hc]; simp only [List.lookup_cons, hx']; exact ih
      · rw [if_neg hc]; simp only [List.lookup_cons, hx']; exact ih

theorem mem_of_lookup {α β : Type} [BEq α] [LawfulBEq α] {x : α} {v : β} : ∀ {l : List (α × β)}, l.lookup x = some v → (x, v) ∈ l
  | [], h => by simp at h
  | (a, b) :: r, h => by
    by_cases e : (x == a) = true
    · simp only [List.lookup_cons, e] at h
      cases h
      have e : x = a := by simpa using e
      subst e
      exact List.mem_cons_self
    · have e' : (x == a) = false := by simpa using e
      simp only [List.lookup_cons, e'] at h
      exact List.mem_cons_of_mem _ (mem_of_lookup h)

theorem clos_go {env : Env} : ∀ (ns : List (Str × NameKind)) (acc : List (Str × Addr)), (∀ x ∈ ns, x.2 = .free → ∃ c, env.cells.lookup x.1 = some c) → (∀ n c, acc.lookup n = some c → env.cells.lookup n = some c) →
    ∃ cl, (forIn ns acc fun (x : Str × NameKind) (r : List (Str × Addr)) => if (x.2 == NameKind.free) = true then (cellOf env x.1 >>= fun c => (pure (ForInStep.yield ((x.1, c) :: r)) : Sem _)) else (pure (ForInStep.yield r) : Sem _)) = (pure cl : Sem _) ∧
      (∀ n c, cl.lookup n = some c → env.cells.lookup n = some c) ∧ (∀ n c, acc.lookup n = some c → ∃ c', cl.lookup n = some c') ∧ ∀ x ∈ ns, x.2 = .free → ∃ c, cl.lookup x.1 = some c := by
  intro ns
  induction ns with
  | nil => intro acc _ ha; exact ⟨acc, by rw [List.forIn_nil], ha, fun n c e => ⟨c, e⟩, fun _ h => by simp at h⟩
  | cons p r ih =>
    intro acc hn ha
    rw [List.forIn_cons]
    by_cases hk : (p.2 == NameKind.free) = true
    · obtain ⟨c, hc⟩ := hn p List.mem_cons_self (by simpa using hk)
      obtain ⟨cl, e, h1, h2, h3⟩ := ih ((p.1, c) :: acc) (fun x hx => hn x (List.mem_cons_of_mem _ hx)) (fun n c' e => by
        by_cases z : (n == p.1) = true
        · simp only [List.lookup_cons, z] at e
          cases e
          have z : n = p.1 := by simpa using z
          rw [z]; exact hc
        · have z' : (n == p.1) = false := by simpa using z
          simp only [List.lookup_cons, z'] at e
          exact ha n c' e)
      have h2' : ∃ c', cl.lookup p.1 = some c' := h2 p.1 c (by simp [List.lookup_cons])
      refine ⟨cl, ?_, h1, fun n c' e' => ?_, fun x hx hf => ?_⟩
      · rw [if_pos hk]
        have : cellOf env p.1 = (pure c : Sem Addr) := by unfold cellOf; rw [hc]
        rw [this]
        simp only [pure_bind]
        exact e
      · by_cases z : (n == p.1) = true
        · have z : n = p.1 := by simpa using z
          rw [z]; exact h2'
        · have z' : (n == p.1) = false := by simpa using z
          exact h2 n c' (by simp only [List.lookup_cons, z']; exact e')
      · rcases List.mem_cons.mp hx with z | z
        · rw [z]; exact h2'
        · exact h3 x z hf
    · obtain ⟨cl, e, h1, h2, h3⟩ := ih acc (fun x hx => hn x (List.mem_cons_of_mem _ hx)) ha
      refine ⟨cl, ?_, h1, h2, fun x hx hf => ?_⟩
      · rw [if_neg hk]
        simp only [pure_bind]
        exact e
      · rcases List.mem_cons.mp hx with z | z
        · rw [z] at hf; exact absurd (by simpa using hf) hk
        · exact h3 x z hf
theorem clos_ok {env : Env} {sc : Scope} (h : ∀ x ∈ sc.names, x.2 = .free → ∃ c, env.cells.lookup x.1 = some c) : ∃ cl, closureFor sc env = pure cl ∧ (∀ n c, cl.lookup n = some c → env.cells.lookup n = some c) ∧ ∀ x ∈ sc.names, x.2 = .free → ∃ c, cl.lookup x.1 = some c := by
  obtain ⟨cl, e, h1, _, h3⟩ := clos_go sc.names [] h (fun _ _ e => by simp at e)
  refine ⟨cl, ?_, h1, h3⟩
  unfold closureFor
  dsimp only
  refine Eq.trans ?_ (Eq.trans (congrArg (fun m => m >>= fun r => (pure r : Sem _)) e) ?_)
  · rfl
  · simp only [pure_bind]
/-! ### cells of the block's own -/
theorem cellsFrom_app : ∀ (names : List (Str × NameKind)) (n : Nat) (acc : List (Str × Addr)), cellsFrom n names acc = cellsFrom n names [] ++ acc
  | [], _, _ => rfl
  | (x, k) :: r, n, acc => by
    unfold cellsFrom
    split
    · rw [cellsFrom_app r (n + 1) ((x, n) :: acc), cellsFrom_app r (n + 1) [(x, n)], List.append_assoc]; rfl
    · exact cellsFrom_app r n acc
theorem cellsFrom_kind : ∀ (names : List (Str × NameKind)) (n : Nat) (acc : List (Str × Addr)) (x : Str) (c : Addr), (x, c) ∈ cellsFrom n names acc → (x, c) ∈ acc ∨ (x, NameKind.cell) ∈ names
  | [], _, _, _, _, h => .inl h
  | (y, k) :: r, n, acc, x, c, h => by
    unfold cellsFrom at h
    split at h
    · rename_i hk
      rcases cellsFrom_kind r (n + 1) _ x c h with z | z
      · rcases List.mem_cons.mp z with e | z
        · cases e
          have : k = .cell := by simpa using hk
          subst this
          exact .inr List.mem_cons_self
        · exact .inl z
      · exact .inr (List.mem_cons_of_mem _ z)
    · rcases cellsFrom_kind r n _ x c h with z | z
      · exact .inl z
      · exact .inr (List.mem_cons_of_mem _ z)
theorem lookup_some_of_mem {α : Type} : ∀ {l : List (Str × α)} {x : Str} {c : α}, (x, c) ∈ l → ∃ c', l.lookup x = some c'
  | (y, v) :: r, x, c, h => by
    rw [List.lookup_cons]
    cases hb : x == y with
    | true => exact ⟨v, rfl⟩
    | false =>
      rcases List.mem_cons.mp h with e | h
      · cases e; simp at hb
      · exact lookup_some_of_mem h
theorem cellsFrom_has : ∀ (names : List (Str × NameKind)) (n : Nat) (acc : List (Str × Addr)) (x : Str), (x, NameKind.cell) ∈ names ∨ (∃ c, (x, c) ∈ acc) → ∃ c, (x, c) ∈ cellsFrom n names acc
  | [], _, _, _, h => by
    rcases h with z | z
    · simp at z
    · exact z
  | (y, k) :: r, n, acc, x, h => by
    unfold cellsFrom
    split
    · refine cellsFrom_has r (n + 1) _ x ?_
      rcases h with z | ⟨c, z⟩
      · rcases List.mem_cons.mp z with e | z
        · cases e; exact .inr ⟨n, List.mem_cons_self⟩
        · exact .inl z
      · exact .inr ⟨c, List.mem_cons_of_mem _ z⟩
    · rename_i hk
      refine cellsFrom_has r n _ x ?_
      rcases h with z | z
      · rcases List.mem_cons.mp z with e | z
        · cases e; simp at hk
        · exact .inl z
      · exact .inr z
theorem lookup_app {α : Type} {l r : List (Str × α)} {x : Str} : (l ++ r).lookup x = match l.lookup x with | some c => some c | none => r.lookup x := by
  induction l with
  | nil => rfl
  | cons p q ih =>
    obtain ⟨y, v⟩ := p
    rw [List.cons_append, List.lookup_cons, List.lookup_cons]
    cases hb : x == y with
    | true => rfl
    | false => exact ih
/-- the block's cells: own ones, then the captured -/
structure CsOk (X : Cx) (sc : Scope) (cs : List (Str × Addr)) (C : Addr) (h1 : Heap) : Prop where
  all : ∀ n c, cs.lookup n = some c → (C < c ∧ h1.IsCell c none) ∨ X.env.cells.lookup n = some c
  inj : ∀ x y c, C < c → cs.lookup x = some c → cs.lookup y = some c → x = y
  free : ∀ n, sc.names.lookup n = some .free → ∃ c, cs.lookup n = some c ∧ X.env.cells.lookup n = some c
  own : ∀ n, sc.names.lookup n = some .cell → ∃ c, cs.lookup n = some c
  ab : ∀ n c, sc.names.lookup n = some .cell → cs.lookup n = some c → C < c
section
variable {X : Cx} {sc : Scope} {N own : List Str} {ix : List Nat} {cs cl : List (Str × Addr)} {C : Addr} {fp : List Addr} {pins : List (Addr × Obj)} {σ : St} {H : Hp} {s : Shared}
theorem cs_ok {h : Heap} (L : LcOk X sc N own ix) (I : Inv X pins σ H s) (c1 : ∀ n c, cl.lookup n = some c → X.env.cells.lookup n = some c) (c2 : ∀ x ∈ sc.names, x.2 = .free → ∃ c, cl.lookup x.1 = some c)
    (hC : s.heap.objs.size ≤ C) (hz : h.objs.size = C + 1) : CsOk X sc (cellsFrom (C + 1) sc.names cl) C (pushCells h sc.names) := by
  have ok := cellsFrom_ok sc.names h (C + 1) [] ⟨fun _ _ hm => (nomatch hm), List.Pairwise.nil⟩ (by rw [hz]; exact Nat.le_refl _)
  rw [hz] at ok
  rw [cellsFrom_app]
  have old : ∀ n c, cl.lookup n = some c → c < s.heap.objs.size := fun n c e => by obtain ⟨v, z⟩ := I.cell n c (c1 n c e); exact z.lt
  have kin : ∀ n c, (cellsFrom (C + 1) sc.names []).lookup n = some c → sc.names.lookup n = some .cell := fun n c e => by
    rcases cellsFrom_kind _ _ _ _ _ (mem_of_lookup e) with z | z
    · simp at z
    · exact L.cellN _ z rfl
  refine ⟨fun n c e => ?_, fun x y c hc e1 e2 => ?_, fun n e => ?_, fun n e => ?_, fun n c e1 e2 => ?_⟩
  · rw [lookup_app] at e
    cases z : (cellsFrom (C + 1) sc.names []).lookup n with
    | some c' =>
      rw [z] at e; cases e
      obtain ⟨a, b⟩ := ok.empty n c (mem_of_lookup z)
      exact .inl ⟨b, a⟩
    | none => rw [z] at e; exact .inr (c1 n c e)
  · have own1 : ∀ n, ((cellsFrom (C + 1) sc.names []) ++ cl).lookup n = some c → (n, c) ∈ cellsFrom (C + 1) sc.names [] := fun n e => by
      rw [lookup_app] at e
      cases z : (cellsFrom (C + 1) sc.names []).lookup n with
      | some c' => rw [z] at e; cases e; exact mem_of_lookup z
      | none => rw [z] at e; exact absurd (Nat.lt_of_lt_of_le (old n c e) hC) (Nat.not_lt.mpr (Nat.le_of_lt hc))
    exact name_of_addr ok.apart (own1 x e1) (own1 y e2)
  · have hf := mem_of_lookup e
    obtain ⟨c, hc⟩ := c2 _ hf rfl
    refine ⟨c, ?_, c1 n c hc⟩
    rw [lookup_app]
    cases z : (cellsFrom (C + 1) sc.names []).lookup n with
    | some c' => have := kin n c' z; rw [e] at this; cases this
    | none => exact hc
  · obtain ⟨c, hc⟩ := cellsFrom_has sc.names (C + 1) [] n (.inl (mem_of_lookup e))
    obtain ⟨c', hc'⟩ := lookup_some_of_mem hc
    exact ⟨c', by rw [lookup_app, hc']⟩
  · obtain ⟨c', hc⟩ := cellsFrom_has sc.names (C + 1) [] n (.inl (mem_of_lookup e1))
    obtain ⟨c'', hc'⟩ := lookup_some_of_mem hc
    rw [lookup_app, hc'] at e2
    cases e2
    exact (ok.empty n _ (mem_of_lookup hc')).2
theorem kind_rel {x : Str} (h : (relabel sc X.env).names.lookup x = some .cell ∨ (relabel sc X.env).names.lookup x = some .free) : sc.names.lookup x = some .cell ∨ sc.names.lookup x = some .free := by
  rw [lookup_relabel] at h
  cases e : sc.names.lookup x with
  | none => rw [e] at h; simp at h
  | some k =>
    rw [e] at h
    simp only [Option.map_some, Option.some.injEq] at h
    by_cases hk : k = .free
    · rw [hk]; exact .inr rfl
    · have hk' : (k == NameKind.free) = false := by simpa using hk
      simp only [hk', Bool.false_and] at h
      rcases h with h | h
      · left; simpa using h
      · exact absurd h hk
theorem CsOk.lt {h1 : Heap} (c : CsOk X sc cs C h1) (I : Inv X pins σ H s) {n : Str} {a : Addr} (e : cs.lookup n = some a) : (C < a ∧ h1.IsCell a none) ∨ (X.env.cells.lookup n = some a ∧ a < s.heap.objs.size) := by
  rcases c.all n a e with z | z
  · exact .inl z
  · obtain ⟨v, y⟩ := I.cell n a z; exact .inr ⟨z, y.lt⟩
theorem lc_ok {h1 : Heap} (L : LcOk X sc N own ix) (I : Inv X pins σ H s) (c : CsOk X sc cs C h1)
    (hC : s.heap.objs.size ≤ C) (hf : ∀ b ∈ fp, FpOk X pins H b) (hb : ∀ b ∈ fp, b < s.heap.objs.size) : (lcx X sc N cs C fp s H).Ok where
  mod := I.ok.mod
  kind := L.kind
  glob := I.ok.glob
  blt := I.ok.blt
  above := hC
  inj := fun x y a e1 e2 => by
    rcases c.lt I e1 with z | ⟨z, zl⟩
    · exact c.inj x y a z.1 e1 e2
    · rcases c.lt I e2 with z' | ⟨z', _⟩
      · exact absurd (Nat.lt_of_lt_of_le zl hC) (Nat.not_lt.mpr (Nat.le_of_lt z'.1))
      · exact I.ok.inj x y a z z'
  has := fun x h => by
    rcases kind_rel h with z | z
    · exact c.own x z
    · obtain ⟨a, e, _⟩ := c.free x z; exact ⟨a, e⟩
  cab := fun x a h e => by
    have h : sc.names.lookup x = some .cell := by simpa [lcx] using h
    exact Nat.le_trans hC (Nat.le_of_lt (c.ab x a h e))
  hd := I.ok.hd
  frames := I.ok.frames
  stk := .inl rfl
  exf := fun b h => ⟨Nat.ne_of_lt (Nat.lt_of_lt_of_le (hb b h) hC), fun x a e => by
    rcases c.lt I e with z | ⟨z, _⟩
    · exact Nat.ne_of_gt (Nat.lt_trans (Nat.lt_of_lt_of_le (hb b h) hC) z.1)
    · exact (hf b h).2.2.2.2.1 x a z⟩
  bs := I.bs
  bsz := Nat.le_trans I.ok.bsz I.sz
  noex := fun b o e h => by
    rcases (hf b h).2.2.2.1 with z | z
    · exact I.ok.noex b o e z
    · exact absurd (Nat.lt_of_lt_of_le (Heap.lt_size e) (Nat.le_trans I.ok.bsz z)) (Nat.lt_irrefl _)
  exfs := fun b h z => by
    rcases List.mem_cons.mp (I.stkSub b z) with e | e
    · exact (hf b h).2.1 e
    · exact (hf b h).2.2.1 e
  funs := I.stack
  frf := I.stkFree
/-- behind the block: what changed at C alone is nothing to the outer context -/
theorem hok_but {P : Program} {w : World} {H' : Hp} {h h' : Heap} {C : Addr} (hok : HOk P w H' h) (hn : H' C = none) (sb : Heap.SameBut C h h') : HOk P w H' h' := fun b o e => by
  have ne : ∀ b u, H' b = some u → b ≠ C := fun b u e z => by rw [z, hn] at e; cases e
  refine (hok b o e).stay (fun c v hc q => ?_) (fun _ q => q) fun _ _ q => q
  have hcC : c ≠ C := by
    rcases hc with z | z
    · rw [z]; exact ne b o e
    · exact ne c _ z
  rw [sb.2 c hcC]; exact q
theorem lc_back {σ' : St} {H' : Hp} {s' : Shared} {pl : List (Addr × Obj)} (I : Inv X pins σ H s) (I' : Inv (lcx X sc N cs C fp s H) pl σ' H' s') (hf : ∀ b ∈ fp, FpOk X pins H b) {h' : Heap} (sb : Heap.SameBut C s'.heap h') :
    Inv X pins σ H' { s' with heap := h' } := by
  have u := I'.base
  have hC : ∀ b o, s.heap.get? b = some o → b ≠ C := fun b o e => Nat.ne_of_lt (Nat.lt_of_lt_of_le (Heap.lt_size e) I'.ok.above)
  refine I.call' (s' := { s' with heap := h' }) (ch := fp) I'.os ?_ (hok_but I'.hok I'.free sb) I'.bare fun b hb => ?_
  · refine ⟨fun b o e n h1 h2 => ?_, fun b o e n h1 h2 => ?_, u.free, fun b o e h2 => ?_, u.tups, u.frzs, u.tbls⟩
    · rw [sb.2 b (hC b o e)]; exact u.keep b o e n h1 h2
    · rw [sb.2 b (hC b o e)]; exact u.slot b o e n h1 h2
    · rw [sb.2 b (hC b o e)]; exact u.there b o e h2
  · obtain ⟨_, f1, _, f3, f4, f5⟩ := hf b hb
    exact ⟨f3, f1, f4, f5⟩
/-- the block's first state -/
theorem lc_start {h1 : Heap} {t' : Nat} {D : Addr} (L : LcOk X sc N own ix) (I : Inv X pins σ H s) (c : CsOk X sc cs C h1)
    (hC : s.heap.objs.size ≤ C) (hf : ∀ b ∈ fp, FpOk X pins H b) (hb : ∀ b ∈ fp, b < s.heap.objs.size) (hD : s.heap.objs.size ≤ D) (hDC : D < C)
    (old : ∀ b o, s.heap.get? b = some o → h1.get? b = some o) {m : Str → Option Value} (hn : h1.Ns C m) (hl : h1.get? D = some { cls := .type "list", data := .seq #[] }) :
    Inv (lcx X sc N cs C fp s H) [] (lcSt own ix σ) (upd H D (.lst [])) { s with heap := h1, toks := t' } := by
  have hDn : H D = none := I.hok.fresh hD
  have hCn : H C = none := I.hok.fresh hC
  have new : ∀ b o, s.heap.get? b = some o → b ≠ D := fun b o e => Nat.ne_of_lt (Nat.lt_of_lt_of_le (Heap.lt_size e) hD)
  have cells : ∀ x a, cs.lookup x = some a → H a = none ∧ a ≠ D ∧ ∃ v, h1.IsCell a v := fun x a e => by
    rcases c.lt I e with ⟨z1, z2⟩ | ⟨z, zl⟩
    · exact ⟨I.hok.fresh (Nat.le_trans hC (Nat.le_of_lt z1)), Nat.ne_of_gt (Nat.lt_trans hDC z1), none, z2⟩
    · obtain ⟨v, o, ho, hd⟩ := I.cell x a z
      exact ⟨I.freeC x a z, new a o ho, v, o, old a o ho, hd⟩
  refine ⟨lc_ok L I c hC hf hb, rfl, I.bare, (Un.laid old hD hDn : Un (frs X.stack) fp H (upd H D (.lst [])) s.heap h1), ⟨m, hn, fun i x v e1 e2 e3 => ?_⟩, fun x a e => (cells x a e).2.2, ?_, fun x a e => ?_, fun p hp => by simp [lcx] at hp, ?_, ?_⟩
  · -- a captured name
    have e1 : N[i]? = some x := e1
    have e2 : (lcSt own ix σ)[i]? = some (some v) := e2
    unfold lcSt at e2
    by_cases hi : i < own.length
    · rw [List.getElem?_append_left (by simpa using hi), List.getElem?_map] at e2
      cases z : own[i]? with
      | none => rw [z] at e2; simp at e2
      | some y => rw [z] at e2; simp at e2
    · have hi' : own.length ≤ i := Nat.le_of_not_lt hi
      rw [List.getElem?_append_right (by simpa using hi'), List.length_map, List.getElem?_map] at e2
      rw [L.NN, List.getElem?_append_right hi', List.getElem?_map] at e1
      cases z : ix[i - own.length]? with
      | none => rw [z] at e2; simp at e2
      | some j =>
        rw [z] at e1 e2
        simp only [Option.map_some, Option.some.injEq] at e1 e2
        have hj : σ[j]? = some (some v) := by
          rw [List.getD_eq_getElem?_getD] at e2
          cases q : σ[j]? with
          | none => rw [q] at e2; simp at e2
          | some y => rw [q] at e2; simp at e2; rw [e2]
        have hN : X.N[j]? = some x := by
          have hlt : j < X.N.length := by rw [← I.len]; exact (List.getElem?_eq_some_iff.mp hj).1
          rw [List.getD_eq_getElem?_getD, List.getElem?_eq_getElem hlt] at e1
          rw [List.getElem?_eq_getElem hlt, ← e1]; rfl
        have hcap : sc.names.lookup x = some .free := by rw [← e1]; exact L.cap j (List.mem_of_getElem? z)
        have hk := L.free _ (mem_of_lookup hcap) rfl
        obtain ⟨m0, hn0, hl0⟩ := I.loc
        obtain ⟨u, ru, lk⟩ := hl0 j x v hN hj (by rcases hk with k | k; exact .inr (.inl k); exact .inr (.inr k))
        refine ⟨u, ru, .inr ⟨?_, ?_⟩⟩
        · have q : (lcx X sc N cs C fp s H).env.kindOf x = (relabel sc X.env).names.lookup x := rfl
          rw [q, lookup_relabel, hcap, Option.map_some]
          by_cases hc : (NameKind.free == NameKind.free && X.env.scope.kind == .function && X.env.kindOf x == some .cell) = true
          · rw [if_pos hc]; exact .inl rfl
          · rw [if_neg hc]; exact .inr rfl
        · obtain ⟨a, ha, hx⟩ := c.free x hcap
          refine ⟨a, ha, ?_⟩
          rcases lk with ⟨k, _⟩ | ⟨_, a', e, z⟩
          · rcases hk with k' | k' <;> (have q := k.symm.trans k'; cases q)
          · have q := hx.symm.trans e
            cases q
            obtain ⟨o, ho, hd⟩ := z
            exact ⟨o, old a o ho, hd⟩
  · show upd H D (.lst []) C = none
    rw [upd_ne (Nat.ne_of_gt hDC)]; exact hCn
  · show upd H D (.lst []) a = none
    rw [upd_ne (cells x a e).2.1]; exact (cells x a e).1
  · exact I.hok.laid old hD ⟨by simp, [], 0, .nil, hl⟩
  · show (lcSt own ix σ).length = N.length
    rw [L.NN]; simp [lcSt]
end
section
variable {M : Model} {A : Around} {E : Value → Shared → Prop} {s : Shared}
theorem newEnv_lc {scope : Scope} {globals : Addr} {cl : List (Str × Addr)} {qual : Str} {func : Option Addr} {code : Value} {env : Env} {builtins : Addr} {Q : Env → Shared → Prop}
    (hQ : Q (newEnv scope s.heap.objs.size globals (cellsFrom (s.heap.objs.size + 1) scope.names cl) qual func code (some env) builtins) { s with heap := pushCells (s.heap.push { cls := .type "dict", data := .dict #[] }) scope.names }) :
    wpAny M A (newFunctionEnv scope globals cl [] qual func code (some env) builtins) Q E s := by
  simp only [newFunctionEnv, Option.isSome_some, if_true]
  refine wpAny_bind (wpAny_alloc ?_)
  refine wpAny_bind (wpAny_layCells _ (fun name kind cells => by cases hkc : kind == NameKind.cell <;> simp [hkc]) _ _ _ _ ?_)
  rw [show ({ s with heap := s.heap.push { cls := .type "dict", data := .dict #[] } } : Shared).heap.objs.size = s.heap.objs.size + 1 from Heap.size_push ..]
  rw [List.forIn_nil]
  exact wpAny_bind (wpAny_pure (wpAny_pure hQ))
end
/-! ### the loop of the block -/
def PTs (X : Cx) (ifs : List Expr) (t : TT) : Prop :=
  ∀ (pins : List (Addr × Obj)) (s : Shared) (σ : St) (H : Hp) (Q : Bool → Hp → Prop), Inv X pins σ H s → t σ H Q →
    wpAny (model X.prog X.w) X.A (forIn ifs true fun c r => if r = true then do let ok ← isTrue c X.env (eval c X.env); pure (ForInStep.yield ok) else pure (ForInStep.yield r)) (TP X pins σ Q) X.xe s
def tYes : TT := fun _ H Q => Q true H
theorem pts_nil {X : Cx} : PTs X [] tYes := fun _ _ _ H _ I q => wpAny_tests_nil ⟨H, I, q⟩
theorem pts_one {X : Cx} {c : Expr} {t : TT} (h : PT X c t) : PTs X [c] t := fun pins s σ H Q I q => wpAny_tests_one (h pins s σ H Q I q)

section
variable {prog : Program} {w : World} {A : Around} {R : Result → Shared → Prop} {s : Shared}
theorem codeAny_compLoop_go {elt target iter : Expr} {ifs : List Expr} {scope : Scope} {pos : Pos} {it acc : Value} {env : Env} (I : Nat → Shared → Prop)
    (turn : ∀ n s, I n s → wpAny (model prog w) A (pyNext it) (fun r s₁ => match r with
      | none => R (.ok .next) s₁
      | some v => wpAny (model prog w) A (letOwnedTupleGo target it v) (fun _ s₁' => wpAny (model prog w) A (assign target env v) (fun _ s₂ =>
          wpAny (model prog w) A (forIn ifs true fun c r => if r = true then do let ok ← isTrue c env (eval c env); pure (ForInStep.yield ok) else pure (ForInStep.yield r)) (fun ok s₃ =>
            if ok = true then wpAny (model prog w) A (eval elt env) (fun x s₄ =>
              wpAny (model prog w) A (call (.builtin "list.append") [acc, x]) (fun _ s₅ => ∃ m, m < n ∧ I m s₅) (notedBy (model prog w) A env fun e s' => R (.error e) s') s₄) (notedBy (model prog w) A env fun e s' => R (.error e) s') s₃
            else ∃ m, m < n ∧ I m s₃) (notedBy (model prog w) A env fun e s' => R (.error e) s') s₂) (notedBy (model prog w) A env fun e s' => R (.error e) s') s₁') (notedBy (model prog w) A env fun e s' => R (.error e) s') s₁) (notedBy (model prog w) A env fun e s' => R (.error e) s') s)
    (n : Nat) (h : I n s) :
    codeAny (model prog w) A (.compLoop (.ListComp elt [⟨target, iter, ifs, 0⟩] scope pos) 0 it acc env) R s := by
  refine codeAny_loop rfl I (fun n s hI => ?_) n h
  show wpAny _ A ((compTurn (.ListComp elt [⟨target, iter, ifs, 0⟩] scope pos) 0 it acc env).onRaise (fun x => do noteFrame x env; theTreesLotGoes x)) _ _ s
  refine wpAny_noted ?_
  rw [compTurn_list]
  refine wpAny_bind (wpAny_standAt (wpAny_bind (wpAny_mono (turn n s hI) (fun r s₁ h₁ => ?_) fun _ _ h' => h')))
  cases r with
  | none => exact wpAny_pure h₁
  | some v =>
    refine wpAny_bind (wpAny_mono h₁ (fun _ s₁' h₁' => ?_) fun _ _ h' => h')
    refine wpAny_bind (wpAny_mono h₁' (fun _ s₂ h₂ => wpAny_bind (wpAny_mono h₂ (fun ok s₃ h₃ => ?_) fun _ _ h' => h')) fun _ _ h' => h')
    cases ok with
    | false => exact wpAny_pure ⟨rfl, h₃⟩
    | true =>
      exact wpAny_bind (wpAny_bind (wpAny_mono h₃ (fun x s₄ h₄ => wpAny_bind (wpAny_mono h₄ (fun _ s₅ h₅ => wpAny_pure (wpAny_pure ⟨rfl, h₅⟩)) fun _ _ h' => h')) fun _ _ h' => h'))
end
/-- what the block's loop is to keep, and reach -/
def LcW (D : Addr) (J : It) (g : TG) (tc : TT) (te : TE) (Q : VK) (W : Nat → Nat → St → Hp → Prop) : Prop :=
  ∀ i m σ H, W i m σ H → (J.stop i H ∧ Q (.ref D) H) ∨ (J.go i H ∧ ∃ N : St → Hp → Prop, (∀ σ' H', N σ' H' → ∃ m', m' < m ∧ W (i + 1) m' σ' H') ∧ ∀ x H1, J.yld i H x H1 → g x σ H1 fun σ2 H2 => tc σ2 H2 fun b H3 =>
    if b = true then te σ2 H3 fun v H4 => ∃ ys, H4 D = some (.lst ys) ∧ ys.length < sizeLine ∧ N σ2 (upd H4 D (.lst (ys ++ [v]))) else N σ2 H3)
def tLc (own : List Str) (ix : List Nat) (wi : TI) (g : TG) (tc : TT) (te : TE) : TE := fun σ H Q => wi σ H fun J H1 => ∀ D, H1 D = none →
  ∃ W : Nat → Nat → St → Hp → Prop, (∃ m, W 0 m (lcSt own ix σ) (upd H1 D (.lst []))) ∧ LcW D J g tc te Q W
section
variable {X : Cx} {sc : Scope} {N own : List Str} {ix : List Nat} {cl : List (Str × Addr)} {fp : List Addr} {pins : List (Addr × Obj)} {σ : St} {H : Hp} {s : Shared} {elt tg iter : Expr} {ifs : List Expr} {pos : Pos}
  {g : TG} {tc : TT} {te : TE} {wi : TI}
theorem lc_run {J : It} {it : Addr} {tn : Nat → Heap → Prop} {Q : VK} {E : Value → Shared → Prop} {RR : Value → Addr → Result → Shared → Prop} (hc : X.calm = true) (L : LcOk X sc N own ix) (I : Inv X pins σ H s)
    (T : Turn X.prog X.w X.K tg J fp it tn) (st : tn 0 s.heap) (hf : ∀ b ∈ fp, FpOk X pins H b) (c1 : ∀ n c, cl.lookup n = some c → X.env.cells.lookup n = some c) (c2 : ∀ x ∈ sc.names, x.2 = .free → ∃ c, cl.lookup x.1 = some c)
    (hg : ∀ cl C fp s H, PG (lcx X sc N cl C fp s H) tg g) (ht : ∀ cl C fp s H, PTs (lcx X sc N cl C fp s H) ifs tc) (he : ∀ cl C fp s H, PE (lcx X sc N cl C fp s H) elt te)
    (q : ∀ D, H D = none → ∃ W : Nat → Nat → St → Hp → Prop, (∃ m, W 0 m (lcSt own ix σ) (upd H D (.lst []))) ∧ LcW D J g tc te Q W)
    (hRR : ∀ D C cs s' σ' H', Inv (lcx X sc N cs C fp s H) [] σ' H' s' → Q (.ref D) H' → RR (.ref D) C (.ok .next) s') :
    wpAny (model X.prog X.w) X.A (newList []) (fun acc s₃ => wpAny (model X.prog X.w) X.A (newFunctionEnv sc X.env.globals cl [] X.env.qual none .none (some X.env)) (fun cenv s₄ =>
      codeAny (model X.prog X.w) X.A (.compStart (.ListComp elt [⟨tg, iter, ifs, 0⟩] sc pos) 0 (.ref it) acc { cenv with scope := relabel sc X.env }) (RR acc cenv.locals) s₄) E s₃) E s := by
  refine wpAny_newObj_type (newEnv_lc ?_)
  dsimp only
  generalize hH2 : s.heap.push { cls := .type "list", dict := none, data := .seq ([] : List Value).toArray } = H2
  have hC : H2.objs.size = s.heap.objs.size + 1 := by rw [← hH2, Heap.size_push]
  have hDC : s.heap.objs.size < H2.objs.size := by rw [hC]; exact Nat.lt_succ_self _
  have hCle : s.heap.objs.size ≤ H2.objs.size := Nat.le_of_lt hDC
  have kp : ∀ b o, H2.get? b = some o → (pushCells (H2.push { cls := .type "dict", data := .dict #[] }) sc.names).get? b = some o := fun b o e => pushCells_keeps _ _ b o (Heap.get?_push_of_some _ e)
  have old : ∀ b o, s.heap.get? b = some o → (pushCells (H2.push { cls := .type "dict", data := .dict #[] }) sc.names).get? b = some o := fun b o e => kp b o (hH2 ▸ Heap.get?_push_of_some _ e)
  have hl : (pushCells (H2.push { cls := .type "dict", data := .dict #[] }) sc.names).get? s.heap.objs.size = some { cls := .type "list", data := .seq #[] } := kp _ _ (hH2 ▸ Heap.get?_push_size _ rfl)
  have hns : (pushCells (H2.push { cls := .type "dict", data := .dict #[] }) sc.names).Ns H2.objs.size fun _ => none := (Heap.Ns.new H2 (.type "dict")).keeps (pushCells_keeps _ _)
  have co := cs_ok (cl := cl) (h := H2.push { cls := .type "dict", data := .dict #[] }) L I c1 c2 hCle (Heap.size_push ..)
  generalize pushCells (H2.push { cls := .type "dict", data := .dict #[] }) sc.names = h₁ at old hl hns co ⊢
  generalize hcs : cellsFrom (H2.objs.size + 1) sc.names cl = cs at co ⊢
  have hb : ∀ b ∈ fp, b < s.heap.objs.size := fun b hb => let ⟨o, e, _⟩ := T.obj 0 _ st b hb; Heap.lt_size e
  have hDn : H s.heap.objs.size = none := I.hok.fresh (Nat.le_refl _)
  obtain ⟨W, ⟨m0, w0⟩, turn⟩ := q s.heap.objs.size hDn
  have st1 : tn 0 h₁ := T.keep 0 _ _ st fun b _ o e => old b o e
  have fpD : ∀ b ∈ fp, upd H s.heap.objs.size (.lst []) b = none := fun b h => by rw [upd_ne (Nat.ne_of_lt (hb b h))]; exact (hf b h).1
  have J0 := lc_start (t' := s.toks) (C := H2.objs.size) (fp := fp) L I co hCle hf hb (Nat.le_refl _) hDC old hns hl
  generalize hX : lcx X sc N cs H2.objs.size fp s H = Y at J0
  have eA : X.A = Y.A := by rw [← hX]; rfl
  have eP : X.prog = Y.prog := by rw [← hX]; rfl
  have eW : X.w = Y.w := by rw [← hX]; rfl
  have eK : X.K = Y.K := by rw [← hX]; rfl
  have ee : compEnvC sc cs H2.objs.size X.env = Y.env := by rw [← hX]; rfl
  have ec : Y.calm = true := by rw [← hX]; exact hc
  have hg' : PG Y tg g := by rw [← hX]; exact hg cs _ fp s H
  have ht' : PTs Y ifs tc := by rw [← hX]; exact ht cs _ fp s H
  have he' : PE Y elt te := by rw [← hX]; exact he cs _ fp s H
  have ex' : Y.xe = fun _ _ => False := by rw [← hX]; rfl
  have T' : Turn Y.prog Y.w Y.K tg J fp it tn := by rw [← eP, ← eW, ← eK]; exact T
  have stat : ∀ {H' : Hp}, (∀ b ∈ fp, H' b = none) → ∀ b ∈ fp, FpOk Y [] H' b := fun {H'} hn b hb' => by
    rw [← hX]
    obtain ⟨_, f1, f2, f3, f4, f5⟩ := hf b hb'
    refine ⟨hn b hb', Nat.ne_of_lt (Nat.lt_of_lt_of_le (hb b hb') hCle), fun z => ?_, .inl hb', fun x c e => (lc_ok L I co hCle hf hb).exf b hb' |>.2 x c e, fun p hp => by simp [lcx] at hp⟩
    rcases List.mem_cons.mp (I.stkSub b z) with e | e
    · exact f1 e
    · exact f2 e
  have hRR' : ∀ s' σ' H', Inv Y [] σ' H' s' → Q (.ref s.heap.objs.size) H' → RR (.ref s.heap.objs.size) H2.objs.size (.ok .next) s' := by rw [← hX]; exact fun s' σ' H' => hRR _ _ _ s' σ' H'
  have up : ∀ {α : Type} {t : Sem α} {Q' : α → Shared → Prop} {E' : Value → Shared → Prop} {s' : Shared}, wpAny (model Y.prog Y.w) Y.A t Q' Y.xe s' → wpAny (model Y.prog Y.w) Y.A t Q' E' s' := fun h => wpAny_mono h (fun _ _ x => x) fun _ _ z => by rw [ex'] at z; exact z.elim
  have loop : codeAny (model X.prog X.w) X.A (.compLoop (.ListComp elt [⟨tg, iter, ifs, 0⟩] sc pos) 0 (.ref it) (.ref s.heap.objs.size) (compEnvC sc cs H2.objs.size X.env))
        (RR (.ref s.heap.objs.size) H2.objs.size) { s with heap := h₁ } := by
    rw [ee, eA, eP, eW]
    refine codeAny_compLoop_go (fun n s' => ∃ i σ' H', Inv Y [] σ' H' s' ∧ tn i s'.heap ∧ (∀ b ∈ fp, H' b = none) ∧ W i n σ' H') ?_ m0 ⟨0, _, _, J0, st1, fpD, w0⟩
    rintro n s3 ⟨i, σ3, H3, I3, st3, fr3, w3⟩
    rcases turn i n σ3 H3 w3 with ⟨stop, qn⟩ | ⟨go, NN, hN, step⟩
    · refine up (thn (T'.done Y rfl rfl rfl ec i [] s3 σ3 H3 Y.xe I3 (stat fr3) st3 stop) fun r s4 ⟨hr, I4⟩ => ?_)
      subst hr
      exact hRR' s4 σ3 H3 I4 qn
    · refine up (thn (T'.item Y rfl rfl rfl ec i [] s3 σ3 H3 Y.xe I3 (stat fr3) st3 go) fun r s4 ⟨u, hr, h4⟩ => ?_)
      subst hr
      refine up (thn h4 fun _ s5 ⟨x, H5, I5, r5, y5, st5, fr5⟩ => ?_)
      have I5' := I5.pinned (stat fr5) (T.obj _ _ st5)
      refine up (thn (hg' _ s5 σ3 H5 x u _ I5' r5 (step x H5 y5)) fun _ s6 ⟨σ6, H6, I6, q6⟩ => ?_)
      have again : ∀ {σ7 : St} {H7 : Hp} {s7 : Shared}, Inv Y ([] ++ pinsAt fp s5.heap) σ7 H7 s7 → NN σ7 H7 → ∃ m, m < n ∧ ∃ i σ' H', Inv Y [] σ' H' s7 ∧ tn i s7.heap ∧ (∀ b ∈ fp, H' b = none) ∧ W i m σ' H' := fun {σ7 H7 s7} I7 n7 => by
        obtain ⟨m', hm, w7⟩ := hN σ7 H7 n7
        refine ⟨m', hm, i + 1, σ7, H7, I7.unpinned, T.keep _ _ _ st5 fun b hb o e => (I7.pin (b, o) (List.mem_append_right _ (List.mem_append_right _ (mem_pinsAt hb e)))).1, fun b hb => ?_, w7⟩
        obtain ⟨o, e, d⟩ := T.obj _ _ st5 b hb
        exact (I7.pin (b, o) (List.mem_append_right _ (List.mem_append_right _ (mem_pinsAt hb e)))).2.1
      refine up (thn (ht' _ s6 σ6 H6 _ I6 q6) fun ok s7 ⟨H7, I7, q7⟩ => ?_)
      cases ok with
      | false =>
        rw [if_neg Bool.false_ne_true] at q7 ⊢
        exact again I7 q7
      | true =>
        rw [if_pos rfl] at q7 ⊢
        refine up (thn (he' _ s7 σ6 H7 _ I7 q7) fun v s8 ⟨y, H8, I8, r8, ys, hy, hz, w8⟩ => ?_)
        exact up (thn (mt_append _ s8 σ6 H8 (.ref s.heap.objs.size) [y] (.ref s.heap.objs.size) [v] (fun _ H9 => H9 = upd H8 s.heap.objs.size (.lst (ys ++ [y]))) I8 rfl (.cons r8 .nil) ⟨_, ys, y, rfl, rfl, hy, hz, rfl⟩) fun _ s9 ⟨_, H9, I9, _, e9⟩ => by subst e9; exact again I9 w8)
  exact codeAny_compStart_list loop (T.self _ 0 _ _ _ st1 loop)
theorem pe_lc (hc : X.calm = true) (L : LcOk X sc N own ix) (hi : PI X tg iter wi) (hg : ∀ cl C fp s H, PG (lcx X sc N cl C fp s H) tg g) (ht : ∀ cl C fp s H, PTs (lcx X sc N cl C fp s H) ifs tc)
    (he : ∀ cl C fp s H, PE (lcx X sc N cl C fp s H) elt te) (hs : ∀ x, foldedSetIterable iter X.env x = pure x := by intro _; rfl) : PE X (.ListComp elt [⟨tg, iter, ifs, 0⟩] sc pos) (tLc own ix wi g tc te) := by
  intro pins s σ H Q I h
  obtain ⟨cl, ecl, c1, c2⟩ := clos_ok (env := X.env) (sc := sc) fun x hx hf => I.ok.has x.1 (L.free x hx hf)
  rw [eval_ListComp]
  refine wpAny_comprehension_free (use := none) rfl hs ecl L.kind L.names (thn (hi pins s σ H _ I h) fun xv s₁ h₁ => thn h₁ fun itv s₂ h₂ => ?_)
  obtain ⟨it, fp, tn, J, H2, e, I2, T, st2, f2, q⟩ := h₂
  subst e
  refine lc_run (Q := Q) hc L I2 T st2 f2 c1 c2 hg ht he q fun D C cs s' σ' H' I' q' => ?_
  obtain ⟨m, hn, _⟩ := I'.loc
  exact ⟨m, hn, fun h' sb => ⟨.ref D, H', lc_back I2 I' f2 sb, rfl, q'⟩⟩
/-- x = [..] where the store comes ahead of the block's end -/
theorem ps_setLc {i : Nat} {x : Str} {pos' spos : Pos} (hc : X.calm = true) (hN : X.N.Nodup) (hix : X.N[i]? = some x) (hx : X.env.scope.names.lookup x = some .local) (L : LcOk X sc N own ix) (hi : PI X tg iter wi)
    (hg : ∀ cl C fp s H, PG (lcx X sc N cl C fp s H) tg g) (ht : ∀ cl C fp s H, PTs (lcx X sc N cl C fp s H) ifs tc) (he : ∀ cl C fp s H, PE (lcx X sc N cl C fp s H) elt te)
    (hsw : swapsWith (.ListComp elt [⟨tg, iter, ifs, 0⟩] sc pos) (some (.Name x pos')) spos.line X.env = pure true := by rfl)
    (hs : ∀ x, foldedSetIterable iter X.env x = pure x := by intro _; rfl) : PS X (.Assign [.Name x pos'] (.ListComp elt [⟨tg, iter, ifs, 0⟩] sc pos) spos) (tAsg (tLc own ix wi g tc te) (gName i)) := by
  intro pins s σ H Df I h
  obtain ⟨cl, ecl, c1, c2⟩ := clos_ok (env := X.env) (sc := sc) fun x hx hf => I.ok.has x.1 (L.free x hx hf)
  rw [exec_Assign_Name_used _ _ _ _ hsw]
  refine wpAny_bind (wpAny_standAt (wpAny_bind ?_))
  show wpAny _ X.A (do let _ ← comprehension (.ListComp elt [⟨tg, iter, ifs, 0⟩] sc pos) sc X.env _ (newList []) false (eval iter X.env) (some (assign (.Name x pos') X.env))) _ _ s
  refine wpAny_bind (wpAny_mono (wpAny_comprehension_free (use := some (assign (.Name x pos') X.env)) (Q := fun _ s' => SP X pins Df .next s') rfl hs ecl L.kind L.names
    (thn (hi pins s σ H _ I h) fun xv s₁ h₁ => thn h₁ fun itv s₂ h₂ => ?_)) (fun _ s' hq => wpAny_pure (wpAny_pure hq)) fun _ _ e => e)
  obtain ⟨it, fp, tn, J, H2, e, I2, T, st2, f2, q⟩ := h₂
  subst e
  refine lc_run hc L I2 T st2 f2 c1 c2 hg ht he q fun D C cs s' σ' H' I' q' => ?_
  obtain ⟨m, hn, _⟩ := I'.loc
  have I3 : Inv X pins σ H' s' := lc_back I2 I' f2 (h' := s'.heap) (Heap.SameBut.refl ..)
  have hC : C ≠ X.env.locals := Nat.ne_of_gt (Nat.lt_of_lt_of_le I2.lt I'.ok.above)
  refine wpAny_assign_Name (store_ok2 I3 hN hix (.inl hx) (show RelV (.ref D) (.ref D) from rfl) (fun s'' I4 ⟨a, sb, ha⟩ => ?_) (.inr hx))
  have haC : C ≠ a := by
    rcases ha with z | z
    · rw [z]; exact hC
    · obtain ⟨v, z'⟩ := I2.cell x a z
      exact Nat.ne_of_gt (Nat.lt_of_lt_of_le z'.lt I'.ok.above)
  have hn' : s''.heap.Ns C m := hn.at' fun o e => (sb.2 C haC).trans e
  refine ⟨m, hn', fun h' sb' => ⟨_, H', ?_, q'⟩⟩
  have hlt : ∀ b, b < s₂.heap.objs.size → b ≠ C := fun b hb => Nat.ne_of_lt (Nat.lt_of_lt_of_le hb I'.ok.above)
  refine I4.call' (s' := { s'' with heap := h' }) (ch := [C]) rfl ⟨fun b o e n _ hb => ?_, fun b o e n _ hb => ?_, fun b o e n _ => n, fun b o e hb => ?_, fun _ _ e => e, fun _ _ _ e => e, fun b ps e => ⟨#[], by rw [e]; simp⟩⟩
    (hok_but I4.hok I'.free sb') I4.bare (fun b hb => ?_)
  · exact (sb'.2 b (by simpa using hb)).trans e
  · exact ⟨o.slots, (sb'.2 b (by simpa using hb)).trans e⟩
  · exact ⟨o, (sb'.2 b (by simpa using hb)).trans e⟩
  · have e : b = C := by simpa using hb
    subst e
    refine ⟨.inr (Nat.le_trans I2.sz I'.ok.above), hC, fun y c e z => ?_, fun p hp z => ?_⟩
    · obtain ⟨v, z'⟩ := I2.cell y c e
      exact hlt c z'.lt z
    · exact hlt p.1 (Heap.lt_size (I2.pin p hp).1) z
end
/-! ### the forms one uses -/
theorem lc_range {D : Addr} {lo : Int} {n : Nat} {g : TG} {tc : TT} {te : TE} {Q : VK} {σ : St} {H : Hp} (Pv : Nat → St → Hp → Prop) (h0 : Pv 0 σ H)
    (hs : ∀ i σ H, i < n → Pv i σ H → g (.int (lo + i)) σ H fun σ2 H2 => tc σ2 H2 fun b H3 => if b = true then te σ2 H3 fun v H4 => ∃ ys, H4 D = some (.lst ys) ∧ ys.length < sizeLine ∧ Pv (i + 1) σ2 (upd H4 D (.lst (ys ++ [v]))) else Pv (i + 1) σ2 H3)
    (hd : ∀ σ H, Pv n σ H → Q (.ref D) H) : ∃ W : Nat → Nat → St → Hp → Prop, (∃ m, W 0 m σ H) ∧ LcW D (Itr lo n) g tc te Q W := by
  refine ⟨fun i m σ H => m = n - i ∧ i ≤ n ∧ Pv i σ H, ⟨n, by simp, Nat.zero_le _, h0⟩, ?_⟩
  rintro i m σ H ⟨rfl, hi, p⟩
  by_cases hlt : i < n
  · refine .inr ⟨hlt, Pv (i + 1), fun σ' H' p' => ⟨n - (i + 1), by omega, rfl, hlt, p'⟩, fun x H' y => ?_⟩
    obtain ⟨e, y⟩ := y
    subst e y
    exact hs i σ _ hlt p
  · have e : i = n := by omega
    subst e
    exact .inl ⟨Nat.le_refl _, hd σ H p⟩
theorem lc_list {K : PySem.W.Frag} {D a : Addr} {xs : List V} {g : TG} {tc : TT} {te : TE} {Q : VK} {σ : St} {H : Hp} (Pv : Nat → St → Hp → Prop) (h0 : Pv 0 σ H) (hl : ∀ i σ H, i ≤ xs.length → Pv i σ H → SqL K H a xs)
    (hs : ∀ i x σ H, xs[i]? = some x → Pv i σ H → g x σ H fun σ2 H2 => tc σ2 H2 fun b H3 => if b = true then te σ2 H3 fun v H4 => ∃ ys, H4 D = some (.lst ys) ∧ ys.length < sizeLine ∧ Pv (i + 1) σ2 (upd H4 D (.lst (ys ++ [v]))) else Pv (i + 1) σ2 H3)
    (hd : ∀ σ H, Pv xs.length σ H → Q (.ref D) H) : ∃ W : Nat → Nat → St → Hp → Prop, (∃ m, W 0 m σ H) ∧ LcW D (Itl K a) g tc te Q W := by
  refine ⟨fun i m σ H => m = xs.length - i ∧ i ≤ xs.length ∧ Pv i σ H, ⟨xs.length, by simp, Nat.zero_le _, h0⟩, ?_⟩
  rintro i m σ H ⟨rfl, hi, p⟩
  have q := hl i σ H hi p
  by_cases hlt : i < xs.length
  · refine .inr ⟨⟨xs, xs[i], q, by simp [hlt]⟩, Pv (i + 1), fun σ' H' p' => ⟨xs.length - (i + 1), by omega, rfl, hlt, p'⟩, fun x H' y => ?_⟩
    obtain ⟨e, y⟩ := y
    subst e
    exact hs i x σ _ (y xs q) p
  · have e : i = xs.length := by omega
    subst e
    exact .inl ⟨⟨xs, q, Nat.le_refl _⟩, hd σ H p⟩

/-! ### terms that only look: the value, and a heap that may have grown -/
def Ev (t : TE) (σ : St) (H : Hp) (v : V) : Prop := ∀ Q : VK, (∀ H', Same H H' → Q v H') → t σ H Q
def EvT (t : TT) (σ : St) (H : Hp) (b : Bool) : Prop := ∀ Q : Bool → Hp → Prop, (∀ H', Same H H' → Q b H') → t σ H Q
theorem evYes {σ : St} {H : Hp} : EvT tYes σ H true := fun _ q => q H (Same.refl H)
theorem filter_snoc {α : Type} (l : List α) (x : α) (p : α → Bool) : (l ++ [x]).filter p = l.filter p ++ (if p x = true then [x] else []) := by
  rw [List.filter_append]; cases h : p x <;> simp [h]
/-- .. a list -/
theorem lc_list_ev {K : PySem.W.Frag} {D a : Addr} {xs : List V} {tc : TT} {te : TE} {Q : VK} {cap : St} {H : Hp} (p : V → Bool) (f : V → V) (hn : xs.length < sizeLine) (hD : H D = none) (hl : SqL K H a xs)
    (ht : ∀ x H', x ∈ xs → Same H H' → EvT tc (some x :: cap) H' (p x)) (he : ∀ x H', x ∈ xs → p x = true → Same H H' → Ev te (some x :: cap) H' (f x))
    (hd : ∀ H', Same H H' → H' D = some (.lst ((xs.filter p).map f)) → Q (.ref D) H') :
    ∃ W : Nat → Nat → St → Hp → Prop, (∃ m, W 0 m (none :: cap) (upd H D (.lst []))) ∧ LcW D (Itl K a) (gName 0) tc te Q W := by
  have same : ∀ {H' : Hp} {o : HO}, Same H H' → Same H (upd H' D o) := fun s b o e => by rw [upd_ne (ne_of_none e hD)]; exact s b o e
  refine lc_list (fun i σ H' => ∃ v, σ = v :: cap ∧ Same H H' ∧ H' D = some (.lst (((xs.take i).filter p).map f))) ⟨none, rfl, same (Same.refl H), by rw [upd_same]; rfl⟩ (fun i σ H' _ ⟨_, _, s, _⟩ => s.seq hl) ?_ fun σ H' ⟨_, _, s, e⟩ => hd H' s (by rw [e, List.take_length])
  rintro i x σ H' hi ⟨v, rfl, s, e⟩
  have hm := List.mem_of_getElem? hi
  refine ht x H' hm s _ fun H3 s3 => ?_
  have e3 := s3 D _ e
  have et : xs.take (i + 1) = xs.take i ++ [x] := by rw [List.take_add_one, hi]; rfl
  cases hp : p x with
  | false =>
    refine (if_neg Bool.false_ne_true).mpr ⟨_, rfl, s.trans s3, ?_⟩
    rw [e3, et, filter_snoc, hp]; simp
  | true =>
    refine (if_pos rfl).mpr ?_
    refine he x H3 hm hp (s.trans s3) _ fun H4 s4 => ⟨_, s4 D _ e3, ?_, _, rfl, same ((s.trans s3).trans s4), ?_⟩
    · have l1 := List.length_filter_le p (xs.take i)
      have l2 : (xs.take i).length ≤ xs.length := by rw [List.length_take]; omega
      rw [List.length_map]; omega
    · rw [upd_same, et, filter_snoc, hp]; simp
end L2

set_option Elab.async false
set_option linter.all false
set_option maxRecDepth 100000
set_option maxHeartbeats 4000000
/-! More rules over the layer: == of lists, sum, max, min, isinstance, enumerate. -/
namespace L2
open PySem PySem.Spec PyProof.Rows
section
variable {X : Cx}
/-! ### == and != of two lists of flat things -/
def eqVs (xs ys : List V) : Bool := decide (xs.length = ys.length) && (List.range xs.length).all fun j => eqV (xs.getD j .non) (ys.getD j .non)
theorem eqVs_ints {ns ms : List Int} : eqVs (ns.map V.int) (ms.map V.int) = decide (ns = ms) := by
  unfold eqVs
  by_cases h : ns = ms
  · subst h
    rw [decide_eq_true rfl, decide_eq_true rfl, Bool.true_and, List.all_eq_true]
    intro j hj
    rw [List.mem_range] at hj
    rw [List.getD_eq_getElem?_getD, List.getElem?_eq_getElem hj, Option.getD_some, List.getElem_map]
    show (_ == _) = true
    simp
  · rw [decide_eq_false h]
    by_cases hl : ns.length = ms.length
    · rw [List.length_map, List.length_map, decide_eq_true hl, Bool.true_and, Bool.eq_false_iff]
      intro q
      rw [List.all_eq_true] at q
      refine h (List.ext_getElem hl fun j h1 h2 => ?_)
      have q1 := q j (List.mem_range.mpr h1)
      rw [List.getD_eq_getElem?_getD, List.getD_eq_getElem?_getD, List.getElem?_eq_getElem (by simpa using h1), List.getElem?_eq_getElem (by simpa using h2), Option.getD_some, Option.getD_some, List.getElem_map, List.getElem_map] at q1
      have q2 : (ns[j] == ms[j]) = true := q1
      exact eq_of_beq q2
    · rw [List.length_map, List.length_map, decide_eq_false hl, Bool.false_and]
def rEqL (K : PySem.W.Frag) (neg : Bool) : R2 := fun x y H Q => ∃ a b xs ys, x = .ref a ∧ y = .ref b ∧ SqL K H a xs ∧ SqL K H b ys ∧ (xs.length = ys.length → xs.all flatV = true ∧ ys.all flatV = true) ∧ Q (.bl (if neg then !eqVs xs ys else eqVs xs ys)) H
theorem all_flat {xs : List V} {j : Nat} (h : xs.all flatV = true) (hj : j < xs.length) : flatV (xs.getD j .non) = true := by
  rw [List.getD_eq_getElem?_getD, List.getElem?_eq_getElem hj, Option.getD_some]
  exact List.all_eq_true.mp h _ (List.getElem_mem hj)
theorem eqL_go {A : Around} {s : Shared} {xs ys : List V} {us ws : List Value} (r : Vals xs us) (q : Vals ys ws) (fx : xs.all flatV = true) (fy : ys.all flatV = true) (j : Nat) (h1 : j < us.toArray.size) (h2 : j < ws.toArray.size) :
    SeqAt.EqAt A s us.toArray[j] ws.toArray[j] (eqV (xs.getD j .non) (ys.getD j .non)) := by
  have hx : j < xs.length := by rw [r.length]; simpa using h1
  have hy : j < ys.length := by rw [q.length]; simpa using h2
  obtain ⟨u, eu, ru⟩ := r.get (i := j) (x := xs.getD j .non) (by rw [List.getD_eq_getElem?_getD, List.getElem?_eq_getElem hx]; rfl)
  obtain ⟨w, ew, rw'⟩ := q.get (i := j) (x := ys.getD j .non) (by rw [List.getD_eq_getElem?_getD, List.getElem?_eq_getElem hy]; rfl)
  have e1 : us.toArray[j] = u := by
    have := List.getElem?_eq_getElem (l := us) (i := j) (by simpa using h1)
    rw [eu] at this
    simpa using (Option.some.inj this).symm
  have e2 : ws.toArray[j] = w := by
    have := List.getElem?_eq_getElem (l := ws) (i := j) (by simpa using h2)
    rw [ew] at this
    simpa using (Option.some.inj this).symm
  rw [e1, e2]
  exact eqAt_V ru rw' (all_flat fx hx) (all_flat fy hy)
theorem op_eqL (hu : X.A.units < cLine) : OpR X (compareOp .Eq) (rEqL X.K false) := by
  intro pins s σ H x y v u Q I rx ry h
  obtain ⟨a, b, xs, ys, rfl, rfl, ha, hb, hf, q⟩ := h
  cases rx
  cases ry
  obtain ⟨us, r1, p1, _⟩ := I.list ha
  obtain ⟨ws, r2, p2, _⟩ := I.list hb
  have l1 := r1.length
  have l2 := r2.length
  by_cases hl : xs.length = ys.length
  · obtain ⟨fx, fy⟩ := hf hl
    refine SeqAt.eq_listAt (e := fun j => eqV (xs.getD j .non) (ys.getD j .non)) p1.isList p2.isList (by simp only [List.size_toArray]; omega) hu (fun j h1 h2 => eqL_go r1 r2 fx fy j h1 h2) ⟨.bl _, H, I, rfl, ?_⟩
    have e : eqVs xs ys = (List.range us.toArray.size).all fun j => eqV (xs.getD j .non) (ys.getD j .non) := by
      unfold eqVs; rw [decide_eq_true hl, Bool.true_and, l1, List.size_toArray]
    rw [← e]; exact q
  · refine SeqAt.eq_list_lengthsAt p1.isList p2.isList (by simp only [List.size_toArray, bne_iff_ne, ne_eq]; omega) hu ⟨.bl _, H, I, rfl, ?_⟩
    have e : eqVs xs ys = false := by unfold eqVs; rw [decide_eq_false hl, Bool.false_and]
    rw [e] at q; exact q
theorem op_neL (hu : X.A.units < cLine) : OpR X (compareOp .NotEq) (rEqL X.K true) := by
  intro pins s σ H x y v u Q I rx ry h
  obtain ⟨a, b, xs, ys, rfl, rfl, ha, hb, hf, q⟩ := h
  cases rx
  cases ry
  obtain ⟨us, r1, p1, _⟩ := I.list ha
  obtain ⟨ws, r2, p2, _⟩ := I.list hb
  have l1 := r1.length
  have l2 := r2.length
  by_cases hl : xs.length = ys.length
  · obtain ⟨fx, fy⟩ := hf hl
    refine SeqAt.RcNeAt.lists (e := fun j => eqV (xs.getD j .non) (ys.getD j .non)) p1.isList p2.isList (by simp only [List.size_toArray]; omega) hu (fun j h1 h2 => eqL_go r1 r2 fx fy j h1 h2) _ _ _ _ ⟨.bl _, H, I, rfl, ?_⟩
    have e : eqVs xs ys = (List.range us.toArray.size).all fun j => eqV (xs.getD j .non) (ys.getD j .non) := by
      unfold eqVs; rw [decide_eq_true hl, Bool.true_and, l1, List.size_toArray]
    rw [← e]; exact q
  · refine SeqAt.RcNeAt.lists_lengths p1.isList p2.isList (by simp only [List.size_toArray, bne_iff_ne, ne_eq]; omega) hu _ _ _ _ ⟨.bl _, H, I, rfl, ?_⟩
    have e : eqVs xs ys = false := by unfold eqVs; rw [decide_eq_false hl, Bool.false_and]
    rw [e] at q; exact q
theorem flat_ints (ns : List Int) : (ns.map V.int).all flatV = true := by rw [List.all_eq_true]; intro x hx; obtain ⟨n, _, rfl⟩ := List.mem_map.mp hx; rfl
/-- two lists of ints -/
theorem eqI {K : PySem.W.Frag} {H : Hp} {Q : VK} {a b : Addr} {ns ms : List Int} (ha : SqL K H a (ns.map V.int)) (hb : SqL K H b (ms.map V.int)) (q : Q (.bl (decide (ns = ms))) H) : rEqL K false (.ref a) (.ref b) H Q :=
  ⟨a, b, _, _, rfl, rfl, ha, hb, fun _ => ⟨flat_ints _, flat_ints _⟩, by rw [eqVs_ints]; exact q⟩
theorem neI {K : PySem.W.Frag} {H : Hp} {Q : VK} {a b : Addr} {ns ms : List Int} (ha : SqL K H a (ns.map V.int)) (hb : SqL K H b (ms.map V.int)) (q : Q (.bl (!decide (ns = ms))) H) : rEqL K true (.ref a) (.ref b) H Q :=
  ⟨a, b, _, _, rfl, rfl, ha, hb, fun _ => ⟨flat_ints _, flat_ints _⟩, by rw [eqVs_ints]; exact q⟩
/-! ### sum, max, min of a list of ints -/
/-! ### isinstance(x, a built-in class) -/
theorem call_isinst : CallR X (.builtin "isinstance") (fun xs H Q => ∃ (x : V) (T : String) (t : Value) (b : Bool), xs = [x, .ty T] ∧ TyOf X.K H x t ∧ PySem.W.kitOne X.K t (.type T) = some b ∧ Q (.bl b) H) := by
  intro pins s σ H xs us Q I r h
  obtain ⟨x, T, t, b, rfl, ty, e, q⟩ := h
  obtain ⟨u, w, rfl, ru, rw'⟩ := vals2 r
  cases (show w = Value.type T from rw')
  exact isinst_ok I ru ty e fun tk => ⟨.bl b, H, I.tok tk, rfl, q⟩
theorem kit_same {K : PySem.W.Frag} {t : Value} : PySem.W.kitOne K t t = some true := by unfold PySem.W.kitOne; rw [if_pos (beq_self_eq_true t)]
theorem kit_ty {K : PySem.W.Frag} {T U : String} {b : Bool} (hne : (Value.type T == Value.type U) = false) (hm : PySem.W.kitMeta U = true) (hs : (fastBuiltinMro T).map (·.contains (Value.type U)) = some b) : PySem.W.kitOne K (.type T) (.type U) = some b := by
  unfold PySem.W.kitOne
  rw [if_neg (by rw [hne]; exact Bool.false_ne_true)]
  unfold PySem.W.kitCls
  dsimp only
  rw [if_pos hm]
  exact hs
theorem kit_int_bool {K : PySem.W.Frag} : PySem.W.kitOne K (.type "int") (.type "bool") = some false := kit_ty (by decide +kernel) (by decide +kernel) (by decide +kernel)
theorem boot_bool' : bootBuiltins "bool" = some (.type "bool") := by decide +kernel
theorem boot_int' : bootBuiltins "int" = some (.type "int") := by decide +kernel
theorem boot_list' : bootBuiltins "list" = some (.type "list") := by decide +kernel
theorem boot_isinst' : bootBuiltins "isinstance" = some (.builtin "isinstance") := by decide +kernel
/-! ### enumerate over a list, its tuples let go by the target -/
end
end L2

set_option Elab.async false
set_option linter.all false
set_option maxRecDepth 100000
set_option maxHeartbeats 4000000
/-! list(enumerate(a list)): every pair is a tuple of its own, since the list keeps it. -/
namespace EnL
open PySem PySem.Calls PyProof.Rows PySem.Spec
abbrev EnIt (h : Heap) (e it : Addr) (i : Int) (old : Value) (a : Addr) (f : Bool) : Prop :=
  h.get? e = some { cls := .type "enumerate", dict := none, data := .fields #[rawInt a, .bool f, .ref it, rawInt i, .none, old], slots := #[] }
section
variable {prog : Program} {w : World} {A : Around} {E : Value → Shared → Prop} {s : Shared}
theorem next_out {e it l a : Addr} {f : Bool} {oa : Obj} {i : Nat} {items : Array Value} {x old : Value} {Q : Option Value → Shared → Prop} (he : EnIt s.heap e it i old a f) (ha : s.heap.get? a = some oa) (hae : a ≠ e) (hai : a ≠ it)
    (hit : s.heap.IsListIter it l i) (hl : s.heap.IsList l items) (hx : items[i]? = some x) (hne : e ≠ it)
    (hQ : ∀ h' t, EnIt h' e it ((i : Int) + 1) old a true → h'.IsListIter it l (i + 1) → h'.get? s.heap.objs.size = some { cls := .type "tuple", data := .seq #[.int i t, x] } → h'.objs.size = s.heap.objs.size + 1 →
      (∀ b o, b ≠ e → b ≠ it → s.heap.get? b = some o → h'.get? b = some o) → Q (some (.ref s.heap.objs.size)) { s with heap := h', toks := s.toks + 1 }) :
    wpAny (model prog w) A (pyNext (.ref e)) Q E s := by
  have hT : s.TypeIs (.ref e) "enumerate" := ⟨_, he, rfl⟩
  unfold pyNext
  refine wpAny_bind (wpAny_attempt (wpAny_callSpecial?_slot (name := Str.ofString "__next__") hT F.slot_enumerate_next (wpAny_call_entry F.slot_enumerate_next hT F.entry_enumerate_next ?_ (F.args_enumerate_next_1 _))))
  obtain ⟨hp, g, d, tk, os⟩ := s
  show wpAny _ _ (field (.ref e) 2 >>= _) _ _ _; refine wpAny_bind (wpAny_field he rfl (x := .ref it) rfl ?_)
  refine wpAny_bind (wpAny_nextOf_list_item hit hl hx fun h1 hit1 hs1 => ?_)
  replace hs1 : Heap.SameBut it hp h1 := hs1
  have he1 : EnIt h1 e it i old a f := (hs1.2 e hne).trans he
  show wpAny _ _ (field (.ref e) 3 >>= _) _ _ ⟨h1, g, d, tk, os⟩; refine wpAny_bind (wpAny_field he1 rfl (x := rawInt i) rfl ?_)
  show wpAny _ _ (field (.ref e) 4 >>= _) _ _ ⟨h1, g, d, tk, os⟩; refine wpAny_bind (wpAny_field he1 rfl (x := .none) rfl ?_)
  show wpAny _ _ (mkInt i >>= _) _ _ ⟨h1, g, d, tk, os⟩; refine wpAny_bind (wpAny_mkInt ?_)
  show wpAny _ _ (setField (.ref e) 3 (rawInt ((i : Int) + 1)) >>= _) _ _ ⟨h1, g, d, tk + 1, os⟩
  refine wpAny_bind (wpAny_setField_rec he1 (by simp) fun h2 he2 hs2 => ?_)
  replace hs2 : Heap.SameBut e h1 h2 := hs2
  replace he2 : EnIt h2 e it ((i : Int) + 1) old a f := he2
  show wpAny _ _ (setField (.ref e) 4 .none >>= _) _ _ ⟨h2, g, d, tk + 1, os⟩
  refine wpAny_bind (wpAny_setField_rec he2 (by simp) fun h3 he3 hs3 => ?_)
  replace hs3 : Heap.SameBut e h2 h3 := hs3
  replace he3 : EnIt h3 e it ((i : Int) + 1) old a f := he3
  show wpAny _ _ (newTuple [.int i tk, x] >>= _) _ _ ⟨h3, g, d, tk + 1, os⟩
  refine wpAny_bind (wpAny_newTuple ?_)
  have he4 : EnIt (h3.push { cls := .type "tuple", data := .seq #[.int i tk, x] }) e it ((i : Int) + 1) old a f := Heap.get?_push_of_some _ he3
  generalize hh4 : h3.push { cls := .type "tuple", data := .seq #[.int i tk, x] } = h4 at he4
  have hsz : h3.objs.size = hp.objs.size := by rw [hs3.1, hs2.1, hs1.1]
  have hel : e < hp.objs.size := Heap.lt_size he
  have ht4 : h4.get? hp.objs.size = some { cls := .type "tuple", data := .seq #[.int i tk, x] } := by rw [← hh4, ← hsz]; exact Heap.get?_push_size _ rfl
  have hz4 : h4.objs.size = hp.objs.size + 1 := by rw [← hh4, Heap.size_push, hsz]
  have hk4 : ∀ b o, b ≠ e → b ≠ it → hp.get? b = some o → h4.get? b = some o := fun b o hbe hbi hb => by
    rw [← hh4]; exact Heap.get?_push_of_some _ (hs3.extBut b o hbe (hs2.extBut b o hbe (hs1.extBut b o hbi hb)))
  have hit4 : h4.IsListIter it l (i + 1) := by
    rw [← hh4]; obtain ⟨o, ho, r⟩ := (hit1.extBut hs2.extBut (Ne.symm hne)).extBut hs3.extBut (Ne.symm hne); exact ⟨o, Heap.get?_push_of_some _ ho, r⟩
  show wpAny _ _ (Builtin.SmallTypes.ownedTupleIsFree (.ref e) >>= _) _ _ ⟨h4, g, d, tk + 1, os⟩
  rw [hsz]
  clear hh4 he3 hs3 he2 hs2 he1 hs1 hit1 hsz h3 h2 h1
  have ha4 : h4.get? a = some oa := hk4 a oa hae hai ha
  have fin : ∀ h5 : Heap, EnIt h5 e it ((i : Int) + 1) old a true → Heap.SameBut e h4 h5 → Q (some (.ref hp.objs.size)) ⟨h5, g, d, tk + 1, os⟩ := fun h5 he5 hs5 =>
    hQ h5 tk he5 (hit4.extBut hs5.extBut (Ne.symm hne)) (hs5.extBut _ _ (Nat.ne_of_gt hel) ht4) (by show h5.objs.size = hp.objs.size + 1; rw [hs5.1, hz4]) fun b o hbe hbi hb => hs5.extBut b o hbe (hk4 b o hbe hbi hb)
  refine wpAny_bind ?_
  unfold Builtin.SmallTypes.ownedTupleIsFree
  refine wpAny_bind (wpAny_field he4 rfl (x := rawInt a) rfl ?_)
  show wpAny _ _ (loadIfAlive ((a : Int).toNat) >>= _) _ _ _
  rw [Int.toNat_natCast]
  refine wpAny_bind (PySem.W.kdx_alive ha4 ?_)
  simp only [Option.isNone_some, Bool.false_eq_true, if_false]
  refine wpAny_bind (wpAny_field he4 rfl (x := .bool f) rfl ?_)
  cases f with
  | true =>
    rw [if_neg (show ¬ ((Value.bool true != Value.bool true) = true) from Bool.false_ne_true)]
    refine wpAny_pure ?_
    simp only [Bool.false_eq_true, if_false]
    exact wpAny_pure ⟨_, rfl, wpAny_pure (fin h4 he4 (Heap.SameBut.refl _ _))⟩
  | false =>
    rw [if_pos (show (Value.bool false != Value.bool true) = true from rfl)]
    refine wpAny_bind (wpAny_setField_rec he4 (by simp) fun h5 he5 hs5 => ?_)
    replace hs5 : Heap.SameBut e h4 h5 := hs5
    replace he5 : EnIt h5 e it ((i : Int) + 1) old a true := he5
    refine wpAny_pure ?_
    simp only [Bool.false_eq_true, if_false]
    exact wpAny_pure ⟨_, rfl, wpAny_pure (fin h5 he5 hs5)⟩
theorem end_out {e it l a : Addr} {f : Bool} {i : Nat} {items : Array Value} {old : Value} {Q : Option Value → Shared → Prop} (hh : A.handled = none) (he : EnIt s.heap e it i old a f) (hit : s.heap.IsListIter it l i) (hl : s.heap.IsList l items) (hx : items[i]? = none)
    (hQ : ∀ h', Heap.ExtBut it s.heap h' → Q none { s with heap := h' }) : wpAny (model prog w) A (pyNext (.ref e)) Q E s := by
  have hT : s.TypeIs (.ref e) "enumerate" := ⟨_, he, rfl⟩
  unfold pyNext
  refine wpAny_bind (wpAny_attempt (wpAny_callSpecial?_slot (name := Str.ofString "__next__") hT F.slot_enumerate_next (wpAny_call_entry F.slot_enumerate_next hT F.entry_enumerate_next ?_ (F.args_enumerate_next_1 _))))
  show wpAny _ _ (field (.ref e) 2 >>= _) _ _ _; refine wpAny_bind (wpAny_field he rfl (x := .ref it) rfl ?_)
  refine wpAny_bind (wpAny_nextOf_list_end hh hit hl hx fun h' x he' hx' => ?_)
  obtain ⟨o, ho, hc⟩ := hx'
  refine wpAny_bind (wpAny_isInstance (T := "StopIteration") (b := true) ⟨o, ho, hc⟩ isSubtype_stop ?_); exact wpAny_pure (hQ _ he')
def EnSt (h : Heap) (e it S : Addr) (i : Nat) : Prop :=
  (i = 0 ∧ ∃ old, IsEnum h e it 0 old) ∨ ∃ old a f oa, EnIt h e it i old a f ∧ h.get? a = some oa ∧ a ≠ e ∧ a ≠ it ∧ a ≠ S
theorem EnSt.keep {h h' : Heap} {e it S : Addr} {i : Nat} (x : EnSt h e it S i) (hk : ∀ b o, b ≠ S → h.get? b = some o → h'.get? b = some o) (hI : e ≠ S) : EnSt h' e it S i := by
  rcases x with ⟨z, old, he⟩ | ⟨old, a, f, oa, he, ha, h1, h2, h3⟩
  · exact .inl ⟨z, old, hk _ _ hI he⟩
  · exact .inr ⟨old, a, f, oa, hk _ _ hI he, hk _ _ h3 ha, h1, h2, h3⟩
theorem item {e it l S : Addr} {i : Nat} {items : Array Value} {x : Value} {Q : Option Value → Shared → Prop} (hst : EnSt s.heap e it S i) (hS : S < s.heap.objs.size) (hit : s.heap.IsListIter it l i) (hl : s.heap.IsList l items) (hx : items[i]? = some x) (hne : e ≠ it)
    (hQ : ∀ h' t, EnSt h' e it S (i + 1) → h'.IsListIter it l (i + 1) → h'.get? s.heap.objs.size = some { cls := .type "tuple", data := .seq #[.int i t, x] } → h'.objs.size = s.heap.objs.size + 1 →
      (∀ b o, b ≠ e → b ≠ it → s.heap.get? b = some o → h'.get? b = some o) → Q (some (.ref s.heap.objs.size)) { s with heap := h', toks := s.toks + 1 }) :
    wpAny (model prog w) A (pyNext (.ref e)) Q E s := by
  have hil : it < s.heap.objs.size := by obtain ⟨_, q, _⟩ := hit; exact Heap.lt_size q
  rcases hst with ⟨rfl, old, he⟩ | ⟨old, a, f, oa, he, ha, h1, h2, h3⟩
  · exact wpAny_pyNext_enum_item he hit hl hx hne fun h' ho hit' ht hz hk => hQ h' s.toks (.inr ⟨x, _, false, _, by simpa using ho, ht, Nat.ne_of_gt (Heap.lt_size he), Nat.ne_of_gt hil, Nat.ne_of_gt hS⟩) hit' ht hz hk
  · exact next_out he ha h1 h2 hit hl hx hne fun h' t ho hit' ht hz hk => hQ h' t (.inr ⟨old, a, true, oa, by simpa using ho, hk a oa h1 h2 ha, h1, h2, h3⟩) hit' ht hz hk
theorem done {e it l S : Addr} {i : Nat} {items : Array Value} {Q : Option Value → Shared → Prop} (hh : A.handled = none) (hst : EnSt s.heap e it S i) (hit : s.heap.IsListIter it l i) (hl : s.heap.IsList l items) (hx : items[i]? = none)
    (hQ : ∀ h', Heap.ExtBut it s.heap h' → Q none { s with heap := h' }) : wpAny (model prog w) A (pyNext (.ref e)) Q E s := by
  rcases hst with ⟨rfl, old, he⟩ | ⟨old, a, f, oa, he, ha, h1, h2, h3⟩
  · exact wpAny_pyNext_enum_end hh he hit hl hx hQ
  · exact end_out hh he hit hl hx hQ
/-- the pairs told so far -/
structure Prs (items : Array Value) (lo : Addr) (h : Heap) (as : List Addr) : Prop where
  rise : as.Pairwise (· < ·)
  above : ∀ a ∈ as, lo < a
  pairs : ∀ (j : Nat) (a : Addr), as[j]? = some a → ∃ t x, items[j]? = some x ∧ h.get? a = some { cls := .type "tuple", data := .seq #[.int j t, x] }
theorem Prs.there {items : Array Value} {lo : Addr} {h : Heap} {as : List Addr} (g : Prs items lo h as) {a : Addr} (ha : a ∈ as) : a < h.objs.size := by
  obtain ⟨j, hj⟩ := List.mem_iff_getElem?.mp ha
  obtain ⟨_, _, _, e⟩ := g.pairs j a hj
  exact Heap.lt_size e
end
section
variable {prog : Program} {w : World} {A : Around} {s : Shared} {R : Result → Shared → Prop} {items : Array Value}
theorem loop {S e it l : Addr} (hh : A.handled = none) (hSe : S ≠ e) (hSi : S ≠ it) (hSl : l ≠ S) (hle : l ≠ e) (hli : l ≠ it) (hne : e ≠ it) (lo : Addr) (hlo : S ≤ lo ∧ e ≤ lo ∧ it ≤ lo) (hn : items.size ≤ sizeLine) (res : Value) {h0 : Heap}
    (hR : ∀ h' tk acc c as, (∀ b o, b ≠ S → b ≠ e → b ≠ it → h0.get? b = some o → h'.get? b = some o) → h'.get? S = some { cls := .type "list", dict := none, data := .seq acc c, slots := #[] } → as.length = items.size → Prs items lo h' as →
      acc.toList = as.map Value.ref → R (.ok (.ret res)) { s with heap := h', toks := tk }) :
    ∀ (k i : Nat) (h : Heap) (tk c : Nat) (acc : Array Value) (as : List Addr), items.size - i = k → i ≤ items.size → EnSt h e it S i → h.IsListIter it l i → h.IsList l items → (∀ b o, b ≠ S → b ≠ e → b ≠ it → h0.get? b = some o → h.get? b = some o) →
      h.get? S = some { cls := .type "list", dict := none, data := .seq acc c, slots := #[] } → acc.toList = as.map Value.ref → as.length = i → Prs items lo h as → lo < h.objs.size →
      codeAny (model prog w) A (.builtin "list.extend.loop" ⟨[.ref S, .ref e, res], []⟩) R { s with heap := h, toks := tk } := by
  intro k
  induction k with
  | zero =>
    intro i h tk c acc as hk hi hst hit hl hkeep hS hacc hal hG hIs
    refine codeAny_builtin PySem.F.entry_extend_loop ?_; rw [Around.under_plainId PySem.F.plain_extend_loop _]
    show wpAny _ A.in1 (pyNext (.ref e) >>= _) _ _ _
    refine wpAny_bind (done (s := { s with heap := h, toks := tk }) (A := A.in1) hh hst hit hl (Array.getElem?_eq_none (by omega)) fun h' he => ?_)
    refine wpAny_pure (hR h' tk acc c as (fun b o h1 h2 h3 q => he b o h3 (hkeep b o h1 h2 h3 q)) (he S _ hSi hS) (by omega) ⟨hG.rise, hG.above, fun j a hj => ?_⟩ hacc)
    obtain ⟨t, x, e1, e2⟩ := hG.pairs j a hj
    exact ⟨t, x, e1, he a _ (Nat.ne_of_gt (Nat.lt_of_le_of_lt hlo.2.2 (hG.above a (List.mem_of_getElem? hj)))) e2⟩
  | succ k ih =>
    intro i h tk c acc as hk hi hst hit hl hkeep hS hacc hal hG hIs
    have hlt : i < items.size := by omega
    have hx : items[i]? = some items[i] := Array.getElem?_eq_getElem hlt
    have hsz : acc.size = i := by rw [← Array.length_toList, hacc, List.length_map, hal]
    refine codeAny_builtin PySem.F.entry_extend_loop ?_; rw [Around.under_plainId PySem.F.plain_extend_loop _]
    show wpAny _ A.in1 (pyNext (.ref e) >>= _) _ _ _
    refine wpAny_bind (item (s := { s with heap := h, toks := tk }) (S := S) hst (Heap.lt_size hS) hit hl hx hne fun h' t hst' hit' ht hz hkp => ?_)
    dsimp only at ht hz hkp ⊢
    have hS' := hkp S _ hSe hSi hS
    have up : ∀ b o, b ≠ S → h'.get? b = some o → (h'.update S (Obj.mapSeq (·.push (Value.ref h.objs.size)))).get? b = some o := fun b o hb q => (Heap.get?_update_other _ _ (Ne.symm hb)).trans q
    have hSl' : S < h.objs.size := Heap.lt_size hS
    show wpAny _ A.in1 (updateSeq S (·.push (Value.ref h.objs.size)) >>= _) _ _ _
    refine wpAny_bind ?_
    refine wpAny_updateSeq hS' rfl (wpAny_pure ⟨plainId_quiet PySem.F.plain_extend_loop _, ih (i + 1) _ _ _ (acc.push (Value.ref h.objs.size)) (as ++ [h.objs.size]) (by omega) hlt (hst'.keep up (Ne.symm hSe)) (hit'.at fun o q => up it o (Ne.symm hSi) q)
      (hl.at fun o q => up l o hSl (hkp l o hle hli q)) (fun b o h1 h2 h3 q => up b o h1 (hkp b o h2 h3 (hkeep b o h1 h2 h3 q))) (Heap.get?_update_self _ hS' rfl) (by rw [Array.toList_push, hacc, List.map_append]; rfl) (by rw [List.length_append, hal]; rfl) ⟨?_, ?_, ?_⟩ ?_⟩)
      (by rw [hsz]; omega) (by show (acc.push (Value.ref h.objs.size)).size ≤ sizeLine + 1; rw [Array.size_push, hsz]; omega)
    · refine List.pairwise_append.mpr ⟨hG.rise, List.pairwise_singleton _ _, fun a ha b hb => ?_⟩
      rw [List.mem_singleton.mp hb]; exact hG.there ha
    · intro a ha
      rcases List.mem_append.mp ha with ha | ha
      · exact hG.above a ha
      · rw [List.mem_singleton.mp ha]; exact hIs
    · intro j b hj
      rcases Nat.lt_trichotomy j as.length with h1 | h1 | h1
      · rw [List.getElem?_append_left h1] at hj
        obtain ⟨t', x', e1, e2⟩ := hG.pairs j b hj
        have hb := hG.above b (List.mem_of_getElem? hj)
        exact ⟨t', x', e1, up b _ (Nat.ne_of_gt (Nat.lt_of_le_of_lt hlo.1 hb)) (hkp b _ (Nat.ne_of_gt (Nat.lt_of_le_of_lt hlo.2.1 hb)) (Nat.ne_of_gt (Nat.lt_of_le_of_lt hlo.2.2 hb)) e2)⟩
      · subst h1
        have hb : h.objs.size = b := by simpa using hj
        subst hb
        subst hal
        exact ⟨t, _, hx, up _ _ (Nat.ne_of_gt hSl') ht⟩
      · have hnone : (as ++ [h.objs.size])[j]? = none := List.getElem?_eq_none (by rw [List.length_append, List.length_singleton]; omega)
        rw [hnone] at hj; cases hj
    · have q : (h'.update S (Obj.mapSeq (·.push (Value.ref h.objs.size)))).get? h.objs.size = _ := up _ _ (Nat.ne_of_gt hSl') ht
      exact Nat.lt_trans hIs (Heap.lt_size q)
end
theorem no_len : typeLookup (.type "enumerate") "__len__" = pure none := by rw [typeLookup_type, builtinLookup_eq_fast]; kernel_rfl
theorem no_hint : typeLookup (.type "enumerate") "__length_hint__" = pure none := by rw [typeLookup_type, builtinLookup_eq_fast]; kernel_rfl
section
variable {prog : Program} {w : World} {A : Around} {E : Value → Shared → Prop} {s : Shared} {items : Array Value} {e it l : Addr} {old : Value}
theorem extend {R : Result → Shared → Prop} (hh : A.handled = none) (he : IsEnum s.heap e it 0 old) (hit : s.heap.IsListIter it l 0) (hl : s.heap.IsList l items) (hne : e ≠ it) (S : Addr) (hSe : S ≠ e) (hSi : S ≠ it) (hSl : l ≠ S) (res : Value) (c0 : Nat)
    (hS : s.heap.get? S = some { cls := .type "list", data := .seq #[] c0 }) (hn : items.size ≤ sizeLine)
    (hR : ∀ h' tk acc c as, (∀ b o, b ≠ S → b ≠ e → b ≠ it → s.heap.get? b = some o → h'.get? b = some o) → h'.get? S = some { cls := .type "list", dict := none, data := .seq acc c, slots := #[] } → as.length = items.size → Prs items (s.heap.objs.size - 1) h' as →
      acc.toList = as.map Value.ref → R (.ok (.ret res)) { s with heap := h', toks := tk }) :
    wpAny (model prog w) A.in1 (Builtin.List.listExtendWith (.ref S) (.ref e) res)
      (fun fin s' => match fin with | .done f => R (.ok f) s' | .again c' => c'.quiet = true ∧ codeAny (model prog w) A c' R s') (fun x s' => R (.error x) s') s := by
  have hT : s.TypeIs (.ref e) "enumerate" := ⟨_, he, rfl⟩
  have ls : S < s.heap.objs.size := Heap.lt_size hS
  have le : e < s.heap.objs.size := Heap.lt_size he
  have li : it < s.heap.objs.size := by obtain ⟨_, q, _⟩ := hit; exact Heap.lt_size q
  have hle : l ≠ e := by rintro rfl; obtain ⟨o, q, c, _⟩ := hl; rw [he] at q; cases q; exact absurd (show Value.type "enumerate" = Value.type "list" from c) (by decide)
  have hli : l ≠ it := by rintro rfl; obtain ⟨o, q, c, _⟩ := hl; obtain ⟨o', q', c', _⟩ := hit; rw [q] at q'; cases q'; rw [c] at c'; exact absurd c' (by decide)
  have key : ∀ (h : Heap) (c1 tk : Nat), (∀ b o, b ≠ S → s.heap.get? b = some o → h.get? b = some o) → h.get? S = some { cls := .type "list", data := .seq #[] c1 } → s.heap.objs.size ≤ h.objs.size →
      codeAny (model prog w) A (.builtin "list.extend.loop" ⟨[.ref S, .ref e, res], []⟩) R { s with heap := h, toks := tk } := by
    intro h c1 tk hk hS1 hz
    exact loop (items := items) (s := s) (h0 := s.heap) hh hSe hSi hSl hle hli hne (s.heap.objs.size - 1) ⟨Nat.le_sub_one_of_lt ls, Nat.le_sub_one_of_lt le, Nat.le_sub_one_of_lt li⟩ hn res hR items.size 0 h tk c1 #[] [] (Nat.sub_zero _) (Nat.zero_le _)
      (.inl ⟨rfl, old, hk _ _ (Ne.symm hSe) he⟩) (hit.at fun o q => hk it o (Ne.symm hSi) q) (hl.at fun o q => hk l o hSl q) (fun b o hb _ _ q => hk b o hb q) hS1 rfl rfl ⟨List.Pairwise.nil, (fun _ ha => nomatch ha), (fun j a hj => by simp at hj)⟩ (Nat.lt_of_lt_of_le (Nat.sub_lt (Nat.lt_of_le_of_lt (Nat.zero_le _) ls) Nat.zero_lt_one) hz)
  unfold Builtin.List.listExtendWith
  refine wpAny_bind (wpAny_typeOf (T := "enumerate") hT ?_)
  have h1 : Builtin.List.listSameRef (.ref S) (.ref e) = false := by simp [Builtin.List.listSameRef, hSe]
  have h2 : (Value.type "enumerate" == Value.type "list") = false := by decide
  have h3 : (Value.type "enumerate" == Value.type "tuple") = false := by decide
  simp only [h1, h2, h3, Bool.or_false, Bool.false_eq_true, if_false]
  refine wpAny_bind (wpAny_pyIter_enum he ?_)
  refine wpAny_bind (wpAny_holding ?_)
  unfold Builtin.List.listLengthHint
  refine wpAny_bind (wpAny_specialOf hT no_len ?_)
  show wpAny _ A.in1 (specialOf (Value.ref e) (Str.ofString "__length_hint__") >>= _) _ _ _
  refine wpAny_bind (wpAny_specialOf hT no_hint ?_)
  refine wpAny_pure ?_
  show wpAny _ A.in1 (rule "list.extend.makes-room" >>= fun _ => Builtin.List.listTouch (.ref S) >>= fun _ => again (.builtin "list.extend.loop" ⟨[.ref S, .ref e, res], []⟩)) _ _ _
  refine wpAny_bind (wpAny_rule ?_)
  refine wpAny_bind ?_
  show wpAny _ A.in1 (updateSeq S (·.push .none) >>= fun _ => updateSeq S (·.pop)) _ _ _
  refine wpAny_bind (wpAny_updateSeq hS rfl ?_)
  have hS2 := Heap.get?_update_self (Obj.mapSeq (·.push Value.none)) hS rfl
  refine wpAny_updateSeq (hz := by seq_fits) hS2 rfl ?_
  have hS3 := Heap.get?_update_self (Obj.mapSeq (·.pop)) hS2 rfl
  refine wpAny_pure ⟨plainId_quiet PySem.F.plain_extend_loop _, key _ _ _ (fun b o hb q => ?_) hS3 ?_⟩
  · exact (Heap.get?_update_other _ _ (Ne.symm hb)).trans ((Heap.get?_update_other _ _ (Ne.symm hb)).trans q)
  · rw [(Heap.SameBut.update ..).1, (Heap.SameBut.update ..).1]; exact Nat.le_refl _
theorem call {Q : Value → Shared → Prop} (hh : A.handled = none) (he : IsEnum s.heap e it 0 old) (hit : s.heap.IsListIter it l 0) (hl : s.heap.IsList l items) (hne : e ≠ it) (hn : items.size ≤ sizeLine)
    (hQ : ∀ h' tk acc c as, (∀ b o, b ≠ e → b ≠ it → s.heap.get? b = some o → h'.get? b = some o) → h'.get? s.heap.objs.size = some { cls := .type "list", dict := none, data := .seq acc c, slots := #[] } → as.length = items.size → Prs items s.heap.objs.size h' as →
      acc.toList = as.map Value.ref → Q (.ref s.heap.objs.size) { s with heap := h', toks := tk }) :
    wpAny (model prog w) A (PySem.call (.type "list") [.ref e]) Q E s := by
  refine callType_codes (Q₁ := fun obj s₁ => obj = .ref s.heap.objs.size ∧ s₁ = { s with heap := s.heap.push { cls := .type "list", data := .seq #[] } }) PySem.F.called_list (PySem.F.typeCall_list_1 _) PySem.F.entry_list_init (code_list_new _ ⟨rfl, rfl⟩) fun obj s1 h1 => ?_
  obtain ⟨rfl, rfl⟩ := h1
  have hS : (s.heap.push { cls := .type "list", data := .seq #[] }).get? s.heap.objs.size = some { cls := .type "list", data := .seq #[] } := Heap.get?_push_size _ rfl
  have le : e < s.heap.objs.size := Heap.lt_size he
  have li : it < s.heap.objs.size := by obtain ⟨_, q, _⟩ := hit; exact Heap.lt_size q
  have ll : l < s.heap.objs.size := by obtain ⟨_, q, _⟩ := hl; exact Heap.lt_size q
  refine ⟨⟨_, hS, rfl⟩, PySem.F.args_list_init_2 _ _, ?_⟩
  show wpAny _ _ (do let old ← Builtin.List.listItems (.ref s.heap.objs.size); Builtin.List.listUpdate (.ref s.heap.objs.size) (fun _ => #[]); letGo old.toList.reverse; Builtin.List.listExtendWith (.ref s.heap.objs.size) (.ref e) .none) _ _ _
  refine wpAny_bind ?_
  unfold Builtin.List.listItems
  refine wpAny_bind (wpAny_seqItems hS rfl (wpAny_pure ?_))
  show wpAny _ _ (updateSeq s.heap.objs.size (fun _ => #[]) >>= fun _ => letGo (#[] : Array Value).toList.reverse >>= fun _ => Builtin.List.listExtendWith (.ref s.heap.objs.size) (.ref e) .none) _ _ _
  refine wpAny_bind (wpAny_updateSeq hS rfl ?_)
  have hS2 := Heap.get?_update_self (Obj.mapSeq (fun _ => (#[] : Array Value))) hS rfl
  have oth : ∀ b o, s.heap.get? b = some o → ((s.heap.push { cls := .type "list", data := .seq #[] }).update s.heap.objs.size (Obj.mapSeq (fun _ => (#[] : Array Value)))).get? b = some o :=
    fun b o q => (Heap.get?_update_other _ _ (Nat.ne_of_gt (Heap.lt_size q))).trans (Heap.get?_push_of_some _ q)
  refine wpAny_bind (wpAny_letGo ?_)
  refine extend (A := A.in1) (items := items) (l := l) (it := it) (old := old) hh (oth e _ he) (hit.at fun o q => oth it o q) (hl.at fun o q => oth l o q) hne _ (Nat.ne_of_gt le) (Nat.ne_of_gt li) (Nat.ne_of_lt ll) .none _ hS2 hn fun h' tk acc c as hk hS' hal hG hacc => ?_
  refine ⟨rfl, hQ h' tk acc c as (fun b o h1 h2 q => hk b o (Nat.ne_of_lt (Heap.lt_size q)) h1 h2 (oth b o q)) hS' hal ⟨hG.rise, fun a ha => ?_, hG.pairs⟩ hacc⟩
  have := hG.above a ha
  dsimp only at this
  rw [(Heap.SameBut.update ..).1, Heap.size_push] at this
  exact this
end
end EnL
namespace L2
open PySem PySem.Spec PyProof.Rows
section
variable {X : Cx}
end
end L2

set_option linter.all false
/-! Last and next places of a row, as plain functions. -/
namespace My
def lastIx (ns : List Int) (x : Int) : Nat → Int
  | 0 => -1
  | k + 1 => if ns.getD k 0 = x then (k : Int) else lastIx ns x k
def lastsM (ns : List Int) : List Int := (List.range ns.length).map fun k => lastIx ns (ns.getD k 0) k
def nextIx (ns : List Int) (x : Int) : Nat → Nat → Int
  | lo, 0 => (lo : Int)
  | lo, f + 1 => if ns.getD lo 0 = x then (lo : Int) else nextIx ns x (lo + 1) f
def nextsM (ns : List Int) : List Int := (List.range ns.length).map fun p => nextIx ns (ns.getD p 0) (p + 1) (ns.length - (p + 1))
theorem lastIx_lt (ns : List Int) (x : Int) : ∀ k, -1 ≤ lastIx ns x k ∧ lastIx ns x k < k
  | 0 => ⟨by simp [lastIx], by simp [lastIx]⟩
  | k + 1 => by
    have ih := lastIx_lt ns x k
    unfold lastIx
    split <;> constructor <;> omega
theorem lastIx_at (ns : List Int) (x : Int) : ∀ k, 0 ≤ lastIx ns x k → ns.getD (lastIx ns x k).toNat 0 = x
  | 0, h => by simp [lastIx] at h
  | k + 1, h => by
    unfold lastIx at h ⊢
    split at h
    · rename_i e
      rw [if_pos e]
      simpa using e
    · rename_i e
      rw [if_neg e]
      exact lastIx_at ns x k h
theorem lastIx_max (ns : List Int) (x : Int) : ∀ k j, j < k → ns.getD j 0 = x → (j : Int) ≤ lastIx ns x k
  | 0, j, h, _ => by omega
  | k + 1, j, h, e => by
    unfold lastIx
    split
    · omega
    · rename_i ne
      by_cases hj : j = k
      · subst hj; exact absurd e ne
      · exact lastIx_max ns x k j (by omega) e
/-- what stands at p behind i turns: the next place so far, or the length -/
def NB (ns : List Int) (p i : Nat) (v : Int) : Prop :=
  (∃ j : Nat, p < j ∧ j < i ∧ ns.getD j 0 = ns.getD p 0 ∧ (∀ k, p < k → k < j → ns.getD k 0 ≠ ns.getD p 0) ∧ v = (j : Int)) ∨ ((∀ k, p < k → k < i → ns.getD k 0 ≠ ns.getD p 0) ∧ v = (ns.length : Int))
theorem NB.zero {ns : List Int} {p : Nat} : NB ns p 0 ns.length := .inr ⟨fun k _ h => by omega, rfl⟩
/-- turn i where the number stood nowhere ahead -/
theorem NB.stay {ns : List Int} {p i : Nat} {v : Int} (hl : lastIx ns (ns.getD i 0) i = -1) (h : NB ns p i v) : NB ns p (i + 1) v := by
  have no : ∀ k, k < i → ns.getD k 0 ≠ ns.getD i 0 := fun k hk e => by have := lastIx_max ns (ns.getD i 0) i k hk e; omega
  rcases h with ⟨j, h1, h2, h3, h4, rfl⟩ | ⟨h1, rfl⟩
  · exact .inl ⟨j, h1, by omega, h3, h4, rfl⟩
  · refine .inr ⟨fun k hk hk' e => ?_, rfl⟩
    by_cases z : k < i
    · exact h1 k hk z e
    · have : k = i := by omega
      subst this
      exact no p hk e.symm
/-- turn i where it stood at l last: elsewhere -/
theorem NB.other {ns : List Int} {p i l : Nat} {v : Int} (hl : lastIx ns (ns.getD i 0) i = (l : Int)) (hp : p ≠ l) (h : NB ns p i v) : NB ns p (i + 1) v := by
  have l1 := lastIx_lt ns (ns.getD i 0) i
  have l2 := lastIx_at ns (ns.getD i 0) i (by omega)
  rw [hl] at l1 l2
  simp only [Int.toNat_natCast] at l2
  rcases h with ⟨j, h1, h2, h3, h4, rfl⟩ | ⟨h1, rfl⟩
  · exact .inl ⟨j, h1, by omega, h3, h4, rfl⟩
  · refine .inr ⟨fun k hk hk' e => ?_, rfl⟩
    by_cases z : k < i
    · exact h1 k hk z e
    · have : k = i := by omega
      subst this
      have hm := lastIx_max ns (ns.getD k 0) k p hk e.symm
      rw [hl] at hm
      exact h1 l (by omega) (by omega) (by rw [l2, e])
/-- .. there -/
theorem NB.here {ns : List Int} {i l : Nat} (hl : lastIx ns (ns.getD i 0) i = (l : Int)) : NB ns l (i + 1) i := by
  have l1 := lastIx_lt ns (ns.getD i 0) i
  have l2 := lastIx_at ns (ns.getD i 0) i (by omega)
  rw [hl] at l1 l2
  simp only [Int.toNat_natCast] at l2
  refine .inl ⟨i, by omega, by omega, l2.symm, fun k hk hk' e => ?_, rfl⟩
  have hm := lastIx_max ns (ns.getD i 0) i k hk' (by rw [e, l2])
  rw [hl] at hm
  omega
end My

set_option Elab.async false
set_option linter.all false
set_option maxRecDepth 100000
set_option maxHeartbeats 4000000
/-! Short words of our own: a def that is there, the built-ins that the text leaves alone, heaps that changed at one place. -/
namespace L2
open PySem PySem.Spec PyProof.Rows
/-- the check of a comprehension's names, to be run -/
def lcChk (sc osc : Scope) (oN own N : List Str) (ix : List Nat) : Bool :=
  sc.kind == .function && sc.names.all (fun y => match y.2 with
    | .cell => sc.names.lookup y.1 == some .cell
    | .local => sc.names.lookup y.1 == some .local
    | .free => osc.names.lookup y.1 == some .cell || osc.names.lookup y.1 == some .free
    | _ => true) && decide (N = own ++ ix.map fun i => oN.getD i "") && ix.all fun i => sc.names.lookup (oN.getD i "") == some .free
theorem LcOk.of {X : Cx} {sc : Scope} {N own : List Str} {ix : List Nat} (h : lcChk sc X.env.scope X.N own N ix = true) : LcOk X sc N own ix := by
  unfold lcChk at h
  simp only [Bool.and_eq_true, decide_eq_true_eq, List.all_eq_true] at h
  obtain ⟨⟨⟨h1, h2⟩, h3⟩, h4⟩ := h
  refine ⟨by simpa using h1, fun y hy e => ?_, fun y hy e => ?_, fun y hy e => ?_, h3, fun i hi => by simpa using h4 i hi⟩
  · have := h2 y hy; rw [e] at this; simpa using this
  · have := h2 y hy; rw [e] at this; simpa using this
  · have := h2 y hy; rw [e] at this
    simpa [Env.kindOf] using this
section
/-! the rules whose readings name the written part, with that part said by itself -/
variable {X : Cx} {K : PySem.W.Frag}
theorem ixK (e : X.K = K) : IxR X (rIxL K) := by subst e; exact ix_list
theorem slK (e : X.K = K) : SlR X (rSlL K) := by subst e; exact sl_list
theorem eqLK (e : X.K = K) (hu : X.A.units < cLine) : OpR X (compareOp .Eq) (rEqL K false) := by subst e; exact op_eqL hu
theorem neLK (e : X.K = K) (hu : X.A.units < cLine) : OpR X (compareOp .NotEq) (rEqL K true) := by subst e; exact op_neL hu
theorem lenK (e : X.K = K) : CallR X (.builtin "len") (fun xs H Q => ∃ p ys, xs = [.ref p] ∧ (SqL K H p ys ∨ SqT K H p ys) ∧ Q (.int ys.length) H) := by subst e; exact call_len_seq
theorem listK (e : X.K = K) : CallR X (.type "list") (fun xs H Q => ∃ p ys, xs = [.ref p] ∧ (SqL K H p ys ∨ SqT K H p ys) ∧ ∀ l, H l = none → Q (.ref l) (upd H l (.lst ys))) := by subst e; exact call_list_of
theorem isiK (e : X.K = K) : CallR X (.builtin "isinstance") (fun xs H Q => ∃ (x : V) (T : String) (t : Value) (b : Bool), xs = [x, .ty T] ∧ TyOf K H x t ∧ PySem.W.kitOne K t (.type T) = some b ∧ Q (.bl b) H) := by subst e; exact call_isinst
theorem piK {tg l : Expr} {tl : TE} (e : X.K = K) (hl : PE X l tl) : PI X tg l (iList K tl) := by subst e; exact pi_list hl
end
/-- the built-ins stand as Python has them -/
structure Blt (mg : Str → Option Value) : Prop where
  len : mg "len" = none
  range : mg "range" = none
  enumerate : mg "enumerate" = none
  list : mg "list" = none
  int : mg "int" = none
  bool : mg "bool" = none
  sum : mg "sum" = none
  max : mg "max" = none
  min : mg "min" = none
  isinstance : mg "isinstance" = none
  set : mg "set" = none
  sorted : mg "sorted" = none
  tuple : mg "tuple" = none
  dict : mg "dict" = none
  abs : mg "abs" = none
  reversed : mg "reversed" = none
  repr : mg "repr" = none
  all : mg "all" = none
  any : mg "any" = none
  zip : mg "zip" = none
/-- a def that is there and keeps its promise -/
structure Has (P : Program) (w : World) (K : PySem.W.Frag) (mg : Str → Option Value) (base : Heap) (x : Str) (k : Nat) (ps : List Str) (sp : Sp) : Prop where
  ex : ∃ f fd, FnOk P w K mg base CX0 k f fd ps sp ∧ mg x = some (.ref f) ∧ PySem.W.keepIn K (.ref f) = true ∧ Binds K fd ps []
theorem pe_callH {X : Cx} {k : Nat} {ps : List Str} {sp : Sp} {x : Str} {p pos : Pos} {e : Expr} {es : List Expr} {t : TA} (h : Has X.prog X.w X.K X.mg X.base x k ps sp) (hr : Room k X.A) (hg : Gl X x) (ha : PA X (e :: es) t)
    (hdb : (x == ("__debug__" : Str)) = false := by decide) (he : starEach (e :: es) X.env = (false, eval e X.env) :: starEach es X.env := by rfl) (hpl : (backTo pos (starEach es X.env)).any (·.1) = false := by rfl) :
    PE X (.Call (.Name x p) (e :: es) [] pos) (tCall sp [] E0 t) := by
  obtain ⟨f, fd, F, hm, hk, hb⟩ := h.ex
  exact pe_call F hr hg hm hk hb .nil pass0 ha hdb he hpl
/-- all but what stands at h is as it was -/
def SameX (h : Addr) (H H' : Hp) : Prop := ∀ b o, b ≠ h → H b = some o → H' b = some o
theorem SameX.refl (h : Addr) (H : Hp) : SameX h H H := fun _ _ _ e => e
theorem SameX.trans {h : Addr} {H H1 H2 : Hp} (a : SameX h H H1) (b : SameX h H1 H2) : SameX h H H2 := fun c o n e => b c o n (a c o n e)
theorem Same.x {h : Addr} {H H1 : Hp} (a : Same H H1) : SameX h H H1 := fun c o _ e => a c o e
theorem SameX.fresh {h : Addr} {H H1 : Hp} {p : Addr} {o : HO} (a : SameX h H H1) (hp : H1 p = none) : SameX h H (upd H1 p o) := fun c u n e => by
  have := a c u n e
  rw [upd_ne (ne_of_none this hp)]; exact this
theorem Same.fresh {H H1 : Hp} {p : Addr} {o : HO} (a : Same H H1) (hp : H p = none) : Same H (upd H1 p o) := fun c u e => by
  rw [upd_ne (ne_of_none e hp)]; exact a c u e
theorem Same.new {H : Hp} {p : Addr} {o : HO} (hp : H p = none) : Same H (upd H p o) := (Same.refl H).fresh hp
theorem SameX.seq {K : PySem.W.Frag} {h : Addr} {H H' : Hp} {a : Addr} {xs : List V} (e : SameX h H H') (n : a ≠ h) (q : SqL K H a xs) : SqL K H' a xs := by
  rcases q with (q | ⟨o, q⟩) | q
  · exact .inl (.inl (e _ _ n q))
  · exact .inl (.inr ⟨o, e _ _ n q⟩)
  · exact .inr q
theorem SameX.free {h : Addr} {H H' : Hp} (e : SameX h H H') {l : Addr} (n : l ≠ h) (q : H' l = none) : H l = none := by
  cases z : H l with
  | none => rfl
  | some o => rw [e l o n z] at q; cases q
/-- a hand: two numbers to draw from -/
def HandAt (H : Hp) (h : Addr) : Prop := ∃ a b : Int, H h = some (.lst [.int a, .int b]) ∧ 0 ≤ b ∧ b < 2147483587
theorem HandAt.same {H H' : Hp} {h : Addr} (x : HandAt H h) (s : Same H H') : HandAt H' h := let ⟨a, b, e, r⟩ := x; ⟨a, b, s h _ e, r⟩
theorem HandAt.obj {H : Hp} {h : Addr} (x : HandAt H h) : ∃ o, H h = some o := let ⟨_, _, e, _⟩ := x; ⟨_, e⟩
theorem atI_int {ns : List Int} {r : Int} (h0 : 0 ≤ r) (h1 : r < ns.length) : atI (ns.map V.int) r = some (.int (ns.getD r.toNat 0)) := by
  have e : r = (r.toNat : Int) := by omega
  have hl : r.toNat < ns.length := by omega
  have : atI (ns.map V.int) (r.toNat : Int) = some (.int (ns.getD r.toNat 0)) := atI_nat (by rw [List.getElem?_map, List.getElem?_eq_getElem hl, List.getD_eq_getElem?_getD, List.getElem?_eq_getElem hl]; rfl)
  rw [← e] at this; exact this
theorem cutV_take (xs : List V) (m : Nat) : cutV xs none (some (m : Int)) = xs.take m := by
  unfold cutV
  rw [HT.sIx_nat, HT.sIx_none, List.drop_zero, Nat.sub_zero]
  by_cases h : m ≤ xs.length
  · rw [Nat.min_eq_left h]
  · rw [Nat.min_eq_right (by omega), List.take_of_length_le (Nat.le_refl _), List.take_of_length_le (by omega)]
theorem HandAt.new {H : Hp} {h p : Addr} {o : HO} (x : HandAt H h) (hp : H p = none) : HandAt (upd H p o) h := x.same (Same.new hp)
theorem HandAt.ne {H : Hp} {h p : Addr} (x : HandAt H h) (hp : H p = none) : p ≠ h := fun e => by obtain ⟨o, q⟩ := x.obj; rw [e, q] at hp; cases hp
theorem SameX.put {h : Addr} {H H1 : Hp} {p : Addr} {o : HO} (a : SameX h H H1) (hp : H p = none) : SameX h H (upd H1 p o) := fun c u n e => by
  rw [upd_ne (ne_of_none e hp)]; exact a c u n e
theorem HandAt.put {H : Hp} {h p : Addr} {o : HO} (x : HandAt H h) (hp : p ≠ h) : HandAt (upd H p o) h := let ⟨a, b, e, r⟩ := x; ⟨a, b, by rw [upd_ne hp.symm]; exact e, r⟩
theorem getD_all {α : Type} {l : List α} {i : Nat} {d : α} {R : α → Prop} (h : ∀ x ∈ l, R x) (hi : i < l.length) : R (l.getD i d) := by
  rw [List.getD_eq_getElem?_getD, List.getElem?_eq_getElem hi]; exact h _ (List.getElem_mem hi)
theorem SameX.of_upd {h : Addr} {H : Hp} {o : HO} : SameX h H (upd H h o) := fun c u n e => by rw [upd_ne n]; exact e
theorem int_at {ns : List Int} {i : Nat} {x : V} (h : (ns.map V.int)[i]? = some x) : i < ns.length ∧ x = .int (ns.getD i 0) := by
  rw [List.getElem?_map] at h
  cases e : ns[i]? with
  | none => rw [e] at h; cases h
  | some z =>
    rw [e] at h
    refine ⟨(List.getElem?_eq_some_iff.mp e).1, ?_⟩
    rw [List.getD_eq_getElem?_getD, e]
    exact (Option.some.inj h).symm
theorem len_int {ns : List Int} : (ns.map V.int).length = ns.length := List.length_map _
theorem atI_at {ns : List Int} {j : Nat} (h : j < ns.length) : atI (ns.map V.int) (j : Int) = some (.int (ns.getD j 0)) := atI_nat (by rw [List.getElem?_map, List.getElem?_eq_getElem h, List.getD_eq_getElem?_getD, List.getElem?_eq_getElem h]; rfl)
/-- objects that stand as told -/
def Pins (H : Hp) (l : List (Addr × HO)) : Prop := ∀ p ∈ l, H p.1 = some p.2
theorem Pins.nil {H : Hp} : Pins H [] := fun _ h => by simp at h
theorem Pins.same {H H' : Hp} {l : List (Addr × HO)} (x : Pins H l) (s : Same H H') : Pins H' l := fun p h => s _ _ (x p h)
theorem Pins.cons {H : Hp} {a : Addr} {o : HO} {l : List (Addr × HO)} (e : H a = some o) (x : Pins H l) : Pins H ((a, o) :: l) := fun p h => by
  rcases List.mem_cons.mp h with z | z
  · subst z; exact e
  · exact x p z
theorem Pins.put {H : Hp} {a : Addr} {o : HO} {l : List (Addr × HO)} (x : Pins H l) (n : ∀ p ∈ l, p.1 ≠ a) : Pins (upd H a o) l := fun p h => by rw [upd_ne (n p h)]; exact x p h
theorem Pins.fresh {H : Hp} {a : Addr} {l : List (Addr × HO)} (x : Pins H l) (e : H a = none) : ∀ p ∈ l, p.1 ≠ a := fun p h => ne_of_none (x p h) e
/-- objects that stand as told, all apart -/
structure PN (H : Hp) (l : List (Addr × HO)) : Prop where
  pin : Pins H l
  nd : (l.map (·.1)).Nodup
theorem PN.at {H : Hp} {l : List (Addr × HO)} (x : PN H l) (i : Nat) {a : Addr} {o : HO} (h : l[i]? = some (a, o)) : H a = some o := x.pin _ (List.mem_of_getElem? h)
theorem PN.nil {H : Hp} : PN H [] := ⟨Pins.nil, List.nodup_nil⟩
theorem PN.same {H H' : Hp} {l : List (Addr × HO)} (x : PN H l) (s : Same H H') : PN H' l := ⟨x.pin.same s, x.nd⟩
theorem PN.add {H H' : Hp} {l : List (Addr × HO)} {p : Addr} {o : HO} (x : PN H l) (s : Same H H') (hp : H p = none) (e : H' p = some o) : PN H' ((p, o) :: l) :=
  ⟨(x.pin.same s).cons e, List.nodup_cons.mpr ⟨fun m => by obtain ⟨q, hq, z⟩ := List.mem_map.mp m; exact x.pin.fresh hp q hq z, x.nd⟩⟩
theorem PN.new {H : Hp} {l : List (Addr × HO)} {p : Addr} {o : HO} (x : PN H l) (hp : H p = none) : PN (upd H p o) ((p, o) :: l) := x.add (Same.new hp) hp upd_same
theorem PN.put {H : Hp} {l : List (Addr × HO)} {a : Addr} {o o' : HO} (x : PN H l) (i : Nat) (h : l[i]? = some (a, o)) : PN (upd H a o') (l.set i (a, o')) := by
  obtain ⟨hi, he⟩ := List.getElem?_eq_some_iff.mp h
  refine ⟨fun p hp => ?_, ?_⟩
  · obtain ⟨j, hj, e⟩ := List.mem_iff_getElem.mp hp
    rw [List.getElem_set] at e
    rw [List.length_set] at hj
    by_cases z : i = j
    · rw [if_pos z] at e; subst e; exact upd_same
    · rw [if_neg z] at e
      subst e
      have : l[j].1 ≠ a := fun y => by
        have nd := x.nd
        rw [List.nodup_iff_pairwise_ne, List.pairwise_map, List.pairwise_iff_getElem] at nd
        rcases Nat.lt_or_gt_of_ne z with q | q
        · exact nd i j hi hj q (by rw [he, y])
        · exact nd j i hj hi q (by rw [he, y])
      rw [upd_ne this]
      exact x.pin _ (List.getElem_mem hj)
  · have : (l.set i (a, o')).map (·.1) = l.map (·.1) := by
      rw [List.map_set]
      refine List.ext_getElem (by simp) fun j h1 h2 => ?_
      rw [List.getElem_set]
      split
      · rename_i z; subst z; rw [List.getElem_map, he]
      · rfl
    rw [this]; exact x.nd
theorem PN.ne {H : Hp} {l : List (Addr × HO)} (x : PN H l) (i j : Nat) (hij : i ≠ j) {a b : Addr} {o u : HO} (h : l[i]? = some (a, o)) (h' : l[j]? = some (b, u)) : a ≠ b := fun y => by
  obtain ⟨hi, he⟩ := List.getElem?_eq_some_iff.mp h
  obtain ⟨hj, he'⟩ := List.getElem?_eq_some_iff.mp h'
  have nd := x.nd
  rw [List.nodup_iff_pairwise_ne, List.pairwise_map, List.pairwise_iff_getElem] at nd
  rcases Nat.lt_or_gt_of_ne hij with q | q
  · exact nd i j hi hj q (by rw [he, he', y])
  · exact nd j i hj hi q (by rw [he, he', y])
theorem atV {xs : List V} {i : Nat} {v : V} (h : xs[i]? = some v) : atI xs (i : Int) = some v := atI_nat h
end L2

set_option Elab.async false
set_option linter.all false
set_option maxRecDepth 100000
set_option maxHeartbeats 4000000
/-! Sets of ints, list.index, is True, other slices. -/
namespace L2
open PySem PySem.Spec PyProof.Rows
/-- the unlike numbers of a list, in the order in which they are met -/
def dd (ns : List Int) : List Int := ns.foldl (fun acc x => if acc.any (· == x) then acc else acc ++ [x]) []
section
variable {X : Cx} {K : PySem.W.Frag}
theorem boot_str' : bootBuiltins "str" = some (.type "str") := by decide +kernel
end
end L2

set_option linter.all false
set_option maxHeartbeats 4000000
/-! Windows: first places, how many unlike numbers; and the wrappers for a class. -/
namespace My
open L2
/-- the window's numbers -/
def win (ns : List Int) (f b : Nat) : List Int := (ns.drop f).take (b - f)
theorem win_self (ns : List Int) (f : Nat) : win ns f f = [] := by unfold win; rw [Nat.sub_self, List.take_zero]
theorem win_snoc {ns : List Int} {f b : Nat} (hf : f ≤ b) (hb : b < ns.length) : win ns f (b + 1) = win ns f b ++ [ns.getD b 0] := by
  unfold win
  rw [show b + 1 - f = (b - f) + 1 by omega, List.take_add_one, List.getElem?_drop, show f + (b - f) = b by omega, List.getElem?_eq_getElem hb, List.getD_eq_getElem?_getD, List.getElem?_eq_getElem hb]
  rfl
theorem win_mem {ns : List Int} {f b : Nat} {x : Int} (hb : b ≤ ns.length) : x ∈ win ns f b ↔ ∃ j, f ≤ j ∧ j < b ∧ ns.getD j 0 = x := by
  unfold win
  constructor
  · intro h
    obtain ⟨i, hi, e⟩ := List.mem_iff_getElem.mp h
    rw [List.getElem_take, List.getElem_drop] at e
    have hi' := hi
    rw [List.length_take, List.length_drop] at hi'
    refine ⟨f + i, by omega, by omega, ?_⟩
    rw [List.getD_eq_getElem?_getD, List.getElem?_eq_getElem (by omega)]
    exact e
  · rintro ⟨j, h1, h2, e⟩
    refine List.mem_iff_getElem.mpr ⟨j - f, by rw [List.length_take, List.length_drop]; omega, ?_⟩
    rw [List.getElem_take, List.getElem_drop]
    rw [List.getD_eq_getElem?_getD, List.getElem?_eq_getElem (by omega)] at e
    rw [← e]
    simp only [Option.getD_some]
    congr 1
    omega
theorem last_win {ns : List Int} {f b : Nat} (hb : b < ns.length) : lastIx ns (ns.getD b 0) b < (f : Int) ↔ ns.getD b 0 ∉ win ns f b := by
  rw [win_mem (Nat.le_of_lt hb)]
  constructor
  · rintro h ⟨j, h1, h2, e⟩
    have := lastIx_max ns (ns.getD b 0) b j h2 e
    omega
  · intro h
    by_cases h0 : 0 ≤ lastIx ns (ns.getD b 0) b
    · have e := lastIx_at ns (ns.getD b 0) b h0
      have l := lastIx_lt ns (ns.getD b 0) b
      by_cases hf : lastIx ns (ns.getD b 0) b < f
      · exact hf
      · exact absurd ⟨(lastIx ns (ns.getD b 0) b).toNat, by omega, by omega, e⟩ h
    · omega
/-- the first places of a window -/
def firstsM (ns : List Int) (f b : Nat) : List Int := ((List.range (b - f)).filter fun i => decide (lastIx ns (ns.getD (f + i) 0) (f + i) < (f : Int))).map fun i => ((f + i : Nat) : Int)
def cnt (ns : List Int) (f b : Nat) : Nat := (firstsM ns f b).length
theorem firsts_self (ns : List Int) (f : Nat) : firstsM ns f f = [] := by unfold firstsM; rw [Nat.sub_self]; rfl
theorem firsts_snoc {ns : List Int} {f b : Nat} (hf : f ≤ b) : firstsM ns f (b + 1) = firstsM ns f b ++ (if lastIx ns (ns.getD b 0) b < (f : Int) then [(b : Int)] else []) := by
  unfold firstsM
  rw [show b + 1 - f = (b - f) + 1 by omega, List.range_succ, filter_snoc, List.map_append, show f + (b - f) = b by omega]
  congr 1
  by_cases h : lastIx ns (ns.getD b 0) b < (f : Int)
  · rw [if_pos h, if_pos (decide_eq_true h)]
    show [((f + (b - f) : Nat) : Int)] = _
    rw [show f + (b - f) = b by omega]
  · rw [if_neg h, if_neg (by rw [decide_eq_false h]; exact Bool.false_ne_true)]; rfl
theorem cnt_self (ns : List Int) (f : Nat) : cnt ns f f = 0 := by unfold cnt; rw [firsts_self]; rfl
theorem cnt_snoc {ns : List Int} {f b : Nat} (hf : f ≤ b) : cnt ns f (b + 1) = cnt ns f b + if lastIx ns (ns.getD b 0) b < (f : Int) then 1 else 0 := by
  unfold cnt; rw [firsts_snoc hf, List.length_append]; split <;> rfl
theorem cnt_le (ns : List Int) (f b : Nat) : cnt ns f b ≤ b - f := by
  unfold cnt firstsM
  rw [List.length_map]
  have := List.length_filter_le (fun i => decide (lastIx ns (ns.getD (f + i) 0) (f + i) < (f : Int))) (List.range (b - f))
  rw [List.length_range] at this; exact this
end My
namespace L2
open PySem PySem.Spec PyProof.Rows
/-! ### a class's methods -/
structure HasM (P : Program) (w : World) (K : PySem.W.Frag) (mg : Str → Option Value) (base : Heap) (C : Addr) (m : Str) (k : Nat) (ps : List Str) (sp : Sp) : Prop where
  ex : ∃ f fd, FnOk P w K mg base CX0 k f fd ps sp ∧ Meth K C m f ∧ Binds K fd ps []
structure HasC (P : Program) (w : World) (K : PySem.W.Frag) (mg : Str → Option Value) (base : Heap) (x : Str) (C : Addr) (k : Nat) (ps : List Str) (sp : Sp) : Prop where
  ex : ∃ f fd, Mk K C f ∧ FnOk P w K mg base CX0 k f fd ps sp ∧ mg x = some (.ref C) ∧ Binds K fd ps []
section
variable {X : Cx} {K : PySem.W.Frag} {C : Addr} {k : Nat} {ps : List Str} {sp : Sp} {x m : Str} {p pos apos : Pos} {o e : Expr} {es : List Expr} {t : TA} {ta : TE}
theorem iteNB {c : Bool} {A B : Prop} (h : c = true) (k : B) : if (!c) = true then A else B := by subst h; exact k
end
/-! ### a row made ready -/
def flds (l n : Addr) : List (Str × V) := putF "nexts" (.ref n) (putF "lasts" (.ref l) [])
structure RdAt (C : Addr) (H : Hp) (p : Addr) (ns : List Int) : Prop where
  ex : ∃ dx l n, H p = some (.ins C dx (flds l n)) ∧ H l = some (.lst ((My.lastsM ns).map V.int)) ∧ H n = some (.lst ((My.nextsM ns).map V.int))
theorem RdAt.same {C : Addr} {H H' : Hp} {p : Addr} {ns : List Int} (x : RdAt C H p ns) (s : Same H H') : RdAt C H' p ns := let ⟨dx, l, n, e1, e2, e3⟩ := x.ex; ⟨dx, l, n, s _ _ e1, s _ _ e2, s _ _ e3⟩
structure RdTxt (K : PySem.W.Frag) (C : Addr) : Prop where
  cl : Cls K C
  nL : NoAttr K C "lasts"
  nN : NoAttr K C "nexts"
end L2

set_option linter.all false
set_option maxHeartbeats 4000000
/-! Plain rows, and rows of last places. -/
namespace My
open L2
theorem getD_some {ls : List Int} {i : Nat} (h : i < ls.length) : ls[i]? = some (ls.getD i 0) := by rw [List.getD_eq_getElem?_getD, List.getElem?_eq_getElem h]; rfl
end My
namespace L2
open PySem
end L2

set_option linter.all false
set_option maxHeartbeats 4000000
/-! Sums over all windows. -/
namespace My
open L2
def sumR : Nat → (Nat → Int) → Int
  | 0, _ => 0
  | k + 1, g => sumR k g + g k
theorem sumR_succ (k : Nat) (g : Nat → Int) : sumR (k + 1) g = sumR k g + g k := rfl
theorem sumR_congr {k : Nat} {g h : Nat → Int} (e : ∀ i, i < k → g i = h i) : sumR k g = sumR k h := by
  induction k with
  | zero => rfl
  | succ k ih => unfold sumR; rw [ih fun i hi => e i (by omega), e k (by omega)]
abbrev L (ns : List Int) (p : Nat) : Int := lastIx ns (ns.getD p 0) p
abbrev Nx (ns : List Int) (p : Nat) : Int := nextIx ns (ns.getD p 0) (p + 1) (ns.length - (p + 1))
/-! from the left -/
theorem cnt_cons {ns : List Int} {f : Nat} : ∀ {b : Nat}, f < b → b ≤ ns.length → cnt ns f b = cnt ns (f + 1) b + if ns.getD f 0 ∈ win ns (f + 1) b then 0 else 1 := by
  intro b
  induction b with
  | zero => intro h; omega
  | succ b ih =>
    intro h hb
    by_cases e : f = b
    · subst e
      rw [cnt_snoc (Nat.le_refl _), cnt_self, cnt_self, win_self, if_pos (lastIx_lt ns _ f).2]; rfl
    · have hf : f < b := by omega
      rw [cnt_snoc (by omega), cnt_snoc (by omega), ih hf (by omega)]
      have w1 := last_win (f := f) (show b < ns.length by omega)
      have w2 := last_win (f := f + 1) (show b < ns.length by omega)
      have m1 := win_mem (ns := ns) (f := f) (b := b) (x := ns.getD b 0) (by omega)
      have m2 := win_mem (ns := ns) (f := f + 1) (b := b) (x := ns.getD b 0) (by omega)
      have m3 := win_mem (ns := ns) (f := f + 1) (b := b) (x := ns.getD f 0) (by omega)
      have m4 := win_mem (ns := ns) (f := f + 1) (b := b + 1) (x := ns.getD f 0) hb
      by_cases A : ns.getD b 0 ∈ win ns (f + 1) b
      · have A1 : ns.getD b 0 ∈ win ns f b := m1.mpr (by obtain ⟨j, a, c, d⟩ := m2.mp A; exact ⟨j, by omega, c, d⟩)
        rw [if_neg (fun q => w1.mp q A1), if_neg (fun q => w2.mp q A)]
        by_cases Bq : ns.getD f 0 ∈ win ns (f + 1) b
        · rw [if_pos Bq, if_pos (m4.mpr (by obtain ⟨j, a, c, d⟩ := m3.mp Bq; exact ⟨j, a, by omega, d⟩))]
        · have : ns.getD f 0 ∉ win ns (f + 1) (b + 1) := fun q => by
            obtain ⟨j, a, c, d⟩ := m4.mp q
            by_cases z : j = b
            · subst z; exact Bq (by rw [← d]; exact A)
            · exact Bq (m3.mpr ⟨j, a, by omega, d⟩)
          rw [if_neg Bq, if_neg this]
      · rw [if_pos (w2.mpr A)]
        by_cases E : ns.getD b 0 = ns.getD f 0
        · have A1 : ns.getD b 0 ∈ win ns f b := m1.mpr ⟨f, Nat.le_refl _, hf, E.symm⟩
          have Bq : ns.getD f 0 ∉ win ns (f + 1) b := by rw [← E]; exact A
          have C1 : ns.getD f 0 ∈ win ns (f + 1) (b + 1) := m4.mpr ⟨b, by omega, by omega, E⟩
          rw [if_neg (fun q => w1.mp q A1), if_neg Bq, if_pos C1]
        · have A1 : ns.getD b 0 ∉ win ns f b := fun q => by
            obtain ⟨j, a, c, d⟩ := m1.mp q
            by_cases z : j = f
            · subst z; exact E d.symm
            · exact A (m2.mpr ⟨j, by omega, c, d⟩)
          rw [if_pos (w1.mpr A1)]
          have iff1 : ns.getD f 0 ∈ win ns (f + 1) (b + 1) ↔ ns.getD f 0 ∈ win ns (f + 1) b := by
            rw [m3, m4]
            constructor
            · rintro ⟨j, a, c, d⟩
              by_cases z : j = b
              · subst z; exact absurd d E
              · exact ⟨j, a, by omega, d⟩
            · rintro ⟨j, a, c, d⟩; exact ⟨j, a, by omega, d⟩
          by_cases Bq : ns.getD f 0 ∈ win ns (f + 1) b
          · rw [if_pos Bq, if_pos (iff1.mpr Bq)]
          · rw [if_neg Bq, if_neg (fun q => Bq (iff1.mp q))]
end My

set_option Elab.async false
set_option linter.all false
set_option maxRecDepth 100000
set_option maxHeartbeats 4000000
/-! xs[::c] of a list, list(range(..)) -/
namespace L2
open PySem PySem.Spec PyProof.Rows
/-- the items of xs[::c] -/
def pickS (xs : List V) (c : Int) : List V := (sliceRange (sliceBounds none none (some c) xs.length).1 (sliceBounds none none (some c) xs.length).2.1 (sliceBounds none none (some c) xs.length).2.2).filterMap (xs[·]?)
theorem vals_pick {xs : List V} {us : List Value} (r : Vals xs us) : ∀ is : List Nat, Vals (is.filterMap (xs[·]?)) (is.filterMap (us[·]?))
  | [] => .nil
  | i :: is => by
    rw [List.filterMap_cons, List.filterMap_cons]
    cases h : xs[i]? with
    | none => rw [r.none_of h]; exact vals_pick r is
    | some x =>
      obtain ⟨u, e, q⟩ := r.get h
      rw [e]
      exact .cons q (vals_pick r is)
theorem pickS_le {xs : List V} {us : List Value} (r : Vals xs us) (c : Int) : (pickS xs c).length ≤ xs.length := by
  have h1 := slicePick_size_le us.toArray none none (some c)
  have h2 := (vals_pick r (sliceRange (sliceBounds none none (some c) xs.length).1 (sliceBounds none none (some c) xs.length).2.1 (sliceBounds none none (some c) xs.length).2.2)).length
  unfold slicePick at h1
  rw [List.size_toArray, List.size_toArray, ← r.length] at h1
  unfold pickS
  rw [h2]
  refine Nat.le_trans (Nat.le_of_eq ?_) h1
  congr 2
  funext i
  rw [List.getElem?_toArray]
theorem range_rev {α : Type} (xs : List α) : ((List.range xs.length).map fun (k : Nat) => xs.length - 1 - k).filterMap (xs[·]?) = xs.reverse := by
  have h0 : ((List.range xs.length).map fun (k : Nat) => xs.length - 1 - k) = (List.range xs.length).reverse := by
    apply List.ext_getElem?
    intro i
    by_cases h : i < xs.length
    · rw [List.getElem?_map, List.getElem?_range h, List.getElem?_reverse (by rw [List.length_range]; exact h), List.length_range, List.getElem?_range (by omega)]
      rfl
    · rw [List.getElem?_eq_none (by simp; omega), List.getElem?_eq_none (by simp; omega)]
  rw [h0, List.filterMap_reverse, List.filterMap_getElem?_range_length]
theorem pickS_rev (xs : List V) : pickS xs (-1) = xs.reverse := by
  rw [← range_rev xs]
  unfold pickS sliceRange sliceBounds
  simp only [Option.getD_some]
  rw [if_neg (by decide)]
  by_cases h : 0 < xs.length
  · simp only [show ¬ ((-1 : Int) > 0) by decide, if_false]
    rw [if_pos (by omega)]
    rw [show (((xs.length : Int) - 1 - -1 - -1 - 1) / - -1).toNat = xs.length by rw [show (- -1 : Int) = 1 by decide, Int.ediv_one]; omega]
    congr 1
    apply List.map_congr_left
    intro k hk
    have := List.mem_range.mp hk
    omega
  · have : xs = [] := List.eq_nil_of_length_eq_zero (by omega)
    subst this
    rfl
section
variable {X : Cx} {K : PySem.W.Frag} {e es : Expr} {te ts : TE} {pos p2 : Pos}
def tSlS (K : PySem.W.Frag) (te ts : TE) : TE := fun σ H Q => te σ H fun x H1 => ts σ H1 fun y H2 => ∃ c a xs, y = .int c ∧ c ≠ 0 ∧ x = .ref a ∧ SqL K H2 a xs ∧ ∀ p, H2 p = none → Q (.ref p) (upd H2 p (.lst (pickS xs c)))
/-- a[::c] -/
theorem pe_sliceS (eK : X.K = K) (he : PE X e te) (hs : PE X es ts) : PE X (.Subscript e (.Slice none none (some es) p2) pos) (tSlS K te ts) := by
  subst eK
  intro pins s σ H Q I h
  refine Subscript_ (thn (he pins s σ H _ I h) fun v s1 ⟨x, H1, I1, r1, q1⟩ => ?_)
  refine wpAny_Slice ?_
  rw [evalPart_none]
  refine wpAny_pure ?_
  refine wpAny_pure ?_
  rw [evalPart_some]
  refine thn (hs pins s1 σ H1 _ I1 q1) fun vs s3 ⟨y, H3, I3, ry, q3⟩ => ?_
  obtain ⟨c, a, xs, rfl, hc, rfl, hx, q⟩ := q3
  obtain ⟨t, rfl⟩ := ry
  cases r1
  have I4 : Inv X pins σ H3 { s3 with heap := s3.heap.push { cls := .type "slice", data := .fields #[.none, .none, .int c t] } } := I3.kept (t' := s3.toks) fun b ob q => Heap.get?_push_of_some _ q
  obtain ⟨its, r, ht, hz⟩ := I4.list hx
  have hlen := r.length
  show wpAny (model X.prog X.w) X.A (subscriptTail e (.Slice none none (some es) p2) (.ref a) (.ref s3.heap.objs.size)) (EP X pins σ Q) X.xe { s3 with heap := s3.heap.push { cls := .type "slice", data := .fields #[.none, .none, .int c t] } }
  refine tail_any (ops := [.ref a, .ref s3.heap.objs.size]) ht.isList.typeIs slot_list_getitem.lookup ?_ (by with_unfolding_all rfl)
  refine wpAny_getItem_list_slice ht.isList (Heap.IsSliceOf.new ..) .none .none (.int c t) (by simpa using hc) ?_ (by rw [List.size_toArray] <;> omega)
  refine ⟨.ref _, _, I4.laid (t' := s3.toks) (o := .lst (pickS xs c)) (fun b ob q => Heap.get?_push_of_some _ q) (Nat.le_refl _) ?_, rfl, q _ (I4.hok.fresh (Nat.le_refl _))⟩
  refine ⟨Nat.le_trans (pickS_le r c) hz, (slicePick its.toArray none none (some c)).toList, 0, ?_, Heap.get?_push_size _ rfl⟩
  have := vals_pick r (sliceRange (sliceBounds none none (some c) xs.length).1 (sliceBounds none none (some c) xs.length).2.1 (sliceBounds none none (some c) xs.length).2.2)
  unfold slicePick
  rw [List.size_toArray, ← hlen]
  unfold pickS
  rw [show (fun x : Nat => its.toArray[x]?) = (fun x => its[x]?) from funext fun i => List.getElem?_toArray ..]
  exact this
end
end L2

set_option Elab.async false
set_option linter.all false
set_option maxRecDepth 100000
set_option maxHeartbeats 4000000
/-! A row made ready that outlasts changes elsewhere. -/
namespace L2
open PySem PySem.Spec PyProof.Rows
/-- all but what S holds stays -/
def SameP (S : Addr → Prop) (H H' : Hp) : Prop := ∀ b o, ¬ S b → H b = some o → H' b = some o
theorem SameP.refl (S : Addr → Prop) (H : Hp) : SameP S H H := fun _ _ _ e => e
theorem SameP.trans {S : Addr → Prop} {H H1 H2 : Hp} (a : SameP S H H1) (b : SameP S H1 H2) : SameP S H H2 := fun c o n e => b c o n (a c o n e)
theorem Same.p {S : Addr → Prop} {H H1 : Hp} (a : Same H H1) : SameP S H H1 := fun c o _ e => a c o e
theorem SameX.p {S : Addr → Prop} {h : Addr} {H H1 : Hp} (a : SameX h H H1) (hs : S h) : SameP S H H1 := fun c o n e => a c o (fun z => n (z ▸ hs)) e
theorem SameX.p' {h : Addr} {H H1 : Hp} (a : SameX h H H1) : SameP (fun b => b = h) H H1 := a
theorem SameP.x {h : Addr} {H H1 : Hp} (a : SameP (· = h) H H1) : SameX h H H1 := a
theorem SameP.put {S : Addr → Prop} {H H1 : Hp} {a : Addr} {o : HO} (e : SameP S H H1) (hs : S a ∨ H a = none) : SameP S H (upd H1 a o) := fun c oc n q => by
  have : c ≠ a := fun z => by
    subst z
    rcases hs with h | h
    · exact n h
    · rw [h] at q; cases q
  rw [upd_ne this]; exact e c oc n q
structure RdFr (C : Addr) (H H' : Hp) (p : Addr) (ns : List Int) : Prop where
  ex : ∃ dx l n, H' p = some (.ins C dx (flds l n)) ∧ H' l = some (.lst ((My.lastsM ns).map V.int)) ∧ H' n = some (.lst ((My.nextsM ns).map V.int)) ∧ H l = none ∧ H n = none
structure RdX (C : Addr) (S : Addr → Prop) (H : Hp) (p : Addr) (ns : List Int) : Prop where
  ex : ∃ dx l n, H p = some (.ins C dx (flds l n)) ∧ H l = some (.lst ((My.lastsM ns).map V.int)) ∧ H n = some (.lst ((My.nextsM ns).map V.int)) ∧ ¬ S p ∧ ¬ S l ∧ ¬ S n
theorem RdX.rd {C : Addr} {S : Addr → Prop} {H : Hp} {p : Addr} {ns : List Int} (x : RdX C S H p ns) : RdAt C H p ns := let ⟨dx, l, n, e1, e2, e3, _⟩ := x.ex; ⟨dx, l, n, e1, e2, e3⟩
theorem RdX.p {C : Addr} {S : Addr → Prop} {H H' : Hp} {p : Addr} {ns : List Int} (x : RdX C S H p ns) (s : SameP S H H') : RdX C S H' p ns :=
  let ⟨dx, l, n, e1, e2, e3, n1, n2, n3⟩ := x.ex; ⟨dx, l, n, s _ _ n1 e1, s _ _ n2 e2, s _ _ n3 e3, n1, n2, n3⟩
theorem RdX.at {C : Addr} {S : Addr → Prop} {H : Hp} {p : Addr} {ns : List Int} (x : RdX C S H p ns) : ∃ dx l n, H p = some (.ins C dx (flds l n)) := let ⟨dx, l, n, e1, _⟩ := x.ex; ⟨dx, l, n, e1⟩
theorem RdFr.x {C : Addr} {S : Addr → Prop} {H H' : Hp} {p : Addr} {ns : List Int} (x : RdFr C H H' p ns) (hp : H p = none) (hs : ∀ b, S b → ∃ o, H b = some o) : RdX C S H' p ns := by
  obtain ⟨dx, l, n, e1, e2, e3, n1, n2⟩ := x.ex
  have k : ∀ a, H a = none → ¬ S a := fun a e z => by obtain ⟨o, q⟩ := hs a z; rw [e] at q; cases q
  exact ⟨dx, l, n, e1, e2, e3, k p hp, k l n1, k n n2⟩
end L2

set_option Elab.async false
set_option linter.all false
set_option maxRecDepth 100000
set_option maxHeartbeats 4000000
/-! Ends and begins. -/
namespace My
open L2
theorem cnt_mono_r {ns : List Int} {f b : Nat} (hf : f ≤ b) : ∀ k, cnt ns f b ≤ cnt ns f (b + k)
  | 0 => Nat.le_refl _
  | k + 1 => by
    have h := cnt_mono_r hf k (ns := ns)
    have e := cnt_snoc (ns := ns) (f := f) (b := b + k) (by omega)
    rw [show b + (k + 1) = b + k + 1 by omega, e]; omega
theorem cnt_up {ns : List Int} {f b c : Nat} (hf : f ≤ b) (hb : b ≤ c) : cnt ns f b ≤ cnt ns f c := by
  have := cnt_mono_r (ns := ns) hf (c - b)
  rw [show b + (c - b) = c by omega] at this; exact this
theorem cnt_mono_l {ns : List Int} {b : Nat} (hb : b ≤ ns.length) : ∀ k f, f + k ≤ b → cnt ns (f + k) b ≤ cnt ns f b
  | 0, f, _ => Nat.le_refl _
  | k + 1, f, h => by
    have h1 := cnt_mono_l hb k (f + 1) (by omega)
    have e := cnt_cons (ns := ns) (f := f) (b := b) (by omega) hb
    rw [show f + (k + 1) = f + 1 + k by omega]; omega
theorem cnt_dn {ns : List Int} {f g b : Nat} (hb : b ≤ ns.length) (h : f ≤ g) (hg : g ≤ b) : cnt ns g b ≤ cnt ns f b := by
  have := cnt_mono_l hb (g - f) f (by omega)
  rw [show f + (g - f) = g by omega] at this; exact this
theorem firsts_at {ns : List Int} {f : Nat} : ∀ {b : Nat}, f ≤ b → ∀ j, j < cnt ns f b → ∃ g, f ≤ g ∧ g < b ∧ cnt ns f g = j ∧ cnt ns f (g + 1) = j + 1 ∧ (firstsM ns f b)[j]? = some (g : Int) := by
  intro b
  induction b with
  | zero => intro h j hj; have := cnt_le ns f 0; omega
  | succ b ih =>
    intro h j hj
    by_cases e : f = b + 1
    · subst e; rw [cnt_self] at hj; omega
    · have hf : f ≤ b := by omega
      have ec := cnt_snoc (ns := ns) hf
      rw [firsts_snoc hf]
      by_cases hjb : j < cnt ns f b
      · obtain ⟨g, h1, h2, h3, h4, h5⟩ := ih hf j hjb
        exact ⟨g, h1, by omega, h3, h4, by rw [List.getElem?_append_left (by exact hjb)]; exact h5⟩
      · by_cases z : lastIx ns (ns.getD b 0) b < (f : Int)
        · rw [if_pos z] at ec
          have hj' : j = cnt ns f b := by omega
          refine ⟨b, hf, by omega, hj'.symm, by omega, ?_⟩
          rw [if_pos z, List.getElem?_append_right (by show (firstsM ns f b).length ≤ j; exact Nat.le_of_not_lt hjb)]
          rw [show j - (firstsM ns f b).length = 0 by show j - cnt ns f b = 0; omega]
          rfl
        · rw [if_neg z] at ec; omega
end My
namespace L2
open PySem PySem.Spec PyProof.Rows
end L2

set_option Elab.async false
set_option linter.all false
set_option maxRecDepth 100000
set_option maxHeartbeats 4000000
/-! list(range(n)) -/
namespace L2
open PySem PySem.Spec PyProof.Rows
section
variable {X : Cx}
end
end L2

set_option Elab.async false
set_option linter.all false
set_option maxRecDepth 100000
set_option maxHeartbeats 4000000
/-! in / not in of ints; a row turned about. -/
namespace L2
open PySem PySem.Spec PyProof.Rows
end L2
namespace My
open L2
end My

set_option Elab.async false
set_option linter.all false
set_option maxRecDepth 100000
set_option maxHeartbeats 4000000
/-! Lists of last places, there and back. -/
namespace My
open L2
end My
namespace L2
open PySem PySem.Spec PyProof.Rows
section
variable {X : Cx}
end
end L2

set_option Elab.async false
set_option linter.all false
set_option maxRecDepth 100000
set_option maxHeartbeats 4000000
/-! l[:0] = w -/
namespace L2
open PySem PySem.Spec PyProof.Rows
section
variable {prog : Program} {w : World} {A : Around} {E : Value → Shared → Prop} {s : Shared}
end
section
variable {X : Cx} {o e0 : Expr} {to t0 : TE} {pos p2 : Pos}
end
end L2

set_option Elab.async false
set_option linter.all false
set_option maxRecDepth 100000
set_option maxHeartbeats 4000000
/-! lists put together, either of two readings, first and last of the places found. -/
namespace L2
open PySem PySem.Spec PyProof.Rows
section
variable {X : Cx} {K : PySem.W.Frag}
end
end L2
namespace My
open L2
end My

set_option Elab.async false
set_option linter.all false
set_option maxRecDepth 100000
set_option maxHeartbeats 4000000
/-! dict(enumerate(a list)): the places as keys. -/
namespace EnD
open PySem PySem.Calls PyProof.Rows PySem.Spec L2
theorem no_keys : typeLookup (.type "enumerate") "keys" = pure none := by rw [typeLookup_type, builtinLookup_eq_fast]; kernel_rfl
theorem no_hook : typeLookup (.type "enumerate") "__getattr__" = pure none := by rw [typeLookup_type, builtinLookup_eq_fast]; kernel_rfl
theorem entry_ga : entryFor table "enumerate.__getattribute__" = some Builtin.«object.__getattribute__» := entryFor_alias (id' := "object.__getattribute__") (by kernel_rfl) (by decide +kernel) (by decide +kernel) (by kernel_rfl)
theorem entry_loop : entryFor table "dict.update.loop" = some Builtin.«dict.update.loop» := entryFor_of_tree (by kernel_rfl)
theorem plain_loop : plainId "dict.update.loop" = true := by decide +kernel
theorem meets_miss (a : Addr) (fs : Array Value) (sl : Array (Option Value)) (u : Tok) : Meets (Builtin.«object.__getattribute__» ⟨[.ref a, .str "keys" u], []⟩)
    (fun A R s => s.heap.get? a = some { cls := .type "enumerate", dict := none, data := .fields fs, slots := sl } ∧ raisesAttr (.ref a) "keys" A R s) :=
  Meets.of_wp fun prog w A R s hs => by
    have hmiss := no_keys
    obtain ⟨hp, g, d, tk, os⟩ := s
    obtain ⟨hx, hs⟩ := hs
    have hT : (⟨hp, g, d, tk, os⟩ : Shared).TypeIs (.ref a) "enumerate" := ⟨_, hx, rfl⟩
    unfold Builtin.«object.__getattribute__»; repeat (any_goals (first | assumption | wp_step))
    exact wpAny_raiseAttrError hs.1 hs.2 (attrMsg_fits (by decide +kernel) (by size_fits))
section
variable {prog : Program} {w : World} {A : Around} {E : Value → Shared → Prop} {s : Shared}
theorem miss {a : Addr} {fs : Array Value} {Q : Option Value → Shared → Prop} (hx : s.heap.get? a = some { cls := .type "enumerate", dict := none, data := .fields fs, slots := #[] }) (hA : A.handled = none)
    (h : ∀ h' tk, (∀ b o, s.heap.get? b = some o → h'.get? b = some o) → Q none { s with heap := h', toks := tk }) : wpAny (model prog w) A (getAttr? (.ref a) "keys") Q E s := by
  obtain ⟨hp, g, d, tk, os⟩ := s
  have hT : ∀ tk', (⟨hp, g, d, tk', os⟩ : Shared).TypeIs (.ref a) "enumerate" := fun _ => ⟨_, hx, rfl⟩
  have f1 := sub_AttributeError
  have f3 := F.slot_enumerate_getattribute.lookup
  have f4 := F.slot_enumerate_getattribute.bind (.ref a)
  have f5 := no_hook
  unfold getAttr? getAttrBy? getAttrBy
  repeat (any_goals (first | assumption | exact hT _ | ((with_reducible show wpAny _ _ (call (Value.builtin "enumerate.__getattribute__") _ _) _ _ _); refine call_meets F.slot_enumerate_getattribute (hT _) entry_ga (F.args_enumerate_getattribute_2 _ _) (meets_miss a fs _ _) ⟨hx, hA, fun h' tk' e hx' => ?_⟩) | wp_step))
  obtain ⟨t', u', he⟩ := hx'.there; show wpAny _ _ (getattributeRaised _ _ _ _ _ _ _) _ _ _; unfold getattributeRaised
  repeat (any_goals (first | assumption | wp_step))
  exact h _ _ hx'.of.keeps
/-- the loop of dict.__init__ over the pairs -/
theorem loop {R : Result → Shared → Prop} {items : Array Value} {d e it l : Addr} (hh : A.handled = none) (hde : d ≠ e) (hdi : d ≠ it) (hld : l ≠ d) (hle : l ≠ e) (hli : l ≠ it) (hne : e ≠ it) (hn : items.size ≤ sizeLine) {h0 : Heap}
    (hR : ∀ h' tk kvs, (∀ b o, b ≠ d → b ≠ e → b ≠ it → h0.get? b = some o → h'.get? b = some o) → h'.DictOf (mixKind prog w) d kvs → kvs.length ≤ items.size → (∀ p ∈ kvs, p.2 ∈ items.toList) → R (.ok (.ret .none)) { s with heap := h', toks := tk }) :
    ∀ (k i : Nat) (h : Heap) (tk : Nat) (kvs : List (Key × Value)), items.size - i = k → i ≤ items.size → EnL.EnSt h e it d i → h.IsListIter it l i → h.IsList l items → (∀ b o, b ≠ d → b ≠ e → b ≠ it → h0.get? b = some o → h.get? b = some o) →
      h.DictOf (mixKind prog w) d kvs → kvs.length ≤ i → (∀ p ∈ kvs, p.2 ∈ items.toList) →
      codeAny (model prog w) A (.builtin "dict.update.loop" ⟨[.ref d, .ref e, rawInt (i : Int), .none], []⟩) R { s with heap := h, toks := tk } := by
  intro k
  induction k with
  | zero =>
    intro i h tk kvs hk hi hst hit hl hkeep hd hlen hmem
    refine codeAny_builtin entry_loop ?_; rw [Around.under_plainId plain_loop _]
    show wpAny _ A.in1 (pyNext (.ref e) >>= _) _ _ _
    refine wpAny_bind (EnL.done (s := { s with heap := h, toks := tk }) (A := A.in1) hh hst hit hl (Array.getElem?_eq_none (by omega)) fun h' he => ?_)
    refine wpAny_bind (wpAny_pure ?_)
    exact wpAny_pure (hR h' tk kvs (fun b o h1 h2 h3 q => he b o h3 (hkeep b o h1 h2 h3 q)) (hd.extBut he hdi) (by omega) hmem)
  | succ k ih =>
    intro i h tk kvs hk hi hst hit hl hkeep hd hlen hmem
    have hlt : i < items.size := by omega
    have hx : items[i]? = some items[i] := Array.getElem?_eq_getElem hlt
    have hdl : d < h.objs.size := by obtain ⟨_, _, _, ho, _⟩ := hd; exact Heap.lt_size ho
    refine codeAny_builtin entry_loop ?_; rw [Around.under_plainId plain_loop _]
    show wpAny _ A.in1 (pyNext (.ref e) >>= _) _ _ _
    refine wpAny_bind (EnL.item (s := { s with heap := h, toks := tk }) (S := d) hst hdl hit hl hx hne fun h' t hst' hit' ht hz hkp => ?_)
    dsimp only at ht hz hkp ⊢
    have hd' : h'.DictOf (mixKind prog w) d kvs := by obtain ⟨o, es, ep, ho, r⟩ := hd; exact ⟨o, es, ep, hkp d o hde hdi ho, r⟩
    refine wpAny_bind (wpAny_holding ?_)
    have hTt : (⟨h', s.gens, s.drawn, tk + 1, s.os⟩ : Shared).TypeIs (.ref h.objs.size) "tuple" := ⟨_, ht, rfl⟩
    refine wpAny_bind (wpAny_tryCatch ?_)
    unfold Builtin.Dict.pairItems
    refine wpAny_bind (wpAny_typeOf hTt ?_)
    rw [if_pos (by decide)]
    refine wpAny_bind ?_
    unfold seqItems?
    refine wpAny_bind (wpAny_load ht ?_)
    refine wpAny_pure (wpAny_pure ?_)
    show wpAny _ A.in1 (holding [.int (i : Int) t, items[i]] (dictSet d (.int (i : Int) t) items[i])) _ _ _
    refine wpAny_holding (wpAny_dictSet_pairs (mixKind_int prog w (i : Int) t) hd' (fun h2 hd2 hs2 => ?_) (by omega))
    have up : ∀ b o, b ≠ d → h'.get? b = some o → h2.get? b = some o := fun b o hb q => hs2.extBut b o hb q
    refine wpAny_pure ⟨plainId_quiet plain_loop _, ih (i + 1) h2 _ _ (by omega) hlt (hst'.keep up (Ne.symm hde)) (hit'.at fun o q => up it o (Ne.symm hdi) q) (hl.at fun o q => up l o hld (hkp l o hle hli q))
      (fun b o h1 h2 h3 q => up b o h1 (hkp b o h2 h3 (hkeep b o h1 h2 h3 q))) hd2 (Nat.le_trans (stored_length_le _ _ _) (by omega)) (fun p hp => ?_)⟩
    unfold stored at hp
    split at hp
    · obtain ⟨r, hr, rfl⟩ := List.mem_map.mp hp
      split
      · exact Array.getElem_mem_toList hlt
      · exact hmem r hr
    · rcases List.mem_append.mp hp with hp | hp
      · exact hmem p hp
      · rw [List.mem_singleton.mp hp]; exact Array.getElem_mem_toList hlt
/-- dict(..) of an enumerate object at its start -/
theorem call {items : Array Value} {e it l : Addr} {old : Value} {Q : Value → Shared → Prop} (hh : A.handled = none) (he : IsEnum s.heap e it 0 old) (hit : s.heap.IsListIter it l 0) (hl : s.heap.IsList l items) (hne : e ≠ it) (hn : items.size ≤ sizeLine)
    (hQ : ∀ h' tk kvs, (∀ b o, b ≠ e → b ≠ it → s.heap.get? b = some o → h'.get? b = some o) → h'.DictOf (mixKind prog w) s.heap.objs.size kvs → kvs.length ≤ items.size → (∀ p ∈ kvs, p.2 ∈ items.toList) → Q (.ref s.heap.objs.size) { s with heap := h', toks := tk }) :
    wpAny (model prog w) A (PySem.call (.type "dict") [.ref e]) Q E s := by
  have le : e < s.heap.objs.size := Heap.lt_size he
  have li : it < s.heap.objs.size := by obtain ⟨_, q, _⟩ := hit; exact Heap.lt_size q
  have ll : l < s.heap.objs.size := by obtain ⟨_, q, _⟩ := hl; exact Heap.lt_size q
  have hle : l ≠ e := by rintro rfl; obtain ⟨o, q, c, _⟩ := hl; rw [he] at q; cases q; exact absurd (show Value.type "enumerate" = Value.type "list" from c) (by decide)
  have hli : l ≠ it := by rintro rfl; obtain ⟨o, q, c, _⟩ := hl; obtain ⟨o', q', c', _⟩ := hit; rw [q] at q'; cases q'; rw [c] at c'; exact absurd c' (by decide)
  refine callType_codes (Q₁ := fun obj s₁ => obj = .ref s.heap.objs.size ∧ s₁ = { s with heap := s.heap.push { cls := .type "dict", data := .dict #[] } }) F.kt_called_dict (F.kt_typeCall_dict_1 _) F.entry_dict_init (kt_code_dict_new _ ⟨rfl, rfl⟩) ?_
  rintro obj s₁ ⟨rfl, rfl⟩
  have hnew : (s.heap.push { cls := .type "dict", data := .dict #[] }).DictOf (mixKind prog w) s.heap.objs.size [] := Heap.DictOf.new s.heap
  refine ⟨hnew.typeIs, F.args_dict_init_2 _ _, ?_⟩
  have oth : ∀ b o, s.heap.get? b = some o → (s.heap.push { cls := .type "dict", data := .dict #[] }).get? b = some o := fun b o q => Heap.get?_push_of_some _ q
  have he1 := oth e _ he
  have hT1 : ({ s with heap := s.heap.push { cls := .type "dict", data := .dict #[] } } : Shared).TypeIs (.ref e) "enumerate" := ⟨_, he1, rfl⟩
  unfold Builtin.«dict.__init__»
  refine wpAny_bind ?_
  unfold Builtin.Dict.selfAndRest
  refine wpAny_bind (wpAny_notOrdered_dict hnew.typeIs ?_)
  show wpAny _ _ (pure (s.heap.objs.size, [Value.ref e])) _ _ _
  refine wpAny_pure ?_
  show wpAny _ _ (Builtin.Dict.updateFrom "dict.__init__" s.heap.objs.size (.ref e) [] .none) _ _ _
  unfold Builtin.Dict.updateFrom
  refine wpAny_bind (wpAny_typeOf hT1 ?_)
  rw [if_pos (by decide)]
  refine wpAny_bind (miss he1 hh fun h2 tk2 k2 => ?_)
  rw [if_pos (show (none : Option Value).isNone = true from rfl)]
  refine wpAny_bind (wpAny_rule ?_)
  refine wpAny_bind (wpAny_pyIter_enum (k2 e _ he1) ?_)
  have dk2 : h2.DictOf (mixKind prog w) s.heap.objs.size [] := by obtain ⟨o, es, ep, ho, r⟩ := hnew; exact ⟨o, es, ep, k2 _ o ho, r⟩
  have kk : ∀ b o, s.heap.get? b = some o → h2.get? b = some o := fun b o q => k2 b o (oth b o q)
  refine wpAny_pure ⟨plainId_quiet plain_loop _, ?_⟩
  refine loop (A := A.in1) (s := { s with heap := h2, toks := tk2 }) (items := items) (d := s.heap.objs.size) (e := e) (it := it) (l := l) (h0 := h2) hh (Nat.ne_of_gt le) (Nat.ne_of_gt li) (Nat.ne_of_lt ll) hle hli hne hn (fun h' tk kvs hk hd hlen hmem => ?_) items.size 0 h2 tk2 [] (Nat.sub_zero _) (Nat.zero_le _)
    (.inl ⟨rfl, old, kk e _ he⟩) (hit.at fun o q => kk it o q) (hl.at fun o q => kk l o q) (fun b o _ _ _ q => q) dk2 (Nat.le_refl _) (fun p hp => by simp at hp)
  exact ⟨rfl, hQ h' tk kvs (fun b o h1 h2 q => hk b o (Nat.ne_of_lt (Heap.lt_size q)) h1 h2 (kk b o q)) hd hlen hmem⟩
end
end EnD
namespace L2
open PySem PySem.Spec PyProof.Rows
section
variable {X : Cx}
end
end L2

set_option Elab.async false
set_option linter.all false
set_option maxRecDepth 100000
set_option maxHeartbeats 4000000
/-! things of any kind; what are last places, of any list -/
namespace L2
open PySem PySem.Spec PyProof.Rows
section
variable {X : Cx} {k : Nat} {sp : Sp} {x : Str} {p pos : Pos}
end
/-! the judgements, closed: a long display is not opened again at each node -/
section
variable {X : Cx} {e c : Expr} {es : List Expr} {te : TE} {t : TA} {pos : Pos} {st : Stmt} {rest a b : List Stmt} {ts us : TS} {tc : TT}
@[irreducible] def QA (X : Cx) (es : List Expr) (t : TA) : Prop := PA X es t
@[irreducible] def QE (X : Cx) (e : Expr) (t : TE) : Prop := PE X e t
@[irreducible] def QS (X : Cx) (s : Stmt) (t : TS) : Prop := PS X s t
@[irreducible] def QSs (X : Cx) (ss : List Stmt) (t : TS) : Prop := PSs X ss t
theorem QA.un (h : QA X es t) : PA X es t := by unfold QA at h; exact h
theorem QA.mk (h : PA X es t) : QA X es t := by unfold QA; exact h
theorem QE.un (h : QE X e te) : PE X e te := by unfold QE at h; exact h
theorem QE.mk (h : PE X e te) : QE X e te := by unfold QE; exact h
theorem QS.un (h : QS X st ts) : PS X st ts := by unfold QS at h; exact h
theorem QS.mk (h : PS X st ts) : QS X st ts := by unfold QS; exact h
theorem QSs.un (h : QSs X rest ts) : PSs X rest ts := by unfold QSs at h; exact h
theorem QSs.mk (h : PSs X rest ts) : QSs X rest ts := by unfold QSs; exact h
theorem qa_nil : QA X [] tNil := .mk pa_nil
theorem qa_cons (ha : PE X e te) (hr : QA X es t) (hs : starEach (e :: es) X.env = (false, eval e X.env) :: starEach es X.env := by rfl) : QA X (e :: es) (tCons te t) := .mk (pa_cons ha hr.un hs)
theorem qe_lst (h : QA X es t) : QE X (.List es pos) (tLst t) := .mk (pe_lst h.un)
theorem qs_set {i : Nat} {x : Str} {pos' : Pos} (hN : X.N.Nodup) (hi : X.N[i]? = some x) (hx : Loc X.env.scope x) (he : QE X e te) (hs : swapsWith e (some (.Name x pos')) pos.line X.env = pure false := by rfl) (hf : X.fn x = true ∨ X.env.scope.names.lookup x = some .local := by first | exact .inl rfl | exact .inr rfl | assumption) :
    QS X (.Assign [.Name x pos'] e pos) (tAsg te (gName i)) := .mk (ps_set hN hi hx he.un hs hf)
theorem qss_cons (h1 : QS X st ts) (h2 : QSs X rest us) : QSs X (st :: rest) (tSeq ts us) := .mk (pss_cons h1.un h2.un)
end
end L2
namespace My
open PySem L2
/-- a value whose kind is known -/
inductive ThK (H : Hp) : V → Prop where
  | non : ThK H .non
  | bl (b : Bool) : ThK H (.bl b)
  | int (i : Int) : ThK H (.int i)
  | str (x : Str) : ThK H (.str x)
  | lst {a : Addr} {xs : List V} (e : H a = some (.lst xs)) : ThK H (.ref a)
  | tup {a : Addr} {xs : List V} (e : H a = some (.tup xs)) : ThK H (.ref a)
  | dK {a : Addr} {kvs : List (Key × V)} (e : H a = some (.dK kvs)) : ThK H (.ref a)
theorem ThK.same {H H' : Hp} {v : V} (t : ThK H v) (s : Same H H') : ThK H' v := by
  cases t with
  | non => exact .non
  | bl b => exact .bl b
  | int i => exact .int i
  | str x => exact .str x
  | lst e => exact .lst (s _ _ e)
  | tup e => exact .tup (s _ _ e)
  | dK e => exact .dK (s _ _ e)
/-- one that is not the hand -/
def Th (h : Addr) (H : Hp) (v : V) : Prop := ThK H v ∧ v ≠ .ref h
theorem Th.sx {h : Addr} {H H' : Hp} {v : V} (t : Th h H v) (s : SameX h H H') : Th h H' v := by
  refine ⟨?_, t.2⟩
  have n : ∀ a, v = .ref a → a ≠ h := fun a e z => t.2 (by rw [e, z])
  cases t.1 with
  | non => exact .non
  | bl b => exact .bl b
  | int i => exact .int i
  | str x => exact .str x
  | lst e => exact .lst (s _ _ (n _ rfl) e)
  | tup e => exact .tup (s _ _ (n _ rfl) e)
  | dK e => exact .dK (s _ _ (n _ rfl) e)
theorem Th.same {h : Addr} {H H' : Hp} {v : V} (t : Th h H v) (s : Same H H') : Th h H' v := ⟨t.1.same s, t.2⟩
/-- a thing; if it is a list, of things -/
def ThD (H : Hp) (v : V) : Prop := ThK H v ∧ ∀ a xs, v = .ref a → H a = some (.lst xs) → xs.length ≤ 1000 ∧ ∀ x ∈ xs, ThK H x
def ThH (h : Addr) (H : Hp) (v : V) (n : Nat) : Prop := Th h H v ∧ ∀ a xs, v = .ref a → H a = some (.lst xs) → xs.length ≤ n ∧ ∀ x ∈ xs, Th h H x
theorem ThH.d {h : Addr} {H : Hp} {v : V} {n : Nat} (t : ThH h H v n) (hn : n ≤ 1000) : ThD H v := ⟨t.1.1, fun a xs e q => ⟨Nat.le_trans (t.2 a xs e q).1 hn, fun x hx => ((t.2 a xs e q).2 x hx).1⟩⟩
theorem same_obj {H H' : Hp} {a : Addr} {v : V} {xs : List V} (t : ThK H v) (s : ∀ o, H a = some o → H' a = some o) (e : v = .ref a) (q : H' a = some (.lst xs)) : H a = some (.lst xs) := by
  subst e
  cases t with
  | lst e => rw [s _ e] at q; cases q; exact e
  | tup e => rw [s _ e] at q; cases q
  | dK e => rw [s _ e] at q; cases q
theorem ThD.same {H H' : Hp} {v : V} (t : ThD H v) (s : Same H H') : ThD H' v := ⟨t.1.same s, fun a xs e q => by
  obtain ⟨h1, h2⟩ := t.2 a xs e (same_obj t.1 (fun o z => s _ _ z) e q)
  exact ⟨h1, fun x hx => (h2 x hx).same s⟩⟩
theorem ThH.sx {h : Addr} {H H' : Hp} {v : V} {n : Nat} (t : ThH h H v n) (s : SameX h H H') : ThH h H' v n := ⟨t.1.sx s, fun a xs e q => by
  obtain ⟨h1, h2⟩ := t.2 a xs e (same_obj t.1.1 (fun o z => s _ _ (fun y => t.1.2 (by rw [e, y])) z) e q)
  exact ⟨h1, fun x hx => (h2 x hx).sx s⟩⟩
theorem ThH.flat {h : Addr} {H : Hp} {v : V} {n : Nat} (t : ThK H v) (nr : ∀ a, v ≠ .ref a) : ThH h H v n := ⟨⟨t, nr h⟩, fun a xs e => absurd e (nr a)⟩
theorem ThH.lst {h : Addr} {H : Hp} {a : Addr} {xs : List V} {n : Nat} (e : H a = some (.lst xs)) (ne : a ≠ h) (hn : xs.length ≤ n) (hx : ∀ x ∈ xs, Th h H x) : ThH h H (.ref a) n :=
  ⟨⟨.lst e, fun z => ne (by injection z)⟩, fun b ys z q => by cases z; rw [e] at q; cases q; exact ⟨hn, hx⟩⟩
theorem ThH.tup {h : Addr} {H : Hp} {a : Addr} {xs : List V} {n : Nat} (e : H a = some (.tup xs)) (ne : a ≠ h) : ThH h H (.ref a) n :=
  ⟨⟨.tup e, fun z => ne (by injection z)⟩, fun b ys z q => by cases z; rw [e] at q; cases q⟩
theorem ThH.dK {h : Addr} {H : Hp} {a : Addr} {kvs : List (Key × V)} {n : Nat} (e : H a = some (.dK kvs)) (ne : a ≠ h) : ThH h H (.ref a) n :=
  ⟨⟨.dK e, fun z => ne (by injection z)⟩, fun b ys z q => by cases z; rw [e] at q; cases q⟩
def wholeV : V → Bool
  | .int _ => true
  | _ => false
def intV : V → Bool
  | .int _ => true
  | .bl _ => true
  | _ => false
def boolV : V → Bool
  | .bl _ => true
  | _ => false
def listV (H : Hp) : V → Bool
  | .ref a => match H a with | some (.lst _) => true | _ => false
  | _ => false
theorem k_NoneType_int {K : PySem.W.Frag} : PySem.W.kitOne K (.type "NoneType") (.type "int") = some false := kit_ty (by decide +kernel) (by decide +kernel) (by decide +kernel)
theorem k_NoneType_bool {K : PySem.W.Frag} : PySem.W.kitOne K (.type "NoneType") (.type "bool") = some false := kit_ty (by decide +kernel) (by decide +kernel) (by decide +kernel)
theorem k_NoneType_list {K : PySem.W.Frag} : PySem.W.kitOne K (.type "NoneType") (.type "list") = some false := kit_ty (by decide +kernel) (by decide +kernel) (by decide +kernel)
theorem k_bool_int {K : PySem.W.Frag} : PySem.W.kitOne K (.type "bool") (.type "int") = some true := kit_ty (by decide +kernel) (by decide +kernel) (by decide +kernel)
theorem k_bool_list {K : PySem.W.Frag} : PySem.W.kitOne K (.type "bool") (.type "list") = some false := kit_ty (by decide +kernel) (by decide +kernel) (by decide +kernel)
theorem k_int_bool {K : PySem.W.Frag} : PySem.W.kitOne K (.type "int") (.type "bool") = some false := kit_ty (by decide +kernel) (by decide +kernel) (by decide +kernel)
theorem k_int_list {K : PySem.W.Frag} : PySem.W.kitOne K (.type "int") (.type "list") = some false := kit_ty (by decide +kernel) (by decide +kernel) (by decide +kernel)
theorem k_str_int {K : PySem.W.Frag} : PySem.W.kitOne K (.type "str") (.type "int") = some false := kit_ty (by decide +kernel) (by decide +kernel) (by decide +kernel)
theorem k_str_bool {K : PySem.W.Frag} : PySem.W.kitOne K (.type "str") (.type "bool") = some false := kit_ty (by decide +kernel) (by decide +kernel) (by decide +kernel)
theorem k_str_list {K : PySem.W.Frag} : PySem.W.kitOne K (.type "str") (.type "list") = some false := kit_ty (by decide +kernel) (by decide +kernel) (by decide +kernel)
theorem k_list_int {K : PySem.W.Frag} : PySem.W.kitOne K (.type "list") (.type "int") = some false := kit_ty (by decide +kernel) (by decide +kernel) (by decide +kernel)
theorem k_list_bool {K : PySem.W.Frag} : PySem.W.kitOne K (.type "list") (.type "bool") = some false := kit_ty (by decide +kernel) (by decide +kernel) (by decide +kernel)
theorem k_tuple_int {K : PySem.W.Frag} : PySem.W.kitOne K (.type "tuple") (.type "int") = some false := kit_ty (by decide +kernel) (by decide +kernel) (by decide +kernel)
theorem k_tuple_bool {K : PySem.W.Frag} : PySem.W.kitOne K (.type "tuple") (.type "bool") = some false := kit_ty (by decide +kernel) (by decide +kernel) (by decide +kernel)
theorem k_tuple_list {K : PySem.W.Frag} : PySem.W.kitOne K (.type "tuple") (.type "list") = some false := kit_ty (by decide +kernel) (by decide +kernel) (by decide +kernel)
theorem k_dict_int {K : PySem.W.Frag} : PySem.W.kitOne K (.type "dict") (.type "int") = some false := kit_ty (by decide +kernel) (by decide +kernel) (by decide +kernel)
theorem k_dict_bool {K : PySem.W.Frag} : PySem.W.kitOne K (.type "dict") (.type "bool") = some false := kit_ty (by decide +kernel) (by decide +kernel) (by decide +kernel)
theorem k_dict_list {K : PySem.W.Frag} : PySem.W.kitOne K (.type "dict") (.type "list") = some false := kit_ty (by decide +kernel) (by decide +kernel) (by decide +kernel)
theorem ThK.kinds {K : PySem.W.Frag} {H : Hp} {v : V} (t : ThK H v) : ∃ u, TyOf K H v u ∧ PySem.W.kitOne K u (.type "int") = some (intV v) ∧ PySem.W.kitOne K u (.type "bool") = some (boolV v) ∧ PySem.W.kitOne K u (.type "list") = some (listV H v) := by
  cases t with
  | non => exact ⟨_, .non, k_NoneType_int, k_NoneType_bool, k_NoneType_list⟩
  | bl b => exact ⟨_, .bl b, k_bool_int, kit_same, k_bool_list⟩
  | int i => exact ⟨_, .int i, kit_same, k_int_bool, k_int_list⟩
  | str x => exact ⟨_, .str x, k_str_int, k_str_bool, k_str_list⟩
  | lst e =>
    refine ⟨_, .lst e, k_list_int, k_list_bool, ?_⟩
    show _ = some (match H _ with | some (.lst _) => true | _ => false)
    rw [e]; exact kit_same
  | tup e =>
    refine ⟨_, .tup e, k_tuple_int, k_tuple_bool, ?_⟩
    show _ = some (match H _ with | some (.lst _) => true | _ => false)
    rw [e]; exact k_tuple_list
  | dK e =>
    refine ⟨_, .dK e, k_dict_int, k_dict_bool, ?_⟩
    show _ = some (match H _ with | some (.lst _) => true | _ => false)
    rw [e]; exact k_dict_list
theorem whole_int {v : V} (h : wholeV v = true) : ∃ n, v = .int n := by
  cases v with
  | int n => exact ⟨n, rfl⟩
  | _ => cases h
theorem ints_of : ∀ {ys : List V}, (∀ y ∈ ys, ∃ m, y = V.int m) → ∃ ms : List Int, ys = ms.map V.int
  | [], _ => ⟨[], rfl⟩
  | y :: r, h => by
    obtain ⟨m, rfl⟩ := h y (List.mem_cons_self ..)
    obtain ⟨ms, rfl⟩ := ints_of (ys := r) fun z hz => h z (List.mem_cons_of_mem _ hz)
    exact ⟨m :: ms, rfl⟩
theorem thd_lst {H : Hp} {a : Addr} {xs : List V} (e : H a = some (.lst xs)) (hn : xs.length ≤ 1000) (hx : ∀ x ∈ xs, ThK H x) : ThD H (.ref a) :=
  ⟨.lst e, fun b ys z q => by cases z; rw [e] at q; cases q; exact ⟨hn, hx⟩⟩
def spSpoilt : Sp := fun vs H Q _ => ∃ (h l : Addr) (xs : List V), vs = [.ref h, .ref l] ∧ HandAt H h ∧ l ≠ h ∧ H l = some (.lst xs) ∧ xs.length ≤ 310 ∧ (∀ x ∈ xs, Th h H x) ∧ ∀ v H', ThH h H' v (xs.length + 1) → HandAt H' h → SameX h H H' → Q v H'
end My

set_option Elab.async false
set_option linter.all false
set_option maxRecDepth 100000
set_option maxHeartbeats 4000000
/-! list(reversed(l)), a[i:j:c], l.count(k), abs. -/
namespace RvL
open PySem PySem.Spec PyProof.Rows
theorem nolen : typeLookup (.type "list_reverseiterator") "__len__" = pure none := by rw [typeLookup_type, builtinLookup_eq_fast]; kernel_rfl
theorem hint : typeLookup (.type "list_reverseiterator") "__length_hint__" = pure (some (.builtin "list_reverseiterator.__length_hint__")) := by rw [typeLookup_type, builtinLookup_eq_fast]; kernel_rfl
section
variable {prog : Program} {w : World} {A : Around} {E : Value → Shared → Prop} {s : Shared} {items : Array Value} {it l : Addr}
theorem extend {R : Result → Shared → Prop} (hh : A.handled = none) (hit : s.heap.IsRevIter it l ((items.size : Int) - 1)) (hl : s.heap.IsList l items) (hne : l ≠ it) (S : Addr) (hSi : S ≠ it) (hSl : S ≠ l) (res : Value) (c0 : Nat)
    (hS : s.heap.get? S = some { cls := .type "list", data := .seq #[] c0 }) (hn : items.size ≤ sizeLine)
    (hR : ∀ h' tk acc c, (∀ b o, b ≠ S → b ≠ it → s.heap.get? b = some o → h'.get? b = some o) → h'.get? S = some { cls := .type "list", dict := none, data := .seq acc c, slots := #[] } → ItemsOf (fun i v => items[items.size - 1 - i]? = some v) acc items.size → R (.ok (.ret res)) { s with heap := h', toks := tk }) :
    wpAny (model prog w) A.in1 (Builtin.List.listExtendWith (.ref S) (.ref it) res)
      (fun fin s' => match fin with | .done f => R (.ok f) s' | .again c' => c'.quiet = true ∧ codeAny (model prog w) A c' R s') (fun x s' => R (.error x) s') s := by
  have hT := hit.typeIs
  have W := (Walks.listRev (prog := prog) (w := w) (A := A.in1) hh it l hne items).toS
  have h1 : Builtin.List.listSameRef (.ref S) (.ref it) = false := by simp [Builtin.List.listSameRef, hSi]
  have hSf : S ∉ [it, l] := fun h => by
    rcases List.mem_cons.mp h with z | z
    · exact hSi z
    · exact hSl (by simpa using z)
  unfold Builtin.List.listExtendWith
  refine wpAny_bind (wpAny_typeOf (T := "list_reverseiterator") hT ?_)
  rw [if_neg (by rw [h1]; decide)]
  refine wpAny_bind (wpAny_pyIter_revIter hit ?_)
  refine wpAny_bind (wpAny_holding ?_)
  unfold Builtin.List.listLengthHint
  refine wpAny_bind (wpAny_specialOf hT nolen ?_)
  show wpAny _ A.in1 (specialOf (Value.ref it) (Str.ofString "__length_hint__") >>= _) _ _ _
  refine wpAny_bind (wpAny_specialOf hT hint ?_)
  (generalize hid : ("list_reverseiterator.__length_hint__" : String) = id0; (fail_if_success (clear hid id0)); wp_delta; rw [show splitId id0 = some ("list_reverseiterator", "__length_hint__") from by subst hid; decide +kernel]; subst hid)
  refine wpAny_bind (wpAny_isInstance (b := true) hT (by rw [isSubtype_type]; kernel_rfl) ?_)
  refine wpAny_pure ?_
  rw [if_neg (by decide)]
  refine wpAny_pure ⟨plainId_quiet PySem.F.plain_extend_loop _, codeAny_extend_loopS W hn S hSf res items.size 0 _ #[] _ rfl (Nat.zero_le _) ⟨Nat.zero_le _, ?_, hl⟩ hS (ItemsOf.nil _) fun s' acc' c' hm hS' hacc => ?_⟩
  · have e : (items.size : Int) - 1 - ((0 : Nat) : Int) = (items.size : Int) - 1 := by omega
    rw [e]; exact hit
  · rw [Moved.eq_with hm]
    refine hR s'.heap s'.toks acc' c' (fun b o hb hi e => hm.heap b o (fun hmem => ?_) e) hS' hacc
    rcases List.mem_cons.mp hmem with e' | hmem
    · exact hb e'
    · exact hi (List.mem_singleton.mp hmem)
theorem call {Q : Value → Shared → Prop} (hh : A.handled = none) (hit : s.heap.IsRevIter it l ((items.size : Int) - 1)) (hl : s.heap.IsList l items) (hne : l ≠ it) (hn : items.size ≤ sizeLine)
    (hQ : ∀ h' tk acc c, (∀ b o, b ≠ it → s.heap.get? b = some o → h'.get? b = some o) → h'.get? s.heap.objs.size = some { cls := .type "list", dict := none, data := .seq acc c, slots := #[] } → ItemsOf (fun i v => items[items.size - 1 - i]? = some v) acc items.size → Q (.ref s.heap.objs.size) { s with heap := h', toks := tk }) :
    wpAny (model prog w) A (PySem.call (.type "list") [.ref it]) Q E s := by
  refine callType_codes (Q₁ := fun obj s₁ => obj = .ref s.heap.objs.size ∧ s₁ = { s with heap := s.heap.push { cls := .type "list", data := .seq #[] } }) PySem.F.called_list (PySem.F.typeCall_list_1 _) PySem.F.entry_list_init (code_list_new _ ⟨rfl, rfl⟩) fun obj s1 h1 => ?_
  obtain ⟨rfl, rfl⟩ := h1
  have hS : (s.heap.push { cls := .type "list", data := .seq #[] }).get? s.heap.objs.size = some { cls := .type "list", data := .seq #[] } := Heap.get?_push_size _ rfl
  have li : it < s.heap.objs.size := by obtain ⟨_, q, _⟩ := hit; exact Heap.lt_size q
  have ll : l < s.heap.objs.size := by obtain ⟨_, q, _⟩ := hl; exact Heap.lt_size q
  refine ⟨⟨_, hS, rfl⟩, PySem.F.args_list_init_2 _ _, ?_⟩
  show wpAny _ _ (do let old ← Builtin.List.listItems (.ref s.heap.objs.size); Builtin.List.listUpdate (.ref s.heap.objs.size) (fun _ => #[]); letGo old.toList.reverse; Builtin.List.listExtendWith (.ref s.heap.objs.size) (.ref it) .none) _ _ _
  refine wpAny_bind ?_
  unfold Builtin.List.listItems
  refine wpAny_bind (wpAny_seqItems hS rfl (wpAny_pure ?_))
  show wpAny _ _ (updateSeq s.heap.objs.size (fun _ => #[]) >>= fun _ => letGo (#[] : Array Value).toList.reverse >>= fun _ => Builtin.List.listExtendWith (.ref s.heap.objs.size) (.ref it) .none) _ _ _
  refine wpAny_bind (wpAny_updateSeq hS rfl ?_)
  have hS2 := Heap.get?_update_self (Obj.mapSeq (fun _ => (#[] : Array Value))) hS rfl
  have oth : ∀ b o, s.heap.get? b = some o → ((s.heap.push { cls := .type "list", data := .seq #[] }).update s.heap.objs.size (Obj.mapSeq (fun _ => (#[] : Array Value)))).get? b = some o :=
    fun b o q => (Heap.get?_update_other _ _ (Nat.ne_of_gt (Heap.lt_size q))).trans (Heap.get?_push_of_some _ q)
  refine wpAny_bind (wpAny_letGo ?_)
  refine extend (A := A.in1) (items := items) (l := l) (it := it) hh (hit.at fun o q => oth it o q) (hl.at fun o q => oth l o q) hne _ (Nat.ne_of_gt li) (Nat.ne_of_gt ll) .none _ hS2 hn fun h' tk acc c hk hS' hacc => ?_
  exact ⟨rfl, hQ h' tk acc c (fun b o h1 q => hk b o (Nat.ne_of_lt (Heap.lt_size q)) h1 (oth b o q)) hS' hacc⟩
end
end RvL
namespace L2
open PySem PySem.Spec PyProof.Rows
section
variable {X : Cx} {K : PySem.W.Frag}
variable {e el eh es : Expr} {te tl th ts : TE} {pos p2 : Pos}
end
end L2

set_option Elab.async false
set_option linter.all false
set_option maxRecDepth 100000
set_option maxHeartbeats 4000000
/-! The windows of a width, their sums; a purse of numbers to draw from. -/
namespace My
open L2
def lineM (ns : List Int) (f : Nat) : List Int := (List.range (ns.length - f + 1)).map fun k => (cnt ns f (f + k) : Int)
end My
namespace L2
open PySem PySem.Spec PyProof.Rows
/-- a purse: numbers from 0, to be drawn from behind -/
def PurseAt (H : Hp) (p : Addr) : Prop := ∃ ps : List Int, H p = some (.lst (ps.map V.int)) ∧ ps.length ≤ 120 ∧ ∀ x ∈ ps, 0 ≤ x
theorem PurseAt.same {H H' : Hp} {h : Addr} (x : PurseAt H h) (s : Same H H') : PurseAt H' h := let ⟨a, e, r⟩ := x; ⟨a, s h _ e, r⟩
theorem PurseAt.obj {H : Hp} {h : Addr} (x : PurseAt H h) : ∃ o, H h = some o := let ⟨_, e, _⟩ := x; ⟨_, e⟩
theorem PurseAt.new {H : Hp} {h p : Addr} {o : HO} (x : PurseAt H h) (hp : H p = none) : PurseAt (upd H p o) h := x.same (Same.new hp)
theorem PurseAt.ne {H : Hp} {h p : Addr} (x : PurseAt H h) (hp : H p = none) : p ≠ h := fun e => by obtain ⟨o, q⟩ := x.obj; rw [e, q] at hp; cases hp
theorem PurseAt.put {H : Hp} {h p : Addr} {o : HO} (x : PurseAt H h) (hp : p ≠ h) : PurseAt (upd H p o) h := let ⟨a, e, r⟩ := x; ⟨a, by rw [upd_ne hp.symm]; exact e, r⟩
theorem PurseAt.sx {H H' : Hp} {h p : Addr} (x : PurseAt H h) (s : SameX p H H') (n : h ≠ p) : PurseAt H' h := let ⟨a, e, r⟩ := x; ⟨a, s h _ n e, r⟩
def valM (w a : Int) : Int := if w = 0 then a else if w = 1 then 10 ^ 20 - a else if w = 2 then [-1, 1].getD (a % 2).toNat 0 * (10 ^ 18 + a) else if w = 3 then a - 20 else 977 * a - 10 ^ 20
theorem neNil {K : PySem.W.Frag} {H : Hp} {Q : VK} {a b : Addr} {xs : List V} (ha : SqL K H a xs) (hb : SqL K H b []) (q : Q (.bl (!decide (xs = []))) H) : rEqL K true (.ref a) (.ref b) H Q := by
  refine ⟨a, b, _, _, rfl, rfl, ha, hb, fun h => ?_, ?_⟩
  · have : xs = [] := List.length_eq_zero_iff.mp h
    subst this; exact ⟨rfl, rfl⟩
  · have e : eqVs xs [] = decide (xs = []) := by
      cases xs with
      | nil => rfl
      | cons x r => rfl
    rw [e]; exact q
/-- lists in a list -/
def LinesAt (H : Hp) (S : Addr) (ns : List Int) : Prop := ∃ as : List Addr, H S = some (.lst (as.map V.ref)) ∧ as.length = ns.length + 1 ∧ ∀ (f : Nat) (l : Addr), as[f]? = some l → H l = some (.lst ((My.lineM ns f).map V.int))
theorem LinesAt.same {H H' : Hp} {S : Addr} {ns : List Int} (x : LinesAt H S ns) (s : Same H H') : LinesAt H' S ns := let ⟨as, e, l, k⟩ := x; ⟨as, s _ _ e, l, fun f a h => s _ _ (k f a h)⟩
end L2

set_option Elab.async false
set_option linter.all false
set_option maxRecDepth 100000
set_option maxHeartbeats 4000000
/-! Windows with so many: gains, reaches, stretches, counts. -/
namespace My
open L2
/-- the place of the j-th gain from f on -/
def gAt (ns : List Int) (f j : Nat) : Nat := ((firstsM ns f ns.length).getD j 0).toNat
theorem gAt_spec {ns : List Int} {f j : Nat} (hf : f ≤ ns.length) (hj : j < cnt ns f ns.length) : f ≤ gAt ns f j ∧ gAt ns f j < ns.length ∧ cnt ns f (gAt ns f j) = j ∧ cnt ns f (gAt ns f j + 1) = j + 1 ∧ (firstsM ns f ns.length).getD j 0 = (gAt ns f j : Int) := by
  obtain ⟨g, h1, h2, h3, h4, h5⟩ := firsts_at hf j hj
  have e : (firstsM ns f ns.length).getD j 0 = (g : Int) := by rw [List.getD_eq_getElem?_getD, h5]; rfl
  have eg : gAt ns f j = g := by unfold gAt; rw [e]; omega
  rw [eg]
  exact ⟨h1, h2, h3, h4, e⟩
/-- the greatest behind from f on with at most m -/
def reach (ns : List Int) (f m : Nat) : Nat := if m < cnt ns f ns.length then gAt ns f m else ns.length
theorem reach_le {ns : List Int} {f m : Nat} (hf : f ≤ ns.length) : f ≤ reach ns f m ∧ reach ns f m ≤ ns.length := by
  unfold reach
  split
  · rename_i h; have := gAt_spec hf h; omega
  · omega
theorem cnt_le_iff {ns : List Int} {f m b : Nat} (hf : f ≤ b) (hb : b ≤ ns.length) : cnt ns f b ≤ m ↔ b ≤ reach ns f m := by
  unfold reach
  split
  · rename_i h
    obtain ⟨h1, h2, h3, h4, _⟩ := gAt_spec (Nat.le_trans hf hb) h
    constructor
    · intro z
      refine Nat.le_of_not_lt fun y => ?_
      have := cnt_up (ns := ns) (f := f) (b := gAt ns f m + 1) (c := b) (by omega) y
      omega
    · intro z
      have := cnt_up (ns := ns) (f := f) (b := b) (c := gAt ns f m) hf z
      omega
  · rename_i h
    have := cnt_up (ns := ns) (f := f) (b := b) (c := ns.length) hf hb
    constructor
    · intro _; exact hb
    · intro _; omega
theorem cnt_eq_iff {ns : List Int} {f m b : Nat} (hf : f ≤ b) (hb : b ≤ ns.length) (hm : 0 < m) (hc : m ≤ cnt ns f ns.length) : cnt ns f b = m ↔ gAt ns f (m - 1) < b ∧ b ≤ reach ns f m := by
  have h1 := cnt_le_iff (ns := ns) (f := f) (m := m) hf hb
  have h2 := cnt_le_iff (ns := ns) (f := f) (m := m - 1) hf hb
  have e : reach ns f (m - 1) = gAt ns f (m - 1) := by unfold reach; rw [if_pos (by omega)]
  rw [e] at h2
  constructor
  · intro z
    refine ⟨Nat.lt_of_not_le fun y => ?_, h1.mp (by omega)⟩
    have := h2.mpr y
    omega
  · rintro ⟨z1, z2⟩
    have := h1.mpr z2
    have : ¬ cnt ns f b ≤ m - 1 := fun y => by have := h2.mp y; omega
    omega
theorem cnt_pos {ns : List Int} {f b : Nat} (hf : f < b) : 0 < cnt ns f b := by
  have h1 := cnt_snoc (ns := ns) (f := f) (b := f) (Nat.le_refl _)
  have h2 := (lastIx_lt ns (ns.getD f 0) f).2
  rw [if_pos h2] at h1
  have := cnt_up (ns := ns) (f := f) (b := f + 1) (c := b) (Nat.le_succ _) hf
  omega
def manyAt (ns : List Int) (f c : Nat) : Int := sumR (ns.length - f) fun i => if cnt ns f (f + (1 + i)) = c then 1 else 0
def countAt (ns : List Int) (k c : Nat) : Int := sumR k fun f => manyAt ns f c
def countsM (ns : List Int) : List Int := (List.range (cnt ns 0 ns.length + 1)).map (countAt ns ns.length)
end My
namespace L2
open PySem PySem.Spec PyProof.Rows
theorem PN.sx {H H' : Hp} {l : List (Addr × HO)} (x : PN H l) (i : Nat) {h : Addr} {o : HO} (hi : l[i]? = some (h, o)) (s : SameX h H H') : PN H' (l.eraseIdx i) := by
  refine ⟨fun p hp => ?_, ((List.eraseIdx_sublist l i).map _).nodup x.nd⟩
  obtain ⟨j, hj, e⟩ := List.mem_eraseIdx_iff_getElem?.mp hp
  exact s _ _ (x.ne j i hj (o := p.2) (by rw [e]) hi) (x.pin p (List.mem_of_getElem? e))
/-- tuples of ints that stand as told -/
def TupsAt (H : Hp) (ts : List Addr) (xss : List (List Int)) : Prop := ts.length = xss.length ∧ ∀ (i : Nat) (t : Addr) (xs : List Int), ts[i]? = some t → xss[i]? = some xs → H t = some (.tup (xs.map V.int))
theorem TupsAt.same {H H' : Hp} {ts : List Addr} {xss : List (List Int)} (x : TupsAt H ts xss) (s : Same H H') : TupsAt H' ts xss := ⟨x.1, fun i t xs h1 h2 => s _ _ (x.2 i t xs h1 h2)⟩
theorem TupsAt.snoc {H : Hp} {ts : List Addr} {xss : List (List Int)} {t : Addr} {xs : List Int} (x : TupsAt H ts xss) (e : H t = some (.tup (xs.map V.int))) : TupsAt H (ts ++ [t]) (xss ++ [xs]) := by
  refine ⟨by rw [List.length_append, List.length_append, x.1]; rfl, fun i t' xs' h1 h2 => ?_⟩
  by_cases hi : i < ts.length
  · rw [List.getElem?_append_left hi] at h1
    rw [List.getElem?_append_left (by rw [← x.1]; exact hi)] at h2
    exact x.2 i t' xs' h1 h2
  · have hi' : i = ts.length := by
      have := (List.getElem?_eq_some_iff.mp h1).1
      rw [List.length_append, List.length_singleton] at this; omega
    subst hi'
    rw [List.getElem?_append_right (Nat.le_refl _), Nat.sub_self] at h1
    rw [x.1, List.getElem?_append_right (Nat.le_refl _), Nat.sub_self] at h2
    have e1 : t = t' := by simpa using h1
    have e2 : xs = xs' := by simpa using h2
    subst e1 e2
    exact e
end L2

set_option Elab.async false
set_option linter.all false
set_option maxRecDepth 100000
set_option maxHeartbeats 4000000
/-! max and min of a list by a key and with a default. -/
namespace L2
open PySem PySem.Spec PyProof.Rows
section
variable {X : Cx} {pins : List (Addr × Obj)} {σ : St} {H : Hp} {s : Shared}
/-- the same context within a built-in, no exception wanted -/
abbrev Cx.inn (X : Cx) : Cx := { X with A := X.A.in1, xe := fun _ _ => False }
theorem Inv.inn (I : Inv X pins σ H s) : Inv X.inn pins σ H s :=
  ⟨⟨I.ok.mod, I.ok.kind, I.ok.glob, I.ok.blt, I.ok.above, I.ok.inj, I.ok.has, I.ok.cab, I.ok.hd, I.ok.frames, I.ok.stk, I.ok.exf, I.ok.bs, I.ok.bsz, I.ok.noex, I.ok.exfs, I.ok.funs, I.ok.frf⟩, I.os, I.bare, I.base, I.loc, I.cell, I.free, I.freeC, I.pin, I.hok, I.len⟩
end

section
variable {X : Cx} {pins : List (Addr × Obj)} {σ : St} {H2 : Hp} {k : Nat} {f l S It : Addr} {fd : FuncData} {ps : List Str} {sp : Sp} {xs : List V} {kf : Nat → Int}
end

section
variable {X : Cx} {pins : List (Addr × Obj)} {σ : St} {H2 : Hp} {k : Nat} {f l S It : Addr} {fd : FuncData} {ps : List Str} {sp : Sp} {xs : List V} {kf : Nat → Int}
end

section
variable {X : Cx} {K : PySem.W.Frag} {x : Str} {k : Nat} {ps : List Str} {sp : Sp} {e d : Expr} {te td : TE} {p pk pos k1 k2 : Pos}
end
end L2

set_option Elab.async false
set_option linter.all false
set_option maxRecDepth 100000
set_option maxHeartbeats 4000000
/-! repr of a tuple of small ints, of a list of such. -/
namespace L2
open PySem PySem.Spec PyProof.Rows
def dT (ns : List Int) : PyData := .tuple (ns.map PyData.int)
section
variable {X : Cx} {pins : List (Addr × Obj)} {σ : St} {H : Hp} {s : Shared}
end
end L2

set_option Elab.async false
set_option linter.all false
set_option maxRecDepth 100000
set_option maxHeartbeats 4000000
/-! == of tuples of ints, of None, of lists of tuples. -/
namespace L2
open PySem PySem.Spec PyProof.Rows
section
variable {X : Cx} {K : PySem.W.Frag} {pins : List (Addr × Obj)} {σ : St} {H : Hp} {s : Shared}
/-- None, or a tuple of ints -/
def TupN (K : PySem.W.Frag) (H : Hp) (v : V) (o : Option (List Int)) : Prop := (v = .non ∧ o = none) ∨ ∃ t ns, v = .ref t ∧ o = some ns ∧ SqT K H t (ns.map V.int)
end
theorem TupsAt.sx {H H' : Hp} {hl : Addr} {ts : List Addr} {xss : List (List Int)} {qs : List V} (x : TupsAt H ts xss) (e : H hl = some (.lst qs)) (s : SameX hl H H') : TupsAt H' ts xss :=
  ⟨x.1, fun i t xs h1 h2 => s _ _ (ne_of (x.2 i t xs h1 h2) e (by intro z; cases z)) (x.2 i t xs h1 h2)⟩
end L2

set_option Elab.async false
set_option linter.all false
set_option maxRecDepth 100000
set_option maxHeartbeats 4000000
/-! Widths of like rows, of rows from behind; totals; the longest window within. -/
namespace My
open L2
/-- the longest window with at most m, the least first of several -/
def WithinP (ns : List Int) (m f b : Nat) : Prop := (ns.length = 0 ∧ f = 0 ∧ b = 0) ∨ (f < ns.length ∧ b = reach ns f m ∧ ∀ j, j < ns.length → reach ns j m - j ≤ reach ns f m - f ∧ (j < f → reach ns j m - j < reach ns f m - f))
/-- the best of the windows from the first k places on -/
def Bst (ns : List Int) (m k f b : Nat) : Prop := (f = 0 ∧ b = 0 ∧ ∀ j, j < k → reach ns j m - j = 0) ∨ (f < k ∧ b = reach ns f m ∧ 0 < b - f ∧ ∀ j, j < k → reach ns j m - j ≤ b - f ∧ (j < f → reach ns j m - j < b - f))
theorem Bst.le {ns : List Int} {m k f b : Nat} (h : Bst ns m k f b) : f ≤ b := by
  rcases h with ⟨q1, q2, q3⟩ | ⟨q1, q2, q3, q4⟩ <;> omega
end My
namespace L2
open PySem PySem.Spec PyProof.Rows
end L2

set_option Elab.async false
set_option linter.all false
set_option maxRecDepth 100000
set_option maxHeartbeats 4000000
/-! The longest and the shortest window with just so many. -/
namespace My
open L2
/-- some window from f on has just m -/
def HasW (ns : List Int) (m f : Nat) : Prop := 0 < m ∧ m ≤ cnt ns f ns.length
instance (ns : List Int) (m f : Nat) : Decidable (HasW ns m f) := by unfold HasW; exact inferInstance
def least (ns : List Int) (f m : Nat) : Nat := gAt ns f (m - 1) + 1
theorem least_reach {ns : List Int} {f m : Nat} (hf : f ≤ ns.length) (h : HasW ns m f) : f < least ns f m ∧ least ns f m ≤ reach ns f m ∧ reach ns f m ≤ ns.length := by
  obtain ⟨h1, h2, h3, h4, _⟩ := gAt_spec (ns := ns) (f := f) (j := m - 1) hf (by have := h.1; have := h.2; omega)
  have hr := reach_le (ns := ns) (f := f) (m := m) hf
  have := (cnt_eq_iff (ns := ns) (f := f) (m := m) (b := gAt ns f (m - 1) + 1) (by omega) (by omega) h.1 h.2).mp (by have := h.1; omega)
  unfold least
  omega
theorem cnt_has {ns : List Int} {f m b : Nat} (hf : f < b) (hb : b ≤ ns.length) : cnt ns f b = m ↔ HasW ns m f ∧ least ns f m ≤ b ∧ b ≤ reach ns f m := by
  constructor
  · intro h
    have hp := cnt_pos (ns := ns) hf
    have hu := cnt_up (ns := ns) (f := f) (b := b) (c := ns.length) (by omega) hb
    have hh : HasW ns m f := ⟨by omega, by omega⟩
    have := (cnt_eq_iff (ns := ns) (f := f) (m := m) (b := b) (by omega) hb hh.1 hh.2).mp h
    exact ⟨hh, by unfold least; omega, this.2⟩
  · rintro ⟨hh, h1, h2⟩
    exact (cnt_eq_iff (ns := ns) (f := f) (m := m) (b := b) (by omega) hb hh.1 hh.2).mpr ⟨by unfold least at h1; omega, h2⟩
def fl (ns : List Int) (m : Nat) : List Nat := if m = 0 then [] else (List.range ns.length).filter fun f => decide (m ≤ cnt ns f ns.length)
/-- the longest (shortest) window with just m -/
def LongP (ns : List Int) (m k : Nat) : Option (Nat × Nat) → Prop
  | none => ∀ j, j < k → ¬ HasW ns m j
  | some p => p.1 < k ∧ HasW ns m p.1 ∧ p.2 = reach ns p.1 m ∧ ∀ j, j < k → HasW ns m j → reach ns j m - j ≤ p.2 - p.1 ∧ (j < p.1 → reach ns j m - j < p.2 - p.1)
def ShortP (ns : List Int) (m k : Nat) : Option (Nat × Nat) → Prop
  | none => ∀ j, j < k → ¬ HasW ns m j
  | some p => p.1 < k ∧ HasW ns m p.1 ∧ p.2 = least ns p.1 m ∧ ∀ j, j < k → HasW ns m j → p.2 - p.1 ≤ least ns j m - j ∧ (j < p.1 → p.2 - p.1 < least ns j m - j)
theorem not_end (ns : List Int) (m : Nat) : ¬ HasW ns m ns.length := fun h => by have := h.2; rw [cnt_self] at this; have := h.1; omega
theorem long_unique {ns : List Int} {m : Nat} {o p : Option (Nat × Nat)} (h : LongP ns m ns.length o) (h' : LongP ns m (ns.length + 1) p) : o = p := by
  match o, p, h, h' with
  | none, none, _, _ => rfl
  | none, some p, h, ⟨h1, h2, _⟩ =>
    by_cases z : p.1 = ns.length
    · rw [z] at h2; exact absurd h2 (not_end ns m)
    · exact absurd h2 (h p.1 (by omega))
  | some o, none, ⟨h1, h2, _⟩, h => exact absurd h2 (h o.1 (by omega))
  | some o, some p, ⟨h1, h2, h3, h4⟩, ⟨q1, q2, q3, q4⟩ =>
    have z : p.1 ≠ ns.length := fun z => by rw [z] at q2; exact not_end ns m q2
    have a1 := h4 p.1 (by omega) q2
    have a2 := q4 o.1 (by omega) h2
    rw [← q3] at a1
    rw [← h3] at a2
    have e : o.1 = p.1 := by
      rcases Nat.lt_trichotomy o.1 p.1 with y | y | y
      · have := a2.2 y; omega
      · exact y
      · have := a1.2 y; omega
    have e2 : o.2 = p.2 := by rw [h3, q3, e]
    rw [show o = (o.1, o.2) from rfl, show p = (p.1, p.2) from rfl, e, e2]
/-- is o none, or narrower (wider) than x -/
def thinner (o : Option (Nat × Nat)) (x : Nat) : Prop := match o with
  | none => True
  | some p => p.2 - p.1 < x
def thicker (o : Option (Nat × Nat)) (x : Nat) : Prop := match o with
  | none => True
  | some p => x < p.2 - p.1
instance (o : Option (Nat × Nat)) (x : Nat) : Decidable (thinner o x) := by cases o <;> (unfold thinner; exact inferInstance)
instance (o : Option (Nat × Nat)) (x : Nat) : Decidable (thicker o x) := by cases o <;> (unfold thicker; exact inferInstance)
theorem LongP.le {ns : List Int} {m k : Nat} {o : Option (Nat × Nat)} (h : LongP ns m k o) : k ≤ ns.length → ∀ q, o = some q → q.1 ≤ q.2 := fun hk q hq => by
  subst hq
  obtain ⟨h1, h2, h3, _⟩ := h
  have := least_reach (ns := ns) (f := q.1) (m := m) (by omega) h2
  omega
theorem ShortP.le {ns : List Int} {m k : Nat} {o : Option (Nat × Nat)} (h : ShortP ns m k o) : k ≤ ns.length → ∀ q, o = some q → q.1 ≤ q.2 := fun hk q hq => by
  subst hq
  obtain ⟨h1, h2, h3, _⟩ := h
  have := least_reach (ns := ns) (f := q.1) (m := m) (by omega) h2
  omega
end My
namespace L2
open PySem PySem.Spec PyProof.Rows
/-- None, or a tuple of two places -/
def OptT (H : Hp) (v : V) : Option (Nat × Nat) → Prop
  | none => v = .non
  | some p => ∃ t, v = .ref t ∧ H t = some (.tup [.int (p.1 : Int), .int (p.2 : Int)])
theorem OptT.same {H H' : Hp} {v : V} {o : Option (Nat × Nat)} (x : OptT H v o) (s : Same H H') : OptT H' v o := by
  cases o with
  | none => exact x
  | some p => obtain ⟨t, e, h⟩ := x; exact ⟨t, e, s _ _ h⟩
end L2

set_option Elab.async false
set_option linter.all false
set_option maxRecDepth 100000
set_option maxHeartbeats 4000000
/-! Tuples or None; a comprehension of tuples. -/
namespace My
open L2
theorem new_iff {ns : List Int} {f b : Nat} : lastIx ns (ns.getD b 0) b < (f : Int) ↔ ∀ j, f ≤ j → j < b → ns.getD j 0 ≠ ns.getD b 0 := by
  constructor
  · intro h j h1 h2 e
    have := lastIx_max ns (ns.getD b 0) b j h2 e
    omega
  · intro h
    rcases Int.lt_or_le (lastIx ns (ns.getD b 0) b) (f : Int) with z | z
    · exact z
    · have h1 := lastIx_lt ns (ns.getD b 0) b
      have h2 := lastIx_at ns (ns.getD b 0) b (by omega)
      exact absurd h2 (h _ (by omega) (by omega))
theorem reach_is {ns : List Int} {f m r : Nat} (h1 : f ≤ r) (h2 : r ≤ ns.length) (h3 : cnt ns f r ≤ m) (h4 : r < ns.length → m < cnt ns f (r + 1)) : reach ns f m = r := by
  have a := (cnt_le_iff h1 h2).mp h3
  have b := reach_le (ns := ns) (f := f) (m := m) (by omega)
  rcases Nat.lt_or_ge r (reach ns f m) with z | z
  · have := (cnt_le_iff (ns := ns) (f := f) (m := m) (b := r + 1) (by omega) (by omega)).mpr (by omega)
    have := h4 (by omega)
    omega
  · omega
theorem least_is {ns : List Int} {f m l : Nat} (h1 : f < l) (h2 : l ≤ ns.length) (h3 : cnt ns f l = m) (h4 : cnt ns f (l - 1) < m) : HasW ns m f ∧ least ns f m = l := by
  obtain ⟨hw, a, b⟩ := (cnt_has h1 h2).mp h3
  refine ⟨hw, ?_⟩
  have lr := least_reach (ns := ns) (f := f) (m := m) (by omega) hw
  rcases Nat.lt_or_ge (least ns f m) l with z | z
  · have h5 := (cnt_has (ns := ns) (m := m) (b := least ns f m) lr.1 (by omega)).mpr ⟨hw, Nat.le_refl _, lr.2.1⟩
    have h6 := cnt_up (ns := ns) (f := f) (b := least ns f m) (c := l - 1) (by omega) (by omega)
    omega
  · omega
theorem sumR_app (a : Nat) (g : Nat → Int) : ∀ b, sumR (a + b) g = sumR a g + sumR b (fun i => g (a + i))
  | 0 => by simp [sumR]
  | b + 1 => by rw [← Nat.add_assoc, sumR_succ, sumR_succ, sumR_app a g b]; omega
end My
namespace L2
open PySem PySem.Spec PyProof.Rows My
theorem OptT.n {K : PySem.W.Frag} {H : Hp} {v : V} {o : Option (Nat × Nat)} (x : OptT H v o) : TupN K H v (o.map fun p => [(p.1 : Int), (p.2 : Int)]) := by
  cases o with
  | none => exact .inl ⟨x, rfl⟩
  | some p => obtain ⟨t, e, h⟩ := x; exact .inr ⟨t, _, e, rfl, SqT.of h⟩
end L2

set_option Elab.async false
set_option linter.all false
set_option maxRecDepth 100000
set_option maxHeartbeats 4000000
namespace My
open L2
end My
namespace L2
open PySem PySem.Spec PyProof.Rows My
end L2

set_option Elab.async false
set_option linter.all false
set_option maxRecDepth 100000
set_option maxHeartbeats 4000000
/-! Rows by a rule: round and round, and each number so many times. -/
namespace My
open L2
-- round
-- stood
theorem blocks (t : Nat) (ht : 0 < t) : ∀ s, sumR (s * t) (fun f => (((f / t + 1) * t : Nat) : Int) - (f : Int)) = (s : Int) * sumR t (fun i => (t : Int) - (i : Int))
  | 0 => by simp [sumR]
  | s + 1 => by
    have e : sumR t (fun i => ((((s * t + i) / t + 1) * t : Nat) : Int) - ((s * t + i : Nat) : Int)) = sumR t (fun i => (t : Int) - (i : Int)) := by
      refine sumR_congr fun i hi => ?_
      have e : (s * t + i) / t = s := by rw [Nat.add_comm, Nat.add_mul_div_right _ _ ht, Nat.div_eq_of_lt hi, Nat.zero_add]
      rw [e, Nat.succ_mul]
      omega
    rw [Nat.succ_mul, sumR_app, blocks t ht s, e]
    push_cast; rw [Int.add_mul, Int.one_mul]
def planted (w : Int) (n : Nat) (g : Nat → Nat) : List Int := (List.range n).map fun i => valM w (g i : Int)
end My
namespace L2
open PySem PySem.Spec PyProof.Rows My
end L2

set_option Elab.async false
set_option linter.all false
set_option maxRecDepth 100000
set_option maxHeartbeats 4000000
/-! A row otherwise: other names, from behind, one more number. -/
namespace My
open L2
/-- the same numbers in all windows -/
def Cong (as bs : List Int) : Prop := as.length = bs.length ∧ ∀ f b, f ≤ b → b ≤ as.length → cnt as f b = cnt bs f b
theorem not_le_iff {ns : List Int} {f m b : Nat} (hf : f ≤ b) (hb : b ≤ ns.length) (h : reach ns f m < b) : m < cnt ns f b := by
  rcases Nat.lt_or_ge m (cnt ns f b) with z | z
  · exact z
  · have := (cnt_le_iff hf hb).mp z; omega
theorem least_at {ns : List Int} {f m : Nat} (hf : f ≤ ns.length) (h : HasW ns m f) : cnt ns f (least ns f m) = m ∧ cnt ns f (least ns f m - 1) < m := by
  have lr := least_reach hf h
  have e1 := (cnt_has (ns := ns) (m := m) lr.1 (by omega)).mpr ⟨h, Nat.le_refl _, lr.2.1⟩
  refine ⟨e1, ?_⟩
  rcases Nat.lt_or_ge f (least ns f m - 1) with z | z
  · have h1 := cnt_up (ns := ns) (f := f) (b := least ns f m - 1) (c := least ns f m) (by omega) (by omega)
    rcases Nat.lt_or_ge (cnt ns f (least ns f m - 1)) m with y | y
    · exact y
    · have := ((cnt_has (ns := ns) (m := m) z (by omega)).mp (by omega)).2.1
      omega
  · rw [show least ns f m - 1 = f by omega, cnt_self]; exact h.1
/-- what the windows from f on of two rows have in common: up to n, and shifted by d -/
theorem reach_shift {as bs : List Int} {f n d m : Nat} (hf : f ≤ n) (hb : n ≤ bs.length) (ha : as.length = n) (hc : ∀ b, f ≤ b → b ≤ n → cnt bs (f + d) (b + d) = cnt as f b) (hn : n + d ≤ bs.length) : reach as f m = min n (reach bs (f + d) m - d) := by
  have hr := reach_le (ns := bs) (f := f + d) (m := m) (by omega)
  refine reach_is (by omega) (by omega) ?_ fun z => ?_
  · rw [← hc _ (by omega) (by omega)]
    exact (cnt_le_iff (by omega) (by omega)).mpr (by omega)
  · rw [← hc _ (by omega) (by omega)]
    exact not_le_iff (by omega) (by omega) (by omega)
theorem least_shift {as bs : List Int} {f n d m : Nat} (hf : f ≤ n) (ha : as.length = n) (hc : ∀ b, f ≤ b → b ≤ n → cnt bs (f + d) (b + d) = cnt as f b) (hn : n + d ≤ bs.length) (h : HasW as m f) : HasW bs m (f + d) ∧ least bs (f + d) m = least as f m + d := by
  have lr := least_reach (by omega) h
  have la := least_at (by omega) h
  refine least_is (by omega) (by omega) ?_ ?_
  · rw [hc _ (by omega) (by omega)]; exact la.1
  · rw [show least as f m + d - 1 = least as f m - 1 + d by omega, hc _ (by omega) (by omega)]; exact la.2
theorem Cong.symm {as bs : List Int} (h : Cong as bs) : Cong bs as := ⟨h.1.symm, fun f b h1 h2 => (h.2 f b h1 (by rw [h.1]; exact h2)).symm⟩
theorem Cong.reach {as bs : List Int} (h : Cong as bs) {f m : Nat} (hf : f ≤ as.length) : reach as f m = reach bs f m := by
  have hr := reach_le (ns := bs) (f := f) (m := m) (by rw [← h.1]; exact hf)
  have := reach_shift (as := as) (bs := bs) (f := f) (n := as.length) (d := 0) (m := m) hf (by rw [h.1]; exact Nat.le_refl _) rfl (fun b h1 h2 => (h.2 f b h1 h2).symm) (by rw [h.1]; exact Nat.le_refl _)
  rw [this, Nat.add_zero, Nat.sub_zero]
  have := h.1
  omega
theorem Cong.has {as bs : List Int} (h : Cong as bs) {f m : Nat} (hf : f ≤ as.length) : HasW as m f ↔ HasW bs m f := by
  unfold HasW
  rw [h.2 f as.length hf (Nat.le_refl _), h.1]
theorem Cong.least {as bs : List Int} (h : Cong as bs) {f m : Nat} (hf : f ≤ as.length) (hw : HasW as m f) : least bs f m = least as f m :=
  (least_shift (d := 0) hf rfl (fun b h1 h2 => (h.2 f b h1 h2).symm) (by rw [h.1]; exact Nat.le_refl _) hw).2
theorem Cong.counts {as bs : List Int} (h : Cong as bs) : countsM as = countsM bs := by
  unfold countsM
  rw [h.2 0 as.length (Nat.zero_le _) (Nat.le_refl _), h.1]
  refine List.map_congr_left fun c _ => ?_
  unfold countAt manyAt
  refine sumR_congr fun f hf => ?_
  rw [h.1]
  refine sumR_congr fun i hi => ?_
  rw [h.2 f (f + (1 + i)) (by omega) (by rw [h.1]; omega)]
theorem long_up {ns : List Int} {m : Nat} {o : Option (Nat × Nat)} (h : LongP ns m ns.length o) : LongP ns m (ns.length + 1) o := by
  cases o with
  | none =>
    intro j hj hw
    rcases Nat.lt_or_ge j ns.length with z | z
    · exact h j z hw
    · obtain rfl : j = ns.length := by omega
      exact not_end _ _ hw
  | some p =>
    refine ⟨by have := h.1; omega, h.2.1, h.2.2.1, fun j hj hw => ?_⟩
    rcases Nat.lt_or_ge j ns.length with z | z
    · exact h.2.2.2 j z hw
    · obtain rfl : j = ns.length := by omega
      exact absurd hw (not_end _ _)
theorem Cong.long {as bs : List Int} (h : Cong as bs) {m : Nat} {o p : Option (Nat × Nat)} (ho : LongP as m as.length o) (hp : LongP bs m bs.length p) : o = p := by
  refine long_unique (ns := bs) (m := m) ?_ (long_up hp)
  cases o with
  | none =>
    intro j hj hw
    exact ho j (by rw [h.1]; exact hj) ((h.has (by rw [h.1]; omega)).mpr hw)
  | some q =>
    have h1 := ho.1
    refine ⟨by rw [← h.1]; exact ho.1, (h.has (by omega)).mp ho.2.1, by rw [← h.reach (by omega)]; exact ho.2.2.1, fun j hj hw => ?_⟩
    have := ho.2.2.2 j (by rw [h.1]; exact hj) ((h.has (by rw [h.1]; omega)).mpr hw)
    rw [h.reach (by rw [h.1]; omega)] at this
    exact this
theorem Cong.within {as bs : List Int} (h : Cong as bs) {m f b f' b' : Nat} (ho : WithinP as m f b) (hp : WithinP bs m f' b') : f = f' ∧ b = b' := by
  have hl := h.1
  rcases ho with ⟨h0, rfl, rfl⟩ | ⟨h1, rfl, h2⟩
  · rcases hp with ⟨_, rfl, rfl⟩ | ⟨g1, _, _⟩
    · exact ⟨rfl, rfl⟩
    · omega
  · rcases hp with ⟨g0, _, _⟩ | ⟨g1, rfl, g2⟩
    · omega
    · have a1 := h2 f' (by omega)
      have a2 := g2 f (by omega)
      rw [h.reach (f := f') (by omega), h.reach (f := f) (by omega)] at a1
      have : f = f' := by
        rcases Nat.lt_trichotomy f f' with z | z | z
        · have := a2.2 z; omega
        · exact z
        · have := a1.2 z; omega
      subst this
      exact ⟨rfl, h.reach (by omega)⟩
-- from behind
-- one more behind
-- one more ahead
-- all counts together
end My
namespace L2
open PySem PySem.Spec PyProof.Rows My
end L2

set_option Elab.async false
set_option linter.all false
set_option maxRecDepth 100000
set_option maxHeartbeats 4000000
/-! Draws: numbers to be taken from the front; the fewest windows of a row. -/
namespace L2
open PySem PySem.Spec PyProof.Rows
def DrAt (H : Hp) (p : Addr) : Prop := ∃ ps : List Int, H p = some (.lst (ps.map V.int)) ∧ ps.length ≤ 240 ∧ ∀ x ∈ ps, 0 ≤ x
theorem DrAt.same {H H' : Hp} {h : Addr} (x : DrAt H h) (s : Same H H') : DrAt H' h := let ⟨a, e, r⟩ := x; ⟨a, s h _ e, r⟩
theorem DrAt.obj {H : Hp} {h : Addr} (x : DrAt H h) : ∃ o, H h = some o := let ⟨_, e, _⟩ := x; ⟨_, e⟩
theorem DrAt.new {H : Hp} {h p : Addr} {o : HO} (x : DrAt H h) (hp : H p = none) : DrAt (upd H p o) h := x.same (Same.new hp)
theorem DrAt.ne {H : Hp} {h p : Addr} (x : DrAt H h) (hp : H p = none) : p ≠ h := fun e => by obtain ⟨o, q⟩ := x.obj; rw [e, q] at hp; cases hp
theorem DrAt.put {H : Hp} {h p : Addr} {o : HO} (x : DrAt H h) (hp : p ≠ h) : DrAt (upd H p o) h := let ⟨a, e, r⟩ := x; ⟨a, by rw [upd_ne hp.symm]; exact e, r⟩
theorem DrAt.sx {H H' : Hp} {h p : Addr} (x : DrAt H h) (s : SameX p H H') (n : h ≠ p) : DrAt H' h := let ⟨a, e, r⟩ := x; ⟨a, s h _ n e, r⟩
end L2
namespace My
open L2
/-- the fewest windows: each as long as can be -/
def fewF (ns : List Int) (m : Nat) : Nat → Nat → List Nat
  | 0, _ => []
  | k + 1, f => if f < ns.length then reach ns f m :: fewF ns m k (reach ns f m) else []
def fewM (ns : List Int) (m : Nat) : List Nat := fewF ns m ns.length 0
theorem fewF_end {ns : List Int} {m f : Nat} (h : ns.length ≤ f) : ∀ k, fewF ns m k f = []
  | 0 => rfl
  | k + 1 => by unfold fewF; rw [if_neg (by omega)]
theorem reach_gt {ns : List Int} {m f : Nat} (hm : 1 ≤ m) (hf : f < ns.length) : f < reach ns f m := by
  have h := (cnt_le_iff (ns := ns) (f := f) (m := m) (b := f + 1) (by omega) (by omega)).mp
  have := cnt_le ns f (f + 1)
  have := h (by omega)
  omega
theorem fewF_step {ns : List Int} {m f k : Nat} (hf : f < ns.length) (hk : ns.length - f ≤ k) (hm : 1 ≤ m) : ∃ k', fewF ns m k f = reach ns f m :: fewF ns m k' (reach ns f m) ∧ ns.length - reach ns f m ≤ k' := by
  cases k with
  | zero => omega
  | succ k =>
    refine ⟨k, ?_, ?_⟩
    · show (if f < ns.length then _ else _) = _
      rw [if_pos hf]
    · have := reach_gt hm hf; omega
/-- how far a parting is told: these windows, then those from f on -/
def FewAt (ns : List Int) (m : Nat) (ps : List Nat) (f : Nat) : Prop := ∃ k, ns.length - f ≤ k ∧ ps ++ fewF ns m k f = fewM ns m
theorem FewAt.step {ns : List Int} {m : Nat} {ps : List Nat} {f : Nat} (h : FewAt ns m ps f) (hm : 1 ≤ m) (hf : f < ns.length) : FewAt ns m (ps ++ [reach ns f m]) (reach ns f m) := by
  obtain ⟨k, hk, e⟩ := h
  obtain ⟨k', e', hk'⟩ := fewF_step hf hk hm
  exact ⟨k', hk', by rw [List.append_assoc, List.singleton_append, ← e', e]⟩
theorem FewAt.fin {ns : List Int} {m : Nat} {ps : List Nat} {f : Nat} (h : FewAt ns m ps f) (hf : ns.length ≤ f) : ps = fewM ns m := by
  obtain ⟨k, hk, e⟩ := h
  rw [fewF_end hf, List.append_nil] at e
  exact e
/-- what was met in a window -/
def Met (ns : List Int) (f b : Nat) (ss : List Int) : Prop := f ≤ b ∧ b ≤ ns.length ∧ ss.length = cnt ns f b ∧ ∀ x, x ∈ ss ↔ ∃ j, f ≤ j ∧ j < b ∧ ns.getD j 0 = x
theorem Met.old {ns : List Int} {f b : Nat} {ss : List Int} (h : Met ns f b ss) (hb : b < ns.length) (hm : ns.getD b 0 ∈ ss) : Met ns f (b + 1) ss ∧ cnt ns f (b + 1) = cnt ns f b := by
  obtain ⟨h1, h2, h3, h4⟩ := h
  have hc := cnt_snoc (ns := ns) (f := f) (b := b) h1
  obtain ⟨j, j1, j2, j3⟩ := (h4 _).mp hm
  rw [if_neg (fun z => (new_iff.mp z) j j1 j2 j3)] at hc
  refine ⟨⟨by omega, by omega, by omega, fun x => ⟨fun y => ?_, fun y => ?_⟩⟩, by omega⟩
  · obtain ⟨i, i1, i2, i3⟩ := (h4 x).mp y; exact ⟨i, i1, by omega, i3⟩
  · obtain ⟨i, i1, i2, i3⟩ := y
    by_cases z : i = b
    · subst z; rw [← i3]; exact hm
    · exact (h4 x).mpr ⟨i, i1, by omega, i3⟩
theorem Met.add {ns : List Int} {f b : Nat} {ss : List Int} (h : Met ns f b ss) (hb : b < ns.length) (hm : ns.getD b 0 ∉ ss) : Met ns f (b + 1) (ss ++ [ns.getD b 0]) ∧ cnt ns f (b + 1) = cnt ns f b + 1 := by
  obtain ⟨h1, h2, h3, h4⟩ := h
  have hc := cnt_snoc (ns := ns) (f := f) (b := b) h1
  rw [if_pos (new_iff.mpr fun j j1 j2 j3 => hm ((h4 _).mpr ⟨j, j1, j2, j3⟩))] at hc
  refine ⟨⟨by omega, by omega, by rw [List.length_append, List.length_singleton]; omega, fun x => ⟨fun y => ?_, fun y => ?_⟩⟩, hc⟩
  · rcases List.mem_append.mp y with z | z
    · obtain ⟨i, i1, i2, i3⟩ := (h4 x).mp z; exact ⟨i, i1, by omega, i3⟩
    · exact ⟨b, h1, by omega, (List.mem_singleton.mp z).symm⟩
  · obtain ⟨i, i1, i2, i3⟩ := y
    by_cases z : i = b
    · subst z; rw [← i3]; exact List.mem_append_right _ (List.mem_singleton.mpr rfl)
    · exact List.mem_append_left _ ((h4 x).mpr ⟨i, i1, by omega, i3⟩)
end My
namespace L2
open PySem PySem.Spec PyProof.Rows
end L2

set_option Elab.async false
set_option linter.all false
set_option maxRecDepth 100000
set_option maxHeartbeats 4000000
/-! Tables. -/
namespace L2
open PySem PySem.Spec PyProof.Rows
theorem get_of {α : Type} {as : List α} {f : Nat} (h : f < as.length) : ∃ l, as[f]? = some l := ⟨as[f], List.getElem?_eq_getElem h⟩
end L2

set_option Elab.async false
set_option linter.all false
set_option maxRecDepth 100000
set_option maxHeartbeats 4000000
/-! == of lists of lists of ints. -/
namespace L2
open PySem PySem.Spec PyProof.Rows
def LstsAt (H : Hp) (ts : List Addr) (xss : List (List Int)) : Prop := ts.length = xss.length ∧ ∀ (i : Nat) (t : Addr) (xs : List Int), ts[i]? = some t → xss[i]? = some xs → H t = some (.lst (xs.map V.int))
theorem LstsAt.same {H H' : Hp} {ts : List Addr} {xss : List (List Int)} (x : LstsAt H ts xss) (s : Same H H') : LstsAt H' ts xss := ⟨x.1, fun i t xs h1 h2 => s _ _ (x.2 i t xs h1 h2)⟩
section
variable {X : Cx} {K : PySem.W.Frag} {pins : List (Addr × Obj)} {σ : St} {H : Hp} {s : Shared}
end
/-- the table's lines -/
def tabM (ns : List Int) : List (List Int) := (List.range (ns.length + 1)).map (My.lineM ns)
theorem tab_len (ns : List Int) : (tabM ns).length = ns.length + 1 := by unfold tabM; rw [List.length_map, List.length_range]
theorem tab_get {ns : List Int} {f : Nat} (h : f ≤ ns.length) : (tabM ns)[f]? = some (My.lineM ns f) := by
  unfold tabM; rw [List.getElem?_map, List.getElem?_range (by omega)]; rfl
theorem LstsAt.lines {H : Hp} {as : List Addr} {ns : List Int} (x : LstsAt H as (tabM ns)) : as.length = ns.length + 1 ∧ ∀ (f : Nat) (l : Addr), as[f]? = some l → H l = some (.lst ((My.lineM ns f).map V.int)) := by
  have hl := x.1
  rw [tab_len] at hl
  refine ⟨hl, fun f l h => x.2 f l _ h (tab_get ?_)⟩
  have := (List.getElem?_eq_some_iff.mp h).1
  omega
theorem LstsAt.snoc {H : Hp} {ts : List Addr} {xss : List (List Int)} {t : Addr} {xs : List Int} (x : LstsAt H ts xss) (e : H t = some (.lst (xs.map V.int))) : LstsAt H (ts ++ [t]) (xss ++ [xs]) := by
  refine ⟨by rw [List.length_append, List.length_append, x.1]; rfl, fun i u ys h1 h2 => ?_⟩
  by_cases hi : i < ts.length
  · rw [List.getElem?_append_left hi] at h1
    rw [List.getElem?_append_left (by rw [← x.1]; exact hi)] at h2
    exact x.2 i u ys h1 h2
  · have hi' : i = ts.length := by
      have := (List.getElem?_eq_some_iff.mp h1).1
      rw [List.length_append, List.length_singleton] at this; omega
    subst hi'
    rw [List.getElem?_append_right (Nat.le_refl _), Nat.sub_self] at h1
    rw [List.getElem?_append_right (by rw [x.1]; exact Nat.le_refl _), x.1, Nat.sub_self] at h2
    have e1 : t = u := by simpa using h1
    have e2 : xs = ys := by simpa using h2
    rw [← e1, ← e2]; exact e
end L2
namespace L2
open PySem PySem.Spec PyProof.Rows
theorem LstsAt.new {H H' : Hp} {D : Addr} {ts : List Addr} {xss : List (List Int)} {o : HO} (x : LstsAt H ts xss) (n : ∀ t ∈ ts, t ≠ D) (s : Same H H') : LstsAt (upd H' D o) ts xss :=
  ⟨x.1, fun i t xs h1 h2 => by rw [upd_ne (n t (List.mem_of_getElem? h1))]; exact s _ _ (x.2 i t xs h1 h2)⟩
/-- pairs of tables held to the end -/
def HeldAt (H : Hp) (ts : List Addr) : Prop := ∀ t ∈ ts, ∃ (f c : Addr) (us vs : List Addr) (xss : List (List Int)), H t = some (.tup [.ref f, .ref c]) ∧ H f = some (.lst (us.map V.ref)) ∧ H c = some (.lst (vs.map V.ref)) ∧ LstsAt H us xss ∧ LstsAt H vs xss
theorem HeldAt.same {H H' : Hp} {ts : List Addr} (x : HeldAt H ts) (s : Same H H') : HeldAt H' ts := fun t ht => by
  obtain ⟨f, c, us, vs, xss, e1, e2, e3, l1, l2⟩ := x t ht
  exact ⟨f, c, us, vs, xss, s _ _ e1, s _ _ e2, s _ _ e3, l1.same s, l2.same s⟩
end L2

set_option Elab.async false
set_option linter.all false
set_option maxRecDepth 100000
set_option maxHeartbeats 4000000
/-! Taking a list apart into names; methods without arguments; live rows. -/
namespace L2
open PySem PySem.Spec PyProof.Rows
section
variable {prog : Program} {w : World} {A : Around} {E : Value → Shared → Prop} {s : Shared}
end
section
variable {X : Cx} {K : PySem.W.Frag} {pos : Pos}
end
/-- a heap without some objects -/
def hide (xs : List Addr) (H : Hp) : Hp := fun b => if b ∈ xs then none else H b
theorem hide_iff {xs : List Addr} {H : Hp} {b : Addr} {o : HO} : hide xs H b = some o ↔ b ∉ xs ∧ H b = some o := by
  unfold hide
  split
  · rename_i h; exact ⟨fun e => (by cases e), fun e => absurd h e.1⟩
  · rename_i h; exact ⟨fun e => ⟨h, e⟩, fun e => e.2⟩
def SameXs (xs : List Addr) (H H' : Hp) : Prop := ∀ b o, b ∉ xs → H b = some o → H' b = some o
theorem SameXs.of {xs : List Addr} {H H' : Hp} (s : Same H H') : SameXs xs H H' := fun b o _ e => s b o e
theorem SameXs.trans {xs : List Addr} {H H' H'' : Hp} (s : SameXs xs H H') (t : SameXs xs H' H'') : SameXs xs H H'' := fun b o n e => t b o n (s b o n e)
theorem SameXs.mono {xs ys : List Addr} {H H' : Hp} (s : SameXs xs H H') (h : ∀ m ∈ xs, m ∈ ys) : SameXs ys H H' := fun b o n e => s b o (fun m => n (h b m)) e
theorem SameXs.hide {xs : List Addr} {H H' : Hp} (s : SameXs xs H H') : Same (hide xs H) (L2.hide xs H') := fun b o e => by
  obtain ⟨n, e⟩ := hide_iff.mp e
  exact hide_iff.mpr ⟨n, s b o n e⟩
theorem SameX.xs {x : Addr} {xs : List Addr} {H H' : Hp} (s : SameX x H H') (h : x ∈ xs) : SameXs xs H H' := fun b o n e => s b o (fun y => n (y ▸ h)) e
theorem hide_cons {x : Addr} {xs : List Addr} {H : Hp} (h : H x = none) : Same (hide xs H) (hide (x :: xs) H) := fun b o e => by
  obtain ⟨n, e⟩ := hide_iff.mp e
  refine hide_iff.mpr ⟨fun m => ?_, e⟩
  rcases List.mem_cons.mp m with y | y
  · subst y; rw [h] at e; cases e
  · exact n y
def Here (xs : List Addr) (H : Hp) : Prop := ∀ m ∈ xs, ∃ o, H m = some o
theorem Here.fresh {xs : List Addr} {H : Hp} {b : Addr} (h : Here xs H) (n : H b = none) : b ∉ xs := fun m => by obtain ⟨o, e⟩ := h b m; rw [e] at n; cases n
theorem Here.same {xs : List Addr} {H H' : Hp} (h : Here xs H) (s : Same H H') : Here xs H' := fun m hm => let ⟨o, e⟩ := h m hm; ⟨o, s _ _ e⟩
theorem Here.xs {xs ys : List Addr} {H H' : Hp} (h : Here xs H) (s : SameXs ys H H') (k : ∀ m ∈ ys, ∃ o, H' m = some o) : Here xs H' := fun m hm => by
  by_cases y : m ∈ ys
  · exact k m y
  · obtain ⟨o, e⟩ := h m hm; exact ⟨o, s _ _ y e⟩
theorem Here.cons {xs : List Addr} {H : Hp} {x : Addr} {o : HO} (h : Here xs H) (e : H x = some o) : Here (x :: xs) H := fun m hm => by
  rcases List.mem_cons.mp hm with y | y
  · subst y; exact ⟨o, e⟩
  · exact h m y
end L2
namespace My
open L2
/-- the numbers from f to b exchanged -/
def exch (ns : List Int) (f b : Nat) (ms : List Int) : List Int := ns.take f ++ ms ++ ns.drop b
def cut (ns : List Int) (f b : Nat) : List Int := (ns.drop f).take (b - f)
theorem exch_len {ns ms : List Int} {f b : Nat} (hf : f ≤ b) (hb : b ≤ ns.length) : (exch ns f b ms).length = f + ms.length + (ns.length - b) := by
  unfold exch; rw [List.length_append, List.length_append, List.length_take, List.length_drop]; omega
theorem exch_back {ns ms : List Int} {f b : Nat} (hf : f ≤ b) (hb : b ≤ ns.length) : exch (exch ns f b ms) f (f + ms.length) (cut ns f b) = ns := by
  have h1 : (exch ns f b ms).take f = ns.take f := by
    unfold exch
    rw [List.append_assoc, List.take_append_of_le_length (by rw [List.length_take]; omega), List.take_of_length_le (by rw [List.length_take]; omega)]
  have h2 : (exch ns f b ms).drop (f + ms.length) = ns.drop b := by
    unfold exch
    rw [List.drop_append, List.drop_of_length_le (by rw [List.length_append, List.length_take]; omega), List.length_append, List.length_take, List.nil_append, show f + ms.length - (min f ns.length + ms.length) = 0 by omega, List.drop_zero]
  show (exch ns f b ms).take f ++ cut ns f b ++ (exch ns f b ms).drop (f + ms.length) = ns
  rw [h1, h2]
  unfold cut
  have : ns.drop b = (ns.drop f).drop (b - f) := by rw [List.drop_drop]; congr 1; omega
  rw [this, List.append_assoc, List.take_append_drop, List.take_append_drop]
/-- the ways back: the last one first -/
def Chain : List Int → List (Nat × Nat × List Int) → List (List Int) → Prop
  | _, [], [] => True
  | cur, (f, b, g) :: ws, p :: ps => f ≤ b ∧ b ≤ cur.length ∧ p = exch cur f b g ∧ Chain p ws ps
  | _, _, _ => False
end My
namespace L2
open PySem PySem.Spec PyProof.Rows
def lflds (nu rd wb : Addr) : List (Str × V) := [(("numbers" : Str), V.ref nu), (("ready" : Str), V.ref rd), (("ways_back" : Str), V.ref wb)]
def WaysAt (H : Hp) (ts : List Addr) (ws : List (Nat × Nat × List Int)) : Prop := ts.length = ws.length ∧ ∀ (i : Nat) (t : Addr) (x : Nat × Nat × List Int), ts[i]? = some t → ws[i]? = some x → ∃ g, H t = some (.tup [.int x.1, .int x.2.1, .ref g]) ∧ H g = some (.lst (x.2.2.map V.int))
theorem WaysAt.same {H H' : Hp} {ts : List Addr} {ws : List (Nat × Nat × List Int)} (x : WaysAt H ts ws) (s : Same H H') : WaysAt H' ts ws := ⟨x.1, fun i t y h1 h2 => let ⟨g, e1, e2⟩ := x.2 i t y h1 h2; ⟨g, s _ _ e1, s _ _ e2⟩⟩
theorem WaysAt.snoc {H : Hp} {ts : List Addr} {ws : List (Nat × Nat × List Int)} {t g : Addr} {y : Nat × Nat × List Int} (x : WaysAt H ts ws) (e : H t = some (.tup [.int y.1, .int y.2.1, .ref g])) (e2 : H g = some (.lst (y.2.2.map V.int))) : WaysAt H (ts ++ [t]) (ws ++ [y]) := by
  refine ⟨by rw [List.length_append, List.length_append, x.1]; rfl, fun i u z h1 h2 => ?_⟩
  by_cases hi : i < ts.length
  · rw [List.getElem?_append_left hi] at h1
    rw [List.getElem?_append_left (by rw [← x.1]; exact hi)] at h2
    exact x.2 i u z h1 h2
  · have hi' : i = ts.length := by
      have := (List.getElem?_eq_some_iff.mp h1).1
      rw [List.length_append, List.length_singleton] at this; omega
    subst hi'
    rw [List.getElem?_append_right (Nat.le_refl _), Nat.sub_self] at h1
    rw [List.getElem?_append_right (by rw [x.1]; exact Nat.le_refl _), x.1, Nat.sub_self] at h2
    have e1 : t = u := by simpa using h1
    have e3 : y = z := by simpa using h2
    rw [← e1, ← e3]; exact ⟨g, e, e2⟩
structure LvTxt (K : PySem.W.Frag) (D : Addr) : Prop where
  cl : Cls K D
  nN : NoAttr K D "numbers"
  nR : NoAttr K D "ready"
  nW : NoAttr K D "ways_back"
/-- a live row, without its past -/
structure CoAt (D C : Addr) (xs : List Addr) (H : Hp) (p wb : Addr) (ns : List Int) (ts : List Addr) (ws : List (Nat × Nat × List Int)) : Prop where
  ex : ∃ dx nu rd, H p = some (.ins D dx (lflds nu rd wb)) ∧ hide xs H nu = some (.lst (ns.map V.int)) ∧ RdAt C (hide xs H) rd ns
  wbk : H wb = some (.lst (ts.map V.ref))
  ways : WaysAt (hide xs H) ts ws
  hp : p ∈ xs
  hw : wb ∈ xs
  here : Here xs H
theorem CoAt.ne {D C : Addr} {xs : List Addr} {H : Hp} {p wb : Addr} {ns : List Int} {ts : List Addr} {ws : List (Nat × Nat × List Int)} (x : CoAt D C xs H p wb ns ts ws) : p ≠ wb := by
  obtain ⟨dx, nu, rd, e, _⟩ := x.ex
  exact ne_of e x.wbk (by intro h; cases h)
/-- all but what it owns may change -/
theorem CoAt.xs {D C : Addr} {xs ys : List Addr} {H H' : Hp} {p wb : Addr} {ns : List Int} {ts : List Addr} {ws : List (Nat × Nat × List Int)} (x : CoAt D C xs H p wb ns ts ws) (s : SameXs ys H H') (h : ∀ m ∈ ys, m ∈ xs) (np : p ∉ ys) (nw : wb ∉ ys) (k : ∀ m ∈ ys, ∃ o, H' m = some o) : CoAt D C xs H' p wb ns ts ws := by
  obtain ⟨dx, nu, rd, e1, e2, e3⟩ := x.ex
  have s' := (s.mono h).hide
  exact ⟨⟨dx, nu, rd, s _ _ np e1, s' _ _ e2, e3.same s'⟩, s _ _ nw x.wbk, x.ways.same s', x.hp, x.hw, x.here.xs s k⟩
theorem CoAt.same {D C : Addr} {xs : List Addr} {H H' : Hp} {p wb : Addr} {ns : List Int} {ts : List Addr} {ws : List (Nat × Nat × List Int)} (x : CoAt D C xs H p wb ns ts ws) (s : Same H H') : CoAt D C xs H' p wb ns ts ws :=
  x.xs (ys := []) (SameXs.of s) (fun m h => by simp at h) (by simp) (by simp) (fun m h => by simp at h)
/-- one more to be kept apart -/
theorem CoAt.apart {D C : Addr} {xs : List Addr} {H : Hp} {p wb : Addr} {ns : List Int} {ts : List Addr} {ws : List (Nat × Nat × List Int)} {m : Addr} {o : HO} (x : CoAt D C xs H p wb ns ts ws) (n : H m = none) : CoAt D C (m :: xs) (upd H m o) p wb ns ts ws := by
  obtain ⟨dx, nu, rd, e1, e2, e3⟩ := x.ex
  have s := Same.new (o := o) n
  have s' : Same (hide xs H) (hide (m :: xs) (upd H m o)) := (hide_cons n).trans (SameXs.of s).hide
  exact ⟨⟨dx, nu, rd, s _ _ e1, s' _ _ e2, e3.same s'⟩, s _ _ x.wbk, x.ways.same s', List.mem_cons_of_mem _ x.hp, List.mem_cons_of_mem _ x.hw, (x.here.same s).cons upd_same⟩
def LvAt (D C : Addr) (xs : List Addr) (H : Hp) (p wb : Addr) (ns : List Int) (pile : List (List Int)) : Prop := ∃ ts ws, CoAt D C xs H p wb ns ts ws ∧ My.Chain ns ws.reverse pile.reverse
theorem LvAt.xs {D C : Addr} {xs ys : List Addr} {H H' : Hp} {p wb : Addr} {ns : List Int} {pile : List (List Int)} (x : LvAt D C xs H p wb ns pile) (s : SameXs ys H H') (h : ∀ m ∈ ys, m ∈ xs) (np : p ∉ ys) (nw : wb ∉ ys) (k : ∀ m ∈ ys, ∃ o, H' m = some o) : LvAt D C xs H' p wb ns pile := let ⟨ts, ws, c, h'⟩ := x; ⟨ts, ws, c.xs s h np nw k, h'⟩
theorem LvAt.same {D C : Addr} {xs : List Addr} {H H' : Hp} {p wb : Addr} {ns : List Int} {pile : List (List Int)} (x : LvAt D C xs H p wb ns pile) (s : Same H H') : LvAt D C xs H' p wb ns pile := let ⟨ts, ws, c, h'⟩ := x; ⟨ts, ws, c.same s, h'⟩
theorem LvAt.apart {D C : Addr} {xs : List Addr} {H : Hp} {p wb m : Addr} {o : HO} {ns : List Int} {pile : List (List Int)} (x : LvAt D C xs H p wb ns pile) (n : H m = none) : LvAt D C (m :: xs) (upd H m o) p wb ns pile := let ⟨ts, ws, c, h'⟩ := x; ⟨ts, ws, c.apart n, h'⟩
theorem LvAt.one {D C : Addr} {xs : List Addr} {H H' : Hp} {p wb m : Addr} {o : HO} {ns : List Int} {pile : List (List Int)} (x : LvAt D C xs H p wb ns pile) (s : SameX m H H') (h : m ∈ xs) (np : m ≠ p) (nw : m ≠ wb) (k : H' m = some o) : LvAt D C xs H' p wb ns pile :=
  x.xs (ys := [m]) (fun b u n e => s b u (fun y => n (by rw [y]; exact List.mem_singleton.mpr rfl)) e) (fun u hu => by rw [List.mem_singleton.mp hu]; exact h) (fun y => np (List.mem_singleton.mp y).symm) (fun y => nw (List.mem_singleton.mp y).symm) fun u hu => by rw [List.mem_singleton.mp hu]; exact ⟨o, k⟩
theorem Chain.len : ∀ {cur : List Int} {ws : List (Nat × Nat × List Int)} {ps : List (List Int)}, My.Chain cur ws ps → ws.length = ps.length
  | _, [], [], _ => rfl
  | _, (_, _, _) :: ws, _ :: ps, h => by
    obtain ⟨_, _, _, h⟩ := h
    rw [List.length_cons, List.length_cons, Chain.len h]
  | _, [], _ :: _, h => by cases h
  | _, (_, _, _) :: _, [], h => by cases h
end L2
namespace L2
open PySem PySem.Spec PyProof.Rows
theorem RdFr.hide {C : Addr} {xs : List Addr} {H H' : Hp} {p : Addr} {ns : List Int} (x : RdFr C H H' p ns) (hp : H p = none) (hx : Here xs H) : RdAt C (L2.hide xs H') p ns := by
  obtain ⟨dx, l, n, e1, e2, e3, n1, n2⟩ := x.ex
  exact ⟨dx, l, n, hide_iff.mpr ⟨hx.fresh hp, e1⟩, hide_iff.mpr ⟨hx.fresh n1, e2⟩, hide_iff.mpr ⟨hx.fresh n2, e3⟩⟩
end L2
namespace L2
open PySem PySem.Spec PyProof.Rows
theorem CoAt.upw {D C : Addr} {xs : List Addr} {H : Hp} {p wb : Addr} {ns : List Int} {ts ts' : List Addr} {ws ws' : List (Nat × Nat × List Int)} (x : CoAt D C xs H p wb ns ts ws) (hw : WaysAt (L2.hide xs H) ts' ws') : CoAt D C xs (upd H wb (.lst (ts'.map V.ref))) p wb ns ts' ws' := by
  obtain ⟨dx, nu, rd, e1, e2, e3⟩ := x.ex
  have s' : Same (L2.hide xs H) (L2.hide xs (upd H wb (.lst (ts'.map V.ref)))) := (SameX.xs (SameX.of_upd (h := wb)) x.hw).hide
  refine ⟨⟨dx, nu, rd, by rw [upd_ne x.ne]; exact e1, s' _ _ e2, e3.same s'⟩, upd_same, hw.same s', x.hp, x.hw, fun m hm => ?_⟩
  by_cases y : m = wb
  · subst y; exact ⟨_, upd_same⟩
  · obtain ⟨o, e⟩ := x.here m hm; exact ⟨o, by rw [upd_ne y]; exact e⟩
theorem LvAt.push {D C : Addr} {xs : List Addr} {H : Hp} {p wb t g : Addr} {ns ms : List Int} {f b : Nat} {ts : List Addr} {ws : List (Nat × Nat × List Int)} {pile : List (List Int)} (x : CoAt D C xs H p wb (My.exch ns f b ms) ts ws) (h : My.Chain ns ws.reverse pile.reverse) (hf : f ≤ b) (hb : b ≤ ns.length)
    (et : L2.hide xs H t = some (.tup [.int f, .int ((f + ms.length : Nat) : Int), .ref g])) (eg : L2.hide xs H g = some (.lst ((My.cut ns f b).map V.int))) : LvAt D C xs (upd H wb (.lst (ts.map V.ref ++ [.ref t]))) p wb (My.exch ns f b ms) (pile ++ [ns]) := by
  refine ⟨ts ++ [t], ws ++ [(f, f + ms.length, My.cut ns f b)], ?_, ?_⟩
  · have := x.upw (x.ways.snoc (y := (f, f + ms.length, My.cut ns f b)) et eg)
    rw [List.map_append] at this
    exact this
  · rw [List.reverse_append, List.reverse_append]
    refine ⟨Nat.le_add_right _ _, ?_, (My.exch_back hf hb).symm, h⟩
    rw [My.exch_len hf hb]; omega
theorem LvAt.size {D C : Addr} {xs : List Addr} {H : Hp} {p wb : Addr} {ns : List Int} {ts : List Addr} {ws : List (Nat × Nat × List Int)} {pile : List (List Int)} (x : CoAt D C xs H p wb ns ts ws) (h : My.Chain ns ws.reverse pile.reverse) : ts.length = pile.length ∧ ws.length = pile.length := by
  have h1 := x.ways.1
  have h2 := Chain.len h
  rw [List.length_reverse, List.length_reverse] at h2
  omega
theorem LvAt.here {D C : Addr} {xs : List Addr} {H : Hp} {p wb : Addr} {ns : List Int} {pile : List (List Int)} (x : LvAt D C xs H p wb ns pile) : Here xs H := let ⟨_, _, c, _⟩ := x; c.here
theorem LvAt.ins {D C : Addr} {xs : List Addr} {H : Hp} {p wb : Addr} {ns : List Int} {pile : List (List Int)} (x : LvAt D C xs H p wb ns pile) : ∃ dx nu rd, H p = some (.ins D dx (lflds nu rd wb)) := let ⟨_, _, c, _⟩ := x; let ⟨dx, nu, rd, e, _⟩ := c.ex; ⟨dx, nu, rd, e⟩
end L2

set_option Elab.async false
set_option linter.all false
set_option maxRecDepth 100000
set_option maxHeartbeats 4000000
/-! A live row and what the law keeps of it. -/
namespace L2
open PySem PySem.Spec PyProof.Rows
/-- all that changes: the draws, the live row and its ways back, what is kept of it -/
structure Wd (D C : Addr) (xs : List Addr) (H : Hp) (d p wb st pl : Addr) (ns : List Int) (pile : List (List Int)) : Prop where
  dr : DrAt H d
  lv : LvAt D C xs H p wb ns pile
  ex : ∃ r rs, H st = some (.lst [.ref r, .ref pl]) ∧ hide xs H r = some (.lst (ns.map V.int)) ∧ H pl = some (.lst (rs.map V.ref)) ∧ LstsAt (hide xs H) rs pile
  hd : d ∈ xs
  hs : st ∈ xs
  hl : pl ∈ xs
  hp : p ∈ xs
  hw : wb ∈ xs
  ne : d ≠ p ∧ d ≠ wb ∧ st ≠ p ∧ st ≠ wb ∧ pl ≠ p ∧ pl ≠ wb ∧ d ≠ st ∧ d ≠ pl ∧ st ≠ pl
theorem Wd.xs {D C : Addr} {xs ys : List Addr} {H H' : Hp} {d p wb st pl : Addr} {ns : List Int} {pile : List (List Int)} (x : Wd D C xs H d p wb st pl ns pile) (dr : DrAt H' d) (s : SameX d H H') : Wd D C xs H' d p wb st pl ns pile := by
  obtain ⟨r, rs, e1, e2, e3, e4⟩ := x.ex
  obtain ⟨o, eo⟩ := dr.obj
  have s' := (s.xs x.hd).hide
  exact ⟨dr, x.lv.one s x.hd x.ne.1 x.ne.2.1 eo, ⟨r, rs, s _ _ x.ne.2.2.2.2.2.2.1.symm e1, s' _ _ e2, s _ _ x.ne.2.2.2.2.2.2.2.1.symm e3, e4.same s'⟩, x.hd, x.hs, x.hl, x.hp, x.hw, x.ne⟩
theorem Wd.same {D C : Addr} {xs : List Addr} {H H' : Hp} {d p wb st pl : Addr} {ns : List Int} {pile : List (List Int)} (x : Wd D C xs H d p wb st pl ns pile) (s : Same H H') : Wd D C xs H' d p wb st pl ns pile := x.xs (ys := xs) (x.dr.same s) s.x
/-- what is kept is changed first, then the live row -/
theorem Wd.pre {D C : Addr} {xs : List Addr} {H : Hp} {d p wb st pl k : Addr} {o : HO} {rs : List Addr} {ns : List Int} {pile : List (List Int)} (x : Wd D C xs H d p wb st pl ns pile) : LvAt D C xs (upd (upd H st o) pl (.lst (rs.map V.ref ++ [.ref k]))) p wb ns pile :=
  (x.lv.one (m := st) (o := o) SameX.of_upd x.hs x.ne.2.2.1 x.ne.2.2.2.1 upd_same).one (m := pl) (o := .lst (rs.map V.ref ++ [.ref k])) SameX.of_upd x.hl x.ne.2.2.2.2.1 x.ne.2.2.2.2.2.1 upd_same
theorem Wd.post {D C : Addr} {xs : List Addr} {H H' : Hp} {d p wb st pl y k r : Addr} {rs : List Addr} {ns ns' : List Int} {pile : List (List Int)} (x : Wd D C xs H d p wb st pl ns pile) (epl : H pl = some (.lst (rs.map V.ref))) (lrs : LstsAt (hide xs H) rs pile) (ey : hide xs H y = some (.lst (ns'.map V.int))) (ek : hide xs H k = some (.lst (ns.map V.int)))
    (lv : LvAt D C xs H' p wb ns' (pile ++ [ns])) (s : SameXs [p, wb] (upd (upd H st (.lst [.ref y, .ref pl])) pl (.lst (rs.map V.ref ++ [.ref k]))) H') : Wd D C xs H' d p wb st pl ns' (pile ++ [ns]) ∧ SameXs xs H H' := by
  obtain ⟨n1, n2, n3, n4, n5, n6, n7, n8, n9⟩ := x.ne
  have h0 : SameXs xs H (upd (upd H st (.lst [.ref y, .ref pl])) pl (.lst (rs.map V.ref ++ [.ref k]))) := ((SameX.of_upd (h := st)).xs x.hs).trans ((SameX.of_upd (h := pl)).xs x.hl)
  have hs : SameXs xs (upd (upd H st (.lst [.ref y, .ref pl])) pl (.lst (rs.map V.ref ++ [.ref k]))) H' := s.mono fun m hm => by
    rcases List.mem_cons.mp hm with z | z
    · rw [z]; exact x.hp
    · rw [List.mem_singleton.mp z]; exact x.hw
  have h1 := h0.trans hs
  have np : ∀ {m : Addr}, m ≠ p → m ≠ wb → m ∉ [p, wb] := fun h1 h2 hm => (List.mem_cons.mp hm).elim h1 fun z => h2 (List.mem_singleton.mp z)
  obtain ⟨ps, eps, hps⟩ := x.dr
  refine ⟨⟨⟨ps, s _ _ (np n1 n2) (by rw [upd_ne n8, upd_ne n7]; exact eps), hps⟩, lv, ⟨y, rs ++ [k], ?_, h1.hide _ _ ey, ?_, (lrs.same h1.hide).snoc (h1.hide _ _ ek)⟩, x.hd, x.hs, x.hl, x.hp, x.hw, x.ne⟩, h1⟩
  · exact s _ _ (np n3 n4) (by rw [upd_ne n9]; exact upd_same)
  · exact s _ _ (np n5 n6) (by rw [upd_same, List.map_append]; rfl)
end L2
namespace L2
open PySem PySem.Spec PyProof.Rows
theorem last_of {rs : List Addr} {pile : List (List Int)} {H : Hp} {r : List Int} (l : LstsAt H rs (pile ++ [r])) : ∃ k, rs[rs.length - 1]? = some k ∧ H k = some (.lst (r.map V.int)) ∧ LstsAt H rs.dropLast pile ∧ rs.length = pile.length + 1 := by
  have hl := l.1
  rw [List.length_append, List.length_singleton] at hl
  obtain ⟨k, hk⟩ := get_of (as := rs) (f := rs.length - 1) (by omega)
  refine ⟨k, hk, l.2 _ k r hk (by rw [hl, Nat.add_sub_cancel, List.getElem?_append_right (Nat.le_refl _), Nat.sub_self]; rfl), ⟨by rw [List.length_dropLast]; omega, fun i t xs h1 h2 => ?_⟩, hl⟩
  rw [List.getElem?_dropLast] at h1
  split at h1
  · exact l.2 i t xs h1 (by rw [List.getElem?_append_left (List.getElem?_eq_some_iff.mp h2).1]; exact h2)
  · cases h1
theorem Wd.fresh {D C : Addr} {xs : List Addr} {H : Hp} {d p wb st pl b : Addr} {ns : List Int} {pile : List (List Int)} (x : Wd D C xs H d p wb st pl ns pile) (h : H b = none) : b ∉ xs := x.lv.here.fresh h
end L2
namespace L2
open PySem PySem.Spec PyProof.Rows
end L2
namespace L2
open PySem PySem.Spec PyProof.Rows
end L2
namespace L2
open PySem PySem.Spec PyProof.Rows
/-- tuples that are windows -/
def WinsAt (H : Hp) (ts : List Addr) (n : Nat) : Prop := ∀ t ∈ ts, ∃ f b : Nat, f ≤ b ∧ b ≤ n ∧ H t = some (.tup [.int f, .int b])
theorem WinsAt.same {H H' : Hp} {ts : List Addr} {n : Nat} (x : WinsAt H ts n) (s : Same H H') : WinsAt H' ts n := fun t ht => let ⟨f, b, h1, h2, e⟩ := x t ht; ⟨f, b, h1, h2, s _ _ e⟩
theorem WinsAt.sx {H H' : Hp} {ts : List Addr} {n : Nat} {l : Addr} {zs : List V} (x : WinsAt H ts n) (e : H l = some (.lst zs)) (s : SameX l H H') : WinsAt H' ts n := fun t ht => let ⟨f, b, h1, h2, e'⟩ := x t ht; ⟨f, b, h1, h2, s _ _ (ne_of e' e (by intro z; cases z)) e'⟩
end L2

set_option Elab.async false
set_option linter.all false
set_option maxRecDepth 100000
set_option maxHeartbeats 4000000
/-! == of tuples of ints and lists of ints. -/
namespace L2
open PySem PySem.Spec PyProof.Rows
abbrev Dv := Sum Int (List Int)
def DvAt (K : PySem.W.Frag) (H : Hp) (v : V) : Dv → Prop
  | .inl n => v = .int n
  | .inr ns => ∃ a, v = .ref a ∧ H a = some (.lst (ns.map V.int))
def TupD (K : PySem.W.Frag) (H : Hp) (t : Addr) (ds : List Dv) : Prop := ∃ vs, SqT K H t vs ∧ vs.length = ds.length ∧ ∀ (i : Nat) v d, vs[i]? = some v → ds[i]? = some d → DvAt K H v d
section
variable {X : Cx} {K : PySem.W.Frag} {pins : List (Addr × Obj)} {σ : St} {H : Hp} {s : Shared}
end
end L2
namespace My
open L2
end My
namespace L2
open PySem PySem.Spec PyProof.Rows
/-- all that a live row answers -/
def ansM (ns : List Int) : List Dv := [.inr ns, .inl (My.cnt ns 0 ns.length : Int), .inr (My.firstsM ns 0 ns.length), .inl (My.cnt ns (ns.length / 2) ns.length : Int)]
def AnsAt (H : Hp) (t : Addr) (ns : List Int) : Prop := ∃ a b, H t = some (.tup [.ref a, .int (My.cnt ns 0 ns.length : Int), .ref b, .int (My.cnt ns (ns.length / 2) ns.length : Int)]) ∧ H a = some (.lst (ns.map V.int)) ∧ H b = some (.lst ((My.firstsM ns 0 ns.length).map V.int))
theorem AnsAt.same {H H' : Hp} {t : Addr} {ns : List Int} (x : AnsAt H t ns) (s : Same H H') : AnsAt H' t ns := let ⟨a, b, e1, e2, e3⟩ := x; ⟨a, b, s _ _ e1, s _ _ e2, s _ _ e3⟩
theorem AnsAt.td {K : PySem.W.Frag} {H : Hp} {t : Addr} {ns : List Int} (x : AnsAt H t ns) : TupD K H t (ansM ns) := by
  obtain ⟨a, b, e1, e2, e3⟩ := x
  refine ⟨_, SqT.of e1, rfl, fun i v d h1 h2 => ?_⟩
  match i with
  | 0 => rw [← Option.some.inj h1, ← Option.some.inj h2]; exact ⟨a, rfl, e2⟩
  | 1 => rw [← Option.some.inj h1, ← Option.some.inj h2]; rfl
  | 2 => rw [← Option.some.inj h1, ← Option.some.inj h2]; exact ⟨b, rfl, e3⟩
  | 3 => rw [← Option.some.inj h1, ← Option.some.inj h2]; rfl
  | i + 4 => simp at h1
end L2
namespace L2
open PySem PySem.Spec PyProof.Rows
theorem LvAt.mems {D C : Addr} {xs : List Addr} {H : Hp} {p wb : Addr} {ns : List Int} {pile : List (List Int)} (x : LvAt D C xs H p wb ns pile) : p ∈ xs ∧ wb ∈ xs := let ⟨_, _, c, _⟩ := x; ⟨c.hp, c.hw⟩
theorem DrAt.x2 {H H' : Hp} {d p wb : Addr} (x : DrAt H d) (s : SameXs [p, wb] H H') (n1 : d ≠ p) (n2 : d ≠ wb) : DrAt H' d := let ⟨a, e, r⟩ := x; ⟨a, s d _ (by simp [n1, n2]) e, r⟩
theorem hx2 {D C : Addr} {xs : List Addr} {G : Hp} {H H' : Hp} {p wb : Addr} {ns : List Int} {pile : List (List Int)} (x : LvAt D C xs G p wb ns pile) (s : SameXs [p, wb] H H') : Same (hide xs H) (hide xs H') := (s.mono fun m hm => by
  rcases List.mem_cons.mp hm with z | z
  · rw [z]; exact x.mems.1
  · rw [List.mem_singleton.mp z]; exact x.mems.2).hide
theorem SameXs.three {d p wb : Addr} {H H' : Hp} (s : SameXs [p, wb] H H') : SameXs [d, p, wb] H H' := s.mono fun m hm => List.mem_cons_of_mem _ hm
theorem SameX.three {d p wb : Addr} {H H' : Hp} (s : SameX d H H') : SameXs [d, p, wb] H H' := s.xs (List.mem_cons_self ..)
end L2
namespace L2
open PySem PySem.Spec PyProof.Rows
end L2
namespace My
open L2
end My
namespace L2
open PySem PySem.Spec PyProof.Rows
theorem LvAt.other {D C : Addr} {xs : List Addr} {H H' : Hp} {p wb q v : Addr} {ns ms : List Int} {pile pile' : List (List Int)} (x : LvAt D C xs H p wb ns pile) (y : LvAt D C xs H' q v ms pile') (s : SameXs [q, v] H H') (n1 : p ≠ q) (n2 : p ≠ v) (n3 : wb ≠ q) (n4 : wb ≠ v) : LvAt D C xs H' p wb ns pile :=
  x.xs s (fun m hm => by
    rcases List.mem_cons.mp hm with z | z
    · rw [z]; exact y.mems.1
    · rw [List.mem_singleton.mp z]; exact y.mems.2) (by simp [n1, n2]) (by simp [n3, n4]) fun m hm => by
    rcases List.mem_cons.mp hm with z | z
    · rw [z]; exact y.here _ y.mems.1
    · rw [List.mem_singleton.mp z]; exact y.here _ y.mems.2
end L2
namespace L2
open PySem PySem.Spec PyProof.Rows
theorem LvAt.both {D C : Addr} {xs : List Addr} {H H' : Hp} {p wb q v : Addr} {ns : List Int} {pile : List (List Int)} (x : LvAt D C xs H p wb ns pile) (s : Same H H') (n1 : H q = none) (n2 : H v = none) (e1 : ∃ o, H' q = some o) (e2 : ∃ o, H' v = some o) : LvAt D C (q :: v :: xs) H' p wb ns pile := by
  obtain ⟨ts, ws, c, h⟩ := x
  obtain ⟨dx, nu, rd, g1, g2, g3⟩ := c.ex
  obtain ⟨o1, e1⟩ := e1
  obtain ⟨o2, e2⟩ := e2
  have s' : Same (hide xs H) (hide (q :: v :: xs) H') := ((hide_cons n2).trans (hide_cons n1)).trans (SameXs.of s).hide
  exact ⟨ts, ws, ⟨⟨dx, nu, rd, s _ _ g1, s' _ _ g2, g3.same s'⟩, s _ _ c.wbk, c.ways.same s', List.mem_cons_of_mem _ (List.mem_cons_of_mem _ c.hp), List.mem_cons_of_mem _ (List.mem_cons_of_mem _ c.hw), ((c.here.same s).cons e2).cons e1⟩, h⟩
end L2

set_option Elab.async false
set_option linter.all false
set_option maxRecDepth 100000
set_option maxHeartbeats 4000000
/-! A live row and a list of all its rows, the last one that of now. -/
namespace L2
open PySem PySem.Spec PyProof.Rows
structure Rw (D C : Addr) (xs : List Addr) (H : Hp) (p wb rl : Addr) (ns : List Int) (pile : List (List Int)) : Prop where
  lv : LvAt D C xs H p wb ns pile
  ex : ∃ rs, H rl = some (.lst (rs.map V.ref)) ∧ LstsAt (hide xs H) rs (pile ++ [ns])
  hl : rl ∈ xs
  ne : rl ≠ p ∧ rl ≠ wb
theorem Rw.xs {D C : Addr} {xs ys : List Addr} {H H' : Hp} {p wb rl : Addr} {ns : List Int} {pile : List (List Int)} (x : Rw D C xs H p wb rl ns pile) (s : SameXs ys H H') (h : ∀ m ∈ ys, m ∈ xs) (np : p ∉ ys) (nw : wb ∉ ys) (nl : rl ∉ ys) (k : ∀ m ∈ ys, ∃ o, H' m = some o) : Rw D C xs H' p wb rl ns pile := by
  obtain ⟨rs, e, l⟩ := x.ex
  exact ⟨x.lv.xs s h np nw k, ⟨rs, s _ _ nl e, l.same (s.mono h).hide⟩, x.hl, x.ne⟩
theorem Rw.same {D C : Addr} {xs : List Addr} {H H' : Hp} {p wb rl : Addr} {ns : List Int} {pile : List (List Int)} (x : Rw D C xs H p wb rl ns pile) (s : Same H H') : Rw D C xs H' p wb rl ns pile :=
  x.xs (ys := []) (SameXs.of s) (fun m h => by simp at h) (by simp) (by simp) (by simp) (fun m h => by simp at h)
theorem Rw.one {D C : Addr} {xs : List Addr} {H H' : Hp} {p wb rl m : Addr} {o : HO} {ns : List Int} {pile : List (List Int)} (x : Rw D C xs H p wb rl ns pile) (s : SameX m H H') (h : m ∈ xs) (n1 : m ≠ p) (n2 : m ≠ wb) (n3 : m ≠ rl) (k : H' m = some o) : Rw D C xs H' p wb rl ns pile :=
  x.xs (ys := [m]) (s.xs (List.mem_singleton.mpr rfl)) (fun u hu => by rw [List.mem_singleton.mp hu]; exact h) (fun y => n1 (List.mem_singleton.mp y).symm) (fun y => n2 (List.mem_singleton.mp y).symm) (fun y => n3 (List.mem_singleton.mp y).symm) fun u hu => by rw [List.mem_singleton.mp hu]; exact ⟨o, k⟩
/-- one row more -/
theorem Rw.push {D C : Addr} {xs ys : List Addr} {H H' : Hp} {p wb rl y : Addr} {rs : List Addr} {ns ns' : List Int} {pile : List (List Int)} (x : Rw D C xs H p wb rl ns pile) (s : SameXs ys H H') (h : ∀ m ∈ ys, m ∈ xs) (lv : LvAt D C xs H' p wb ns' (pile ++ [ns])) (ey : hide xs H' y = some (.lst (ns'.map V.int))) (l : LstsAt (hide xs H) rs (pile ++ [ns])) :
    Rw D C xs (upd H' rl (.lst (rs.map V.ref ++ [.ref y]))) p wb rl ns' (pile ++ [ns]) := by
  have s1 : SameXs xs H' (upd H' rl (.lst (rs.map V.ref ++ [.ref y]))) := (SameX.of_upd (h := rl)).xs x.hl
  refine ⟨lv.one (m := rl) SameX.of_upd x.hl x.ne.1 x.ne.2 upd_same, ⟨rs ++ [y], by rw [upd_same, List.map_append]; rfl, ?_⟩, x.hl, x.ne⟩
  exact ((l.same (s.mono h).hide).same s1.hide).snoc (s1.hide _ _ ey)
/-- the last row goes, then the live row's change is taken back -/
theorem Rw.pop {D C : Addr} {xs : List Addr} {H H' : Hp} {p wb rl : Addr} {rs : List Addr} {ns r : List Int} {pile : List (List Int)} (x : Rw D C xs H p wb rl ns (pile ++ [r])) (l : LstsAt (hide xs H) rs (pile ++ [r] ++ [ns])) (lv : LvAt D C xs H' p wb r pile) (s : SameXs [p, wb] (upd H rl (.lst (rs.map V.ref).dropLast)) H') :
    Rw D C xs H' p wb rl r pile ∧ SameXs [rl, p, wb] H H' := by
  have s1 : SameXs [rl, p, wb] H (upd H rl (.lst (rs.map V.ref).dropLast)) := (SameX.of_upd (h := rl)).xs (List.mem_cons_self ..)
  have s2 : SameXs [rl, p, wb] H H' := s1.trans s.three
  have hm : ∀ m ∈ [rl, p, wb], m ∈ xs := fun m hm => by
    rcases List.mem_cons.mp hm with z | z
    · rw [z]; exact x.hl
    · rcases List.mem_cons.mp z with z | z
      · rw [z]; exact lv.mems.1
      · rw [List.mem_singleton.mp z]; exact lv.mems.2
  obtain ⟨k, hk, ek, l', _⟩ := last_of l
  refine ⟨⟨lv, ⟨rs.dropLast, ?_, l'.same (s2.mono hm).hide⟩, x.hl, x.ne⟩, s2⟩
  rw [List.map_dropLast]
  exact s _ _ (by simp [x.ne.1, x.ne.2]) upd_same
theorem Rw.pre {D C : Addr} {xs : List Addr} {H : Hp} {p wb rl : Addr} {o : HO} {ns : List Int} {pile : List (List Int)} (x : Rw D C xs H p wb rl ns pile) : LvAt D C xs (upd H rl o) p wb ns pile := x.lv.one (m := rl) SameX.of_upd x.hl x.ne.1 x.ne.2 upd_same
/-- the last of a list of lists -/
theorem Rw.last {D C : Addr} {xs : List Addr} {H : Hp} {p wb rl : Addr} {ns : List Int} {pile : List (List Int)} (x : Rw D C xs H p wb rl ns pile) : ∃ rs k, H rl = some (.lst (rs.map V.ref)) ∧ LstsAt (hide xs H) rs (pile ++ [ns]) ∧ atI (rs.map V.ref) (-1) = some (.ref k) ∧ hide xs H k = some (.lst (ns.map V.int)) ∧ (rs.map V.ref)[(rs.map V.ref).length - 1]? = some (.ref k) ∧ rs.length = pile.length + 1 := by
  obtain ⟨rs, e, l⟩ := x.ex
  obtain ⟨k, hk, ek, _, hl⟩ := last_of l
  have h2 : (rs.map V.ref)[(rs.map V.ref).length - 1]? = some (.ref k) := by rw [List.length_map, List.getElem?_map, hk]; rfl
  refine ⟨rs, k, e, l, ?_, ek, h2, hl⟩
  unfold atI ixN
  rw [if_neg (by decide), if_pos (by rw [List.length_map]; omega)]
  show (rs.map V.ref)[((-1 : Int) + ((rs.map V.ref).length : Int)).toNat]? = _
  rw [show ((-1 : Int) + ((rs.map V.ref).length : Int)).toNat = (rs.map V.ref).length - 1 by rw [List.length_map]; omega]
  exact h2
end L2

set_option Elab.async false
set_option linter.all false
set_option maxRecDepth 100000
set_option maxHeartbeats 4000000
/-! Exceptions of the program's own classes: raised, passing through defs, caught. -/
namespace L2
open PySem PySem.Spec PyProof.Rows
section
variable {P : Program} {w : World} {fs : List Addr} {H H' : Hp} {h0 h1 h2 B : Heap}
theorem fly_un (U : Un fs [] H H' h0 h1) (cov : ∀ b o0 o, h0.get? b = some o0 → h1.get? b = some o → b ∉ fs → B.get? b = some o) (st : B.StaysIn h2) (up : ∀ b o, b ∈ fs → h1.get? b = some o → ∃ sl, h2.get? b = some { o with slots := sl }) : Un fs [] H H' h0 h2 :=
  ⟨fun b o e n hb hx => st _ _ (cov b o o e (U.keep b o e n hb hx) hb),
   fun b o e n hb hx => by
     obtain ⟨sl, e1⟩ := U.slot b o e n hb hx
     obtain ⟨sl', e2⟩ := up b _ hb e1
     exact ⟨sl', e2⟩,
   U.free,
   fun b o e hx => by
     obtain ⟨o1, e1⟩ := U.there b o e hx
     by_cases hb : b ∈ fs
     · obtain ⟨sl, e2⟩ := up b _ hb e1
       exact ⟨_, e2⟩
     · exact ⟨o1, st _ _ (cov b o o1 e e1 hb)⟩,
   U.tups, U.frzs, U.tbls⟩
theorem fly_hok (hok : HOk P w H' h1) (cov : ∀ b u o, H' b = some u → h1.get? b = some o → B.get? b = some o) (st : B.StaysIn h2) : HOk P w H' h2 := fun a o e =>
  (hok a o e).stay (fun b u hb q => st _ _ (by
    rcases hb with z | z
    · exact cov b o u (by rw [z]; exact e) q
    · exact cov b _ u z q)) (fun _ q => q) fun _ _ q => q
end
theorem ObjOk.obj {P : Program} {w : World} {H : Hp} {h : Heap} {a : Addr} {o : HO} (x : ObjOk P w H h a o) : ∃ ob, h.get? a = some ob := by
  cases o with
  | lst xs => obtain ⟨_, _, _, _, e⟩ := x; exact ⟨_, e⟩
  | tup xs => obtain ⟨_, _, _, p⟩ := x; obtain ⟨o, e, _⟩ := p; exact ⟨o, e⟩
  | dK kvs => obtain ⟨_, _, _, _, o, _, _, e, _⟩ := x; exact ⟨_, e⟩
  | dT kvs => obtain ⟨_, _, _, _, o, _, _, e, _⟩ := x; exact ⟨_, e⟩
  | set S n => obtain ⟨o, _, _, _, e, _⟩ := x; exact ⟨_, e⟩
  | ins C dx fs => obtain ⟨_, _, _, e, _⟩ := x; exact ⟨_, e⟩
  | own y => obtain ⟨_, e⟩ := x; exact ⟨_, e⟩
  | xd fs => obtain ⟨_, ⟨_, _, _, e, _⟩, _⟩ := x; exact ⟨_, e⟩
  | rng lo hi => obtain ⟨_, _, _, e⟩ := x; exact ⟨_, e⟩
  | frz ob u => obtain ⟨e, _⟩ := x; exact ⟨_, e⟩
  | tbl ps => exact ⟨_, show h.get? a = some _ from x⟩
  | met f y => exact ⟨_, show h.get? a = some _ from x⟩
  | ext φ => obtain ⟨_, ⟨_, e⟩, _⟩ := x; exact ⟨_, e⟩
/-- an exception of an own class behind a call: what is tracked and what was there ahead of the call stays while it flies -/
def CXe (P : Program) (w : World) : CXT := fun outer H s E e s' => ∃ (ea C t : Addr) (B : Heap) (H' : Hp), e = .ref ea ∧ s'.os = s.os ∧ AllBare s'.gens ∧ Un (frs outer) [] H H' s.heap s'.heap ∧ HOk P w H' s'.heap ∧ H' ea = none ∧ s.heap.get? ea = none ∧
  Heap.FlyingW B outer ea (.ref C) (.ref t) s'.heap ∧ (∀ b u o, H' b = some u → s'.heap.get? b = some o → B.get? b = some o) ∧ (∀ b o0 o, s.heap.get? b = some o0 → s'.heap.get? b = some o → b ∉ frs outer → B.get? b = some o) ∧ E (.ref C) none H'
theorem frs_of_mem {h base : Heap} {l : List Env} (F : h.FunFrames base l) {b : Addr} (hb : b ∈ frs l) : ∃ o, h.get? b = some o ∧ ∀ vs, o.data ≠ .fields vs := (F.mem hb).2
section
variable {P : Program} {w : World} {K : PySem.W.Frag} {mg : Str → Option Value} {base : Heap} {N : List Str} {qual : Str} {scope : Scope} {f : Addr} {cd : Value} {A : Around} {outer : List Env} {s0 : Shared} {H0 : Hp} {E : XK}
abbrev cxE (P : Program) (w : World) (K : PySem.W.Frag) (mg : Str → Option Value) (base : Heap) (N : List Str) (qual : Str) (scope : Scope) (f : Addr) (cd : Value) (A : Around) (outer : List Env) (s0 : Shared) (H0 : Hp) (E : XK) : Cx := cxOf (CXe P w) P w K mg base N qual scope f cd A outer s0 H0 E
/-- made here, it leaves the frame -/
theorem raised {pins : List (Addr × Obj)} {σ : St} {H : Hp} {s : Shared} {h' : Heap} {ea C : Addr} {vs : List Value} (I : Inv (cxE P w K mg base N qual scope f cd A outer s0 H0 E) pins σ H s) (hx : Heap.MadeExcOf s.heap h' ea (.ref C) vs) (e : E (.ref C) none H) :
    (cxE P w K mg base N qual scope f cd A outer s0 H0 E).xe (.ref ea) { s with heap := h' } := by
  have hstk := I.stack
  have hin : ∀ env ∈ (cxE P w K mg base N qual scope f cd A outer s0 H0 E).stack, ∀ b, env.frame = some b → b ∈ frs (cxE P w K mg base N qual scope f cd A outer s0 H0 E).stack := fun env he b hb => List.mem_filterMap.mpr ⟨env, he, hb⟩
  refine wpAny_leaves_madeW (base := PySem.W.hideAll s.heap (frs (cxE P w K mg base N qual scope f cd A outer s0 H0 E).stack)) (h := s.heap) I.ok.frames rfl (fun b o q => PySem.W.of_hideAll _ q) (PySem.W.funFrames_hide hstk hin) hx fun h2 t fl tup hn up => ?_
  have hsz : ∀ b o0, s0.heap.get? b = some o0 → b ∉ frs outer → b ∉ frs (cxE P w K mg base N qual scope f cd A outer s0 H0 E).stack := fun b o0 e1 nb m => by
    rcases List.mem_cons.mp m with z | z
    · rw [z] at e1; exact absurd (Heap.lt_size e1) (Nat.lt_irrefl _)
    · exact nb z
  have cov2 : ∀ b o0 o, s0.heap.get? b = some o0 → s.heap.get? b = some o → b ∉ frs outer → (PySem.W.hideAll s.heap (frs (cxE P w K mg base N qual scope f cd A outer s0 H0 E).stack)).get? b = some o := fun b o0 o e1 e2 nb => PySem.W.hideAll_get _ e2 (hsz b o0 e1 nb)
  have cov1 : ∀ b u o, H b = some u → s.heap.get? b = some o → (PySem.W.hideAll s.heap (frs (cxE P w K mg base N qual scope f cd A outer s0 H0 E).stack)).get? b = some o := fun b u o e1 e2 => PySem.W.hideAll_get _ e2 fun m => by
    rw [I.stkFree b m] at e1; cases e1
  have st := fl.1
  have U : Un (frs outer) [] H0 H s0.heap h2 := fly_un I.base cov2 st fun b o hb e1 => by
    obtain ⟨o', e2, nd⟩ := frs_of_mem I.funs hb
    rw [e1] at e2; cases e2
    exact up b o (hx.keeps _ _ e1) nd
  have bk : ∀ b o, (∃ o1, s.heap.get? b = some o1 ∧ (PySem.W.hideAll s.heap (frs (cxE P w K mg base N qual scope f cd A outer s0 H0 E).stack)).get? b = some o1) → h2.get? b = some o → (PySem.W.hideAll s.heap (frs (cxE P w K mg base N qual scope f cd A outer s0 H0 E).stack)).get? b = some o := fun b o ⟨o1, _, e2⟩ e3 => by
    have := st _ _ e2
    rw [e3] at this; cases this; exact e2
  have hea : H ea = none := by
    cases q : H ea with
    | none => rfl
    | some u => obtain ⟨o1, e3⟩ := (I.hok ea u q).obj; rw [hx.new] at e3; cases e3
  have hea0 : s0.heap.get? ea = none := by
    cases q : s0.heap.get? ea with
    | none => rfl
    | some u =>
      obtain ⟨o', e1⟩ := I.base.there ea u q (by simp [cxE, cxOf])
      rw [hx.new] at e1; cases e1
  refine ⟨ea, C, t, _, H, rfl, I.os, I.bare, U, fly_hok I.hok cov1 st, hea, hea0, fl, fun b u o e1 e2 => bk b o ?_ e2, fun b o0 o e1 e2 nb => bk b o ?_ e2, e⟩
  · obtain ⟨o1, e3⟩ := (I.hok b u e1).obj
    exact ⟨o1, e3, cov1 b u o1 e1 e3⟩
  · obtain ⟨o1, e3⟩ := I.base.there b o0 e1 (by simp [cxE, cxOf])
    exact ⟨o1, e3, cov2 b o0 o1 e1 e3 nb⟩
end
end L2
namespace L2
open PySem PySem.Spec PyProof.Rows
abbrev mroV : List Value := [.type "ValueError", .type "Exception", .type "BaseException", .type "object"]
/-- an own class below ValueError, as it stands in the text -/
structure XCl (K : PySem.W.Frag) (mg : Str → Option Value) (x : Str) (C : Addr) : Prop where
  bound : mg x = some (.ref C)
  exc : PySem.W.excIn K C mroV "ValueError.__new__" = true
theorem exc_obj {K : PySem.W.Frag} {h : Heap} {C : Addr} {bmB : List Value} {newId : String} (X : K.In h) (q : PySem.W.excIn K C bmB newId = true) :
    ∃ bm N nm qn bs hdct sn sub ab col dd k0 k1 k2 k3 k5 mN, h.get? C = some (excClassObj nm qn C N bs bm hdct sn sub ab col dd k0 k1 k2 k3 k5 newId) ∧ h.Ns N mN ∧ mN "__init__" = none ∧ OwnTail h bmB bm := by
  unfold PySem.W.excIn at q
  split at q
  · rename_i di cdat slo look
    split at q
    · rename_i Cs tl s0 s1 s2 s3 nid s5 em es
      simp only [Bool.and_eq_true, Bool.not_eq_true', beq_iff_eq] at q
      obtain ⟨⟨⟨⟨⟨e1, e2⟩, e3⟩, e4⟩, e5⟩, e6⟩ := q
      subst e1 e2
      obtain ⟨na, bas, mr, nsp, qua, hdi, slN, subs, abst, coll, dele⟩ := cdat
      dsimp only at em e3 e5 e6
      subst em e3
      obtain ⟨sll⟩ := slo
      dsimp only at es
      subst es
      exact ⟨tl, nsp, na, qua, bas, hdi, slN, subs, abst, coll, di, s0, s1, s2, s3, s5, _, X _ _ look, .of_isNs (PySem.W.isNs_of_in X e5), PySem.W.nsMap_none_of_in X e5 e6, PySem.W.tail_of_in X e4⟩
    · cases q
  · cases q
def tRaise (C : Addr) (E : XK) (t : TA) : TS := fun _ σ H => t σ H fun vs H1 => vs.length ≤ sizeLine ∧ E (.ref C) none H1
section
variable {P : Program} {w : World} {K : PySem.W.Frag} {mg : Str → Option Value} {base : Heap} {N : List Str} {qual : Str} {scope : Scope} {f : Addr} {cd : Value} {A : Around} {outer : List Env} {s0 : Shared} {H0 : Hp} {E : XK}
theorem ps_raise {x : Str} {C : Addr} {np cpos pos : Pos} {e : Expr} {es : List Expr} {t : TA} (c : XCl K mg x C) (hg : Gl (cxE P w K mg base N qual scope f cd A outer s0 H0 E) x) (ha : PA (cxE P w K mg base N qual scope f cd A outer s0 H0 E) (e :: es) t)
    (hdb : (x == ("__debug__" : Str)) = false := by decide) (he : starEach (e :: es) (cxE P w K mg base N qual scope f cd A outer s0 H0 E).env = (false, eval e (cxE P w K mg base N qual scope f cd A outer s0 H0 E).env) :: starEach es (cxE P w K mg base N qual scope f cd A outer s0 H0 E).env := by rfl)
    (hpl : (backTo cpos (starEach es (cxE P w K mg base N qual scope f cd A outer s0 H0 E).env)).any (·.1) = false := by rfl) :
    PS (cxE P w K mg base N qual scope f cd A outer s0 H0 E) (.Raise (some (.Call (.Name x np) (e :: es) [] cpos)) none pos) (tRaise C E t) := by
  intro pins s σ H D I hq
  obtain ⟨bm, NN, nm, qn, bs, hdct, sn, sub, ab, col, dd, k0, k1, k2, k3, k5, mN, hC, hN, hni, T⟩ := exc_obj I.mod.kin c.exc
  refine wpAny_Raise_call_subT (C := C) (nm := nm) (q := qn) (N := NN) (bs := bs) (bm := bm) (hdct := hdct) (sn := sn) (sub := sub) (ab := ab) (col := col) (dd := dd) (k0 := k0) (k1 := k1) (k2 := k2) (k3 := k3) (k5 := k5) PySem.F.excBase_ValueError (mN := mN)
    (T.hasType PySem.F.excBase_ValueError.hasBase) (I.ok.hd rfl) (by rw [he]; show (false || (backTo cpos (starEach es (cxE P w K mg base N qual scope f cd A outer s0 H0 E).env)).any (·.1)) = false; rw [hpl]; rfl) hni (ld_glob I hg c.bound ⟨rfl, ?_⟩ hdb)
  have h2 := ha cpos pins s σ H _ I hq
  rw [he] at h2 ⊢
  refine Calls.evalArgs_plain (wpAny_mono h2 (fun vs s2 h3 => ?_) fun _ _ y => y)
  obtain ⟨xs, H1, I1, r, z, e1⟩ := h3
  exact ⟨rfl, by rw [← r.length]; exact z, I1.bk _ _ hC, hN.keeps I1.bk, T.keeps I1.bk, fun h' ea hm => raised I1 hm e1⟩
end
section
variable {P : Program} {w : World} {K : PySem.W.Frag} {mg : Str → Option Value} {base : Heap}
theorem Fun.okE {x qual : Str} {st : Stmt} {f : Addr} {fd : FuncData} {N ps : List Str} {k : Nat} {sp : Sp} (F : Fun K x qual st f fd) (S : FnScope N ps (defScope st)) (len : ∀ vs H Q E, sp vs H Q E → vs.length = ps.length)
    (hbody : ∀ (cdv : Value) (A : Around) (outer : List Env) (s : Shared) (H : Hp) (vs : List V) (Q : VK) (E : XK), Room k (A.deeper (envOfC qual (defScope st) s.heap.objs.size f cdv)) → sp vs H Q E →
      ∃ t, PSs (cxE P w K mg base N qual (defScope st) f cdv A outer s H E) (defBody st) t ∧ t { nx := fun _ H' => Q .non H', rt := Q } (start N vs) H) : FnOk P w K mg base (CXe P w) (k + 1) f fd ps sp := by
  obtain ⟨oc, od, kV, doc, pm, an, cdv, ct, osl, rfl, lk, hcd⟩ := F.ex
  exact fn_of lk hcd S len fun A outer s H vs Q E hr hsp => hbody cdv A outer s H vs Q E hr hsp
end
structure HasE (P : Program) (w : World) (K : PySem.W.Frag) (mg : Str → Option Value) (base : Heap) (x : Str) (k : Nat) (ps : List Str) (sp : Sp) : Prop where
  ex : ∃ f fd, FnOk P w K mg base (CXe P w) k f fd ps sp ∧ mg x = some (.ref f) ∧ PySem.W.keepIn K (.ref f) = true ∧ Binds K fd ps []
structure HasME (P : Program) (w : World) (K : PySem.W.Frag) (mg : Str → Option Value) (base : Heap) (C : Addr) (m : Str) (k : Nat) (ps : List Str) (sp : Sp) : Prop where
  ex : ∃ f fd, FnOk P w K mg base (CXe P w) k f fd ps sp ∧ Meth K C m f ∧ Binds K fd ps []
section
variable {X : Cx} {C : Addr} {m : Str} {k : Nat} {ps : List Str} {sp : Sp} {o e : Expr} {es : List Expr} {ta : TE} {t : TA} {apos pos : Pos} {E : XK}
theorem PS.nox {X : Cx} {st : Stmt} {t : TS} (h : PS X.nox st t) : PS X st t := fun pins s σ H D I hw =>
  wpAny_mono (h pins s σ H D (I.wish _) hw) (fun _ _ q => q.unwish) fun _ _ z => False.elim z
end
end L2
namespace L2
open PySem PySem.Spec PyProof.Rows
/-- within a try: what is wanted of an exception, the pins kept -/
abbrev Cx.flt (X : Cx) (pn : List (Addr × Obj)) (W : Value → Shared → Prop) : Cx := { X with pn := X.pn ++ pn, xe := W }
/-- within an except suite; no exception leaves -/
abbrev Cx.hnd (X : Cx) (e : Value) : Cx := { X with A := X.A.mark (some e), calm := false, xe := fun _ _ => False }
section
variable {X : Cx} {pins ps : List (Addr × Obj)} {σ : St} {H : Hp} {s : Shared} {W : Value → Shared → Prop} {e : Value}
theorem Cx.Ok.flt (ok : X.Ok) : (X.flt ps W).Ok :=
  ⟨ok.mod, ok.kind, ok.glob, ok.blt, ok.above, ok.inj, ok.has, ok.cab, ok.hd, ok.frames, ok.stk, ok.exf, ok.bs, ok.bsz, ok.noex, ok.exfs, ok.funs, ok.frf⟩
theorem Cx.Ok.unflt (ok : (X.flt ps W).Ok) : X.Ok :=
  ⟨ok.mod, ok.kind, ok.glob, ok.blt, ok.above, ok.inj, ok.has, ok.cab, ok.hd, ok.frames, ok.stk, ok.exf, ok.bs, ok.bsz, ok.noex, ok.exfs, ok.funs, ok.frf⟩
theorem Cx.Ok.hnd (ok : X.Ok) : (X.hnd e).Ok :=
  ⟨ok.mod, ok.kind, ok.glob, ok.blt, ok.above, ok.inj, ok.has, ok.cab, fun z => (Bool.false_ne_true z).elim, ok.frames, ok.stk, ok.exf, ok.bs, ok.bsz, ok.noex, ok.exfs, ok.funs, ok.frf⟩
theorem Inv.flt (I : Inv X pins σ H s) : Inv (X.flt pins W) [] σ H s := ⟨I.ok.flt, I.os, I.bare, I.base, I.loc, I.cell, I.free, I.freeC, fun p hp => I.pin p (by rw [List.append_nil] at hp; exact hp), I.hok, I.len⟩
theorem Inv.unflt (I : Inv (X.flt pins W) ps σ H s) : Inv X pins σ H s := ⟨I.ok.unflt, I.os, I.bare, I.base, I.loc, I.cell, I.free, I.freeC, fun p hp => I.pin p (List.mem_append_left _ hp), I.hok, I.len⟩
theorem Inv.hnd (I : Inv X pins σ H s) : Inv (X.hnd e) pins σ H s := ⟨I.ok.hnd, I.os, I.bare, I.base, I.loc, I.cell, I.free, I.freeC, I.pin, I.hok, I.len⟩
theorem Inv.unhnd (I : Inv (X.hnd e) pins σ H s) (ok : X.Ok) : Inv X pins σ H s := ⟨ok, I.os, I.bare, I.base, I.loc, I.cell, I.free, I.freeC, I.pin, I.hok, I.len⟩
theorem SP.unflt {D : Ends} {f : Flow} {s' : Shared} (h : SP (X.flt pins W) ps D f s') : SP X pins D f s' := by
  cases f with
  | next => obtain ⟨σ', H', I, q⟩ := h; exact ⟨σ', H', I.unflt, q⟩
  | brk => obtain ⟨σ', H', I, q⟩ := h; exact ⟨σ', H', I.unflt, q⟩
  | cont => obtain ⟨σ', H', I, q⟩ := h; exact ⟨σ', H', I.unflt, q⟩
  | ret u => obtain ⟨v, σ', H', I, r, q⟩ := h; exact ⟨v, σ', H', I.unflt, r, q⟩
theorem SP.unhnd {D : Ends} {f : Flow} {s' : Shared} (ok : X.Ok) (h : SP (X.hnd e) pins D f s') : SP X pins D f s' := by
  cases f with
  | next => obtain ⟨σ', H', I, q⟩ := h; exact ⟨σ', H', I.unhnd ok, q⟩
  | brk => obtain ⟨σ', H', I, q⟩ := h; exact ⟨σ', H', I.unhnd ok, q⟩
  | cont => obtain ⟨σ', H', I, q⟩ := h; exact ⟨σ', H', I.unhnd ok, q⟩
  | ret u => obtain ⟨v, σ', H', I, r, q⟩ := h; exact ⟨v, σ', H', I.unhnd ok, r, q⟩
end
section
variable {M : Model} {E : Value → Shared → Prop} {A : Around}
/-- the exception's class lies below the clause's -/
theorem excMatches_below {h : Heap} {g : Array GenState} {d : Drawn} {t : Nat} {os : OsState} {e C D : Addr} {oe : Obj} {Q : Bool → Shared → Prop} {K : PySem.W.Frag} (X : K.In h) (qC : PySem.W.excIn K C mroV "ValueError.__new__" = true) (qD : PySem.W.excIn K D mroV "ValueError.__new__" = true)
    (hm : PySem.W.mroIn K C (.ref D) = some true) (he : h.get? e = some oe) (hcls : oe.cls = .ref C) (hq : Q true ⟨h, g, d, t, os⟩) : wpAny M A (excMatches (.ref e) (.ref D)) Q E ⟨h, g, d, t, os⟩ := by
  obtain ⟨bm, NN, nm, qn, bs, hdct, sn, sub, ab, col, dd, k0, k1, k2, k3, k5, mN, hC, hN, hni, T⟩ := exc_obj X qC
  obtain ⟨bm', NN', nm', qn', bs', hdct', sn', sub', ab', col', dd', k0', k1', k2', k3', k5', mN', hD, hN', hni', T'⟩ := exc_obj X qD
  have hcB : (Value.ref D :: bm').contains (.type "BaseException") = true := by rw [List.contains_cons, T'.hasType PySem.F.excBase_ValueError.hasBase, Bool.or_true]
  have hcC : (Value.ref C :: bm).contains (.ref D) = true := by
    obtain ⟨cd, a, b⟩ := Option.bind_eq_some_iff.mp hm
    unfold PySem.W.clsIn at a
    split at a
    · rename_i ho
      cases a
      have hh := X _ _ ho
      rw [hC] at hh
      injection hh with hh
      have hd := congrArg (fun o => o.data) hh
      injection hd with hd
      subst hd
      split at b
      · cases b
      · exact Option.some.inj b
    · cases a
  have f := tc_notTuple
  unfold excMatches
  repeat (first | (with_reducible refine wpAny_loadPart_at he ?_; rw [hcls]) | with_reducible refine wpAny_loadPart_at hD ?_ | (with_reducible refine wpAny_isSubtype_exc hD ?_; rw [hcB]) | (with_reducible refine wpAny_isSubtype_exc hC ?_; rw [hcC]) | wp_step)
  exact hq
end
end L2
namespace L2
open PySem PySem.Spec PyProof.Rows
section
variable {X : Cx} {pins : List (Addr × Obj)} {σ : St} {H : Hp} {s : Shared}
/-- how it lies in wait: the state ahead of the call that raised -/
def Fl (X : Cx) (pins : List (Addr × Obj)) (E : XK) (e : Value) (s' : Shared) : Prop := ∃ σ H s, Inv X pins σ H s ∧ CXe X.prog X.w X.stack H s E e s'
theorem Fl.passes {E : XK} : Passes (CXe X.prog X.w) (X.flt pins (Fl X pins E)) E := fun ps σ H s e s' I h => ⟨σ, H, s, I.unflt, h⟩
end
end L2

set_option Elab.async false
set_option linter.all false
set_option maxRecDepth 100000
set_option maxHeartbeats 4000000
/-! isinstance of an exception of an own class. -/
namespace L2
open PySem PySem.Spec PyProof.Rows PySem.W
structure XAt (K : PySem.W.Frag) (C : Addr) : Prop where
  ga : findIn K (.ref C) "__getattribute__" = some (some (.builtin "BaseException.__getattribute__"))
  gt : findIn K (.ref C) "__getattr__" = some none
  cl : findIn K (.ref C) "__class__" = some (some (.builtin "object.__class__"))
  ob : mroIn K C (.type "object") = some true
  be : mroIn K C (.type "BaseException") = some true
section
variable {prog : Program} {w : World} {A : Around} {E : Value → Shared → Prop} {h : Heap} {g : Array GenState} {d : Drawn} {t : Nat} {os : OsState} {a C : Addr} {K : PySem.W.Frag}
def CAt (h : Heap) (a C : Addr) : Prop := ∃ ob, h.get? a = some ob ∧ ob.cls = .ref C
theorem CAt.ty {M : Model} (I : CAt h a C) : Looks M h (typeOf (.ref a)) (.ref C) := by
  obtain ⟨ob, e1, e2⟩ := I
  rw [← e2]
  exact (Looks.ld e1).andThen .now
theorem xc_get {tp : Value} {R : Result → Shared → Prop} (Z : XAt K C) (X : K.In h) (I : CAt h a C) (q : R (.ok (.ret (.ref C))) ⟨h, g, d, t, os⟩) :
    codeAny (model prog w) A (.call (.builtin "getset_descriptor.__get__") ⟨[.builtin "object.__class__", .ref a, tp], []⟩) R ⟨h, g, d, t, os⟩ := by
  have Ly := I.ty (M := model prog w)
  have Lm := looks_mroIn (M := model prog w) X Z.ob
  refine codeAny_call_builtin KF.slot_gs.plain KF.entry_gs ?_
  refine KF.slot_gs.check _ _ _ _ _ _ _ _ KF.type_class (KF.args_gs _ _ _) ?_
  unfold Builtin.«getset_descriptor.__get__» Builtin.Getset_descriptor.descrGet
  rw [dga_obj]
  refine wpAny_bind (wpAny_pure ?_)
  unfold Builtin.Getset_descriptor.descrGetter Builtin.Getset_descriptor.descrCheckInstance Builtin.Getset_descriptor.descrNameAndClass isInstance
  simp only [KF.owner_class]
  repeat lk
  refine ⟨Code.quiet_builtin _ (by decide +kernel), ?_⟩
  refine codeAny_builtin KF.entry_class ?_
  unfold Builtin.«object.__class__»
  unfold shownTypeOf
  repeat lk
  exact q
theorem xc_entry {tk : Tok} {Q : Fin → Shared → Prop} (Z : XAt K C) (X : K.In h) (I : CAt h a C) (hq : Q (.done (.ret (.ref C))) ⟨h, g, d, t, os⟩) :
    wpAny (model prog w) A (Builtin.«object.__getattribute__» ⟨[Value.ref a, Value.str "__class__" tk], []⟩) Q E ⟨h, g, d, t, os⟩ := by
  have L0 := I.ty (M := model prog w)
  have L1 := looks_findIn (M := model prog w) X Z.cl
  have f5 := KF.type_class
  have ll := And.intro F.slot_gs_get.lookup F.slot_gs_set.lookup
  obtain ⟨l6, l7⟩ := ll
  repeat (any_goals (first | assumption | (with_reducible refine L0.at ?_) | (with_reducible refine L1.at ?_) | wp_step))
  exact xc_get Z X I (wpAny_pure hq)
theorem xc_check {M : Model} {nameV : Value} {Q : Unit → Shared → Prop} (Z : XAt K C) (X : K.In h) (I : CAt h a C) (hq : Q () ⟨h, g, d, t, os⟩) :
    wpAny M A (checkBuiltinCall "BaseException.__getattribute__" ⟨[.ref a, nameV], []⟩) Q E ⟨h, g, d, t, os⟩ := by
  have b1 : builtinKind "BaseException.__getattribute__" = some .slot := by decide +kernel
  have b2 : splitId "BaseException.__getattribute__" = some ("BaseException", "__getattribute__") := by decide +kernel
  have L0 := I.ty (M := M)
  have L1 := looks_mroIn (M := M) X Z.be
  have b3 := F.args_bexc_ga (.ref a) nameV
  simp only [checkBuiltinCall, b1, b2]
  refine wpAny_bind ?_
  · unfold isInstance
    repeat (first | (with_reducible refine L0.at ?_) | (with_reducible refine L1.at ?_) | wp_step)
    exact hq
theorem xc_call {tk : Tok} {R : Result → Shared → Prop} (Z : XAt K C) (X : K.In h) (I : CAt h a C) (hq : R (.ok (.ret (.ref C))) ⟨h, g, d, t, os⟩) :
    codeAny (model prog w) A (.call (.builtin "BaseException.__getattribute__") ⟨[.ref a, .str "__class__" tk], []⟩) R ⟨h, g, d, t, os⟩ :=
  codeAny_call_builtin F.excAttr_ValueError.ga.plain F.entry_bexc_ga (xc_check Z X I (xc_entry Z X I hq))
theorem xc_by {tk : Tok} {fill expr : Bool} {Q : Value → Shared → Prop} (Z : XAt K C) (X : K.In h) (I : CAt h a C) (hq : Q (.ref C) ⟨h, g, d, t, os⟩) :
    wpAny (model prog w) A (getAttrBy (.ref a) (.str "__class__" tk) fill expr) Q E ⟨h, g, d, t, os⟩ := by
  have f3 := F.excAttr_ValueError.ga.bind (.ref a)
  have y0 : (expr && onTheHeap (Value.builtin "BaseException.__getattribute__")) = false := by cases expr <;> rfl
  have y2 : (Value.builtin "BaseException.__getattribute__" == Value.builtin "object.__getattribute__") = false := by decide +kernel
  have y1 : (onTheHeap (Value.ref C) && Value.builtin "BaseException.__getattribute__" == Value.builtin "object.__getattribute__") = false := by rw [y2]; rfl
  have L0 := I.ty (M := model prog w)
  have L1 := looks_findIn (M := model prog w) X Z.ga
  have L2 := looks_findIn (M := model prog w) X Z.gt
  repeat (any_goals (first | assumption | (with_reducible refine L0.at ?_) | (with_reducible refine L1.at ?_) | (with_reducible refine L2.at ?_) | wp_step))
  refine xc_call Z X I ?_
  repeat (any_goals first | assumption | wp_step)
theorem xc_attr {Q : Option Value → Shared → Prop} (Z : XAt K C) (X : K.In h) (I : CAt h a C) (hq : Q (some (.ref C)) ⟨h, g, d, t + 1, os⟩) :
    wpAny (model prog w) A (getAttr? (.ref a) "__class__") Q E ⟨h, g, d, t, os⟩ := by
  unfold getAttr? getAttrBy?
  refine wpAny_bind (wpAny_mkText (wpAny_bind (wpAny_attempt (xc_by Z X I ?_))))
  exact wpAny_pure hq
theorem isCls (Z : XAt K C) : ∃ oc od cdd osl, K.lookup C = some ⟨oc, od, .cls cdd, osl⟩ := by
  obtain ⟨cdd, e, _⟩ := Option.bind_eq_some_iff.mp Z.ob
  unfold clsIn at e
  split at e
  · rename_i oc od cc osl look
    exact ⟨oc, od, cc, osl, look⟩
  · cases e
theorem kitx_exc (Z : XAt K C) : KitX K (.ref a) (.ref C) (fun h => CAt h a C) where
  ty := fun _ _ _ I => I.ty
  it := fun _ _ X _ => by
    obtain ⟨oc, od, cc, osl, look⟩ := isCls Z
    intro _ _ _ _ kp qq
    unfold isType loadHead
    refine wpAny_bind ?_
    exact wpAny_loadPart (kp _ _ (X _ _ look)) (wpAny_pure qq)
  ne := fun _ tp _ _ _ _ X e => by
    obtain ⟨oc, od, cc, osl, look⟩ := isCls Z
    cases q : ((Value.ref C) == Value.ref tp) with
    | false => rfl
    | true =>
      obtain rfl : C = tp := Value.ref.inj (beq_iff_eq.mp q)
      have := X _ _ look
      rw [e] at this; cases this
  ca := fun {_ _ _ _ _ s} X I k => by obtain ⟨h, g, d, t, os⟩ := s; exact xc_attr Z X I k
end
end L2
namespace L2
open PySem PySem.Spec PyProof.Rows
/-- an exception that was caught -/
def excO (ea C : Addr) : HO := .ext fun h => CAt h ea C
theorem excO_ok {P : Program} {w : World} {H : Hp} {h : Heap} {ea C : Addr} (x : CAt h ea C) : ObjOk P w H h ea (excO ea C) :=
  ⟨x, let ⟨o, e, _⟩ := x; ⟨o, e⟩, fun _ _ ⟨o, e, c⟩ k => ⟨o, k o e, c⟩⟩
theorem HOk.add {P : Program} {w : World} {H : Hp} {h : Heap} {a : Addr} {o : HO} (x : HOk P w H h) (n : H a = none) (new : ObjOk P w (upd H a o) h a o) : HOk P w (upd H a o) h := fun b u e => by
  by_cases hb : b = a
  · subst hb; rw [upd_same] at e; cases e; exact new
  · rw [upd_ne hb] at e
    exact (x b u e).stay (fun _ _ _ q => q) (fun c q => by rw [upd_ne (ne_of_none q n)]; exact q) fun c xs q => by rw [upd_ne (ne_of_none q n)]; exact q
section
variable {X : Cx} {pins : List (Addr × Obj)} {σ : St} {H H' : Hp} {s : Shared}
/-- a thing that was not there ahead of the call is tracked from now on -/
theorem Inv.track {s1 : Shared} {a : Addr} {o : HO} (Ic : Inv X pins σ H s) (hex : X.ex = []) (na : s.heap.get? a = none) (I : Inv X pins σ H' s1) (n : H' a = none) (new : ObjOk X.prog X.w (upd H' a o) s1.heap a o) : Inv X pins σ (upd H' a o) s1 := by
  have ne : ∀ {b : Addr} {ob : Obj}, s.heap.get? b = some ob → b ≠ a := fun e z => by rw [z, na] at e; cases e
  have ne0 : ∀ {b : Addr} {ob : Obj}, X.s₀.heap.get? b = some ob → b ≠ a := fun {b ob} e => by
    obtain ⟨o', e'⟩ := Ic.base.there b ob e (by rw [hex]; simp)
    exact ne e'
  have neH : ∀ {b : Addr} {u : HO}, H' b = some u → b ≠ a := fun e z => by rw [z, n] at e; cases e
  refine ⟨I.ok, I.os, I.bare, ⟨I.base.keep, I.base.slot, fun b ob e z hx => by rw [upd_ne (ne0 e)]; exact I.base.free b ob e z hx, I.base.there, fun b xs e => ?_, fun b ob u e => ?_, fun b ps e => ?_⟩, I.loc, I.cell, ?_, fun x c e => ?_, fun p hp => ?_, I.hok.add n new, I.len⟩
  · have := I.base.tups b xs e
    rw [upd_ne (neH this)]; exact this
  · have := I.base.frzs b ob u e
    rw [upd_ne (neH this)]; exact this
  · obtain ⟨more, e'⟩ := I.base.tbls b ps e
    exact ⟨more, by rw [upd_ne (neH e')]; exact e'⟩
  · obtain ⟨m, ⟨ob, _, _, e, _⟩, _⟩ := Ic.loc
    rw [upd_ne (ne e)]; exact I.free
  · obtain ⟨v, ob, e', _⟩ := Ic.cell x c e
    rw [upd_ne (ne e')]; exact I.freeC x c e
  · obtain ⟨e, z, r⟩ := I.pin p hp
    exact ⟨e, by rw [upd_ne (ne (Ic.pin p hp).1)]; exact z, r⟩
/-- a name goes -/
theorem gone_ok {M : Model} {A : Around} {E : Value → Shared → Prop} {i : Nat} {x : Str} {pos : Pos} {Q : Unit → Shared → Prop} (I : Inv X pins σ H s) (hN : X.N.Nodup) (hi : X.N[i]? = some x) (hk : X.env.scope.names.lookup x = some .local)
    (h : ∀ s', Inv X pins (σ.set i none) H s' → Q () s') : wpAny M A (do bindName X.env x .none; unbindBehindTheSuite X.env x pos) Q E s := by
  obtain ⟨m, hn, hl⟩ := id I.loc
  have hcls : (X.env.scope.kind == .class || (X.env.scope.kind == .module && X.env.locals != X.env.globals)) = false := by rw [I.ok.kind]; rfl
  refine wpAny_nameGoes_keeps hk hn hcls fun h' v hn' hs => ?_
  obtain ⟨oL, _, _, hoL, _⟩ := id hn
  have cne := I.cne
  have lo : ∀ {b : Addr} {o : Obj}, X.s₀.heap.get? b = some o → b ≠ X.env.locals := fun e => Nat.ne_of_lt (Nat.lt_of_lt_of_le (Heap.lt_size e) I.ok.above)
  refine h _ ⟨I.ok, I.os, I.bare, ⟨fun b o e n hb hx => (hs.2 b (lo e)).trans (I.base.keep b o e n hb hx), fun b o e n hb hx => ?_, I.base.free, fun b o e hx => ?_, I.base.tups, I.base.frzs, I.base.tbls⟩, ⟨_, hn', fun j y v' e1 e2 e3 => ?_⟩, fun y c e => ?_, I.free, I.freeC, fun p hp => ?_, fun b ob e => ?_, by simpa using I.len⟩
  · obtain ⟨sl, e1⟩ := I.base.slot b o e n hb hx
    exact ⟨sl, (hs.2 b (lo e)).trans e1⟩
  · obtain ⟨o', e1⟩ := I.base.there b o e hx
    exact ⟨o', (hs.2 b (lo e)).trans e1⟩
  · by_cases hj : j = i
    · subst hj
      by_cases hlt : j < σ.length
      · rw [List.getElem?_set_self hlt] at e2; cases e2
      · rw [List.getElem?_eq_none (by rw [List.length_set]; omega)] at e2; cases e2
    · rw [List.getElem?_set_ne (Ne.symm hj)] at e2
      obtain ⟨u', r', q⟩ := hl j y v' e1 e2 e3
      refine ⟨u', r', ?_⟩
      rcases q with ⟨k, e⟩ | ⟨k, c, e, z⟩
      · have ne : y ≠ x := fun e => hj (nodup_ix hN e1 (e ▸ hi))
        exact .inl ⟨k, by show (if y = x then v else m y) = _; rw [if_neg ne]; exact e⟩
      · exact .inr ⟨k, c, e, z.sameBut hs (cne y c e)⟩
  · obtain ⟨w', z⟩ := I.cell y c e
    exact ⟨w', z.sameBut hs (cne y c e)⟩
  · obtain ⟨e, n, ne, nf, dd⟩ := I.pin p hp
    exact ⟨(hs.2 p.1 ne).trans e, n, ne, nf, dd⟩
  · refine (I.hok b ob e).stay (fun c w' hc q => (hs.2 c ?_).trans q) (fun _ q => q) fun _ _ q => q
    rintro rfl
    rcases hc with z | z
    · rw [← z, I.free] at e; cases e
    · rw [I.free] at z; cases z
end
end L2

set_option Elab.async false
set_option linter.all false
set_option maxRecDepth 100000
set_option maxHeartbeats 4000000
/-! More about exceptions: isinstance, what the text's classes are; == of lists of flat things and lists. -/
namespace L2
open PySem PySem.Spec PyProof.Rows
/-- isinstance of a caught exception: one class, a built-in one, a tuple of classes -/
def rIsX (K : PySem.W.Frag) : List V → Hp → VK → Prop := fun xs H Q => ∃ (ea C : Addr) (c : V) (b : Bool), xs = [.ref ea, c] ∧ H ea = some (excO ea C) ∧ XAt K C ∧
  ((∃ D, c = .ref D ∧ PySem.W.kitOne K (.ref C) (.ref D) = some b) ∨ (∃ T, c = .ty T ∧ PySem.W.kitOne K (.ref C) (.type T) = some b) ∨ (∃ (t : Addr) (ds : List Addr), c = .ref t ∧ H t = some (.tup (ds.map V.ref)) ∧ PySem.W.kitAny K (.ref C) (ds.map Value.ref) = some b)) ∧ Q (.bl b) H
section
variable {X : Cx} {K : PySem.W.Frag}
theorem vals_refs : ∀ {ds : List Addr} {us : List Value}, Vals (ds.map V.ref) us → us = ds.map Value.ref
  | [], _, .nil => rfl
  | _ :: _, _, .cons r t => by cases r; rw [vals_refs t]; rfl
theorem isiX (e : X.K = K) : CallR X (.builtin "isinstance") (rIsX K) := by
  subst e
  intro pins s σ H xs us Q I r h
  obtain ⟨ea, C, c, b, rfl, eo, Z, hc, q⟩ := h
  obtain ⟨u, v, rfl, ru, rv⟩ := vals2 r
  cases (show u = Value.ref ea from ru)
  have ca : CAt s.heap ea C := (I.hok ea _ eo).1
  have fin : ∀ tk, EP X pins σ Q (.bool b) { s with toks := tk } := fun tk => ⟨.bl b, H, I.tok tk, rfl, q⟩
  rcases hc with ⟨D, rfl, e1⟩ | ⟨T, rfl, e1⟩ | ⟨t, ds, rfl, et, e1⟩
  · cases (show v = Value.ref D from rv)
    exact PySem.W.kia_one (kitx_exc Z) I.kIn ca e1 (fun z => nomatch z) fin
  · cases (show v = Value.type T from rv)
    exact PySem.W.kia_one (kitx_exc Z) I.kIn ca e1 (fun z => nomatch z) fin
  · cases (show v = Value.ref t from rv)
    obtain ⟨_, its, rr, ob, h1, h2, n, h3⟩ := (show ObjOk X.prog X.w H s.heap t (.tup (ds.map V.ref)) from I.hok t _ et)
    obtain ⟨oc, od, dt, sl⟩ := ob
    cases h2
    cases h3
    rw [vals_refs rr] at h1
    exact PySem.W.kia_tup (kitx_exc Z) I.kIn ca h1 e1 (fun z => nomatch z) fin
end
/-- a class of the text that is raised: C, called x, below RowError (r); ds: the others -/
structure XOwn (K : PySem.W.Frag) (mg : Str → Option Value) (x : Str) (C r : Addr) (ds : List Addr) : Prop where
  cl : XCl K mg x C
  at_ : XAt K C
  up : PySem.W.mroIn K C (.ref r) = some true
  me : PySem.W.mroIn K C (.ref C) = some true
  ve : PySem.W.mroIn K C (.type "ValueError") = some true
  no : ∀ d ∈ ds, PySem.W.isClsIn K d = true ∧ PySem.W.typeIn K (.ref d) = some (.type "type") ∧ PySem.W.mroIn K C (.ref d) = some false
section
variable {K : PySem.W.Frag} {mg : Str → Option Value} {x : Str} {C r : Addr} {ds : List Addr}
theorem XOwn.self (Z : XOwn K mg x C r ds) : PySem.W.kitOne K (.ref C) (.ref C) = some true := kit_same
theorem XOwn.val (Z : XOwn K mg x C r ds) : PySem.W.kitOne K (.ref C) (.type "ValueError") = some true := by
  unfold PySem.W.kitOne
  rw [if_neg (by simp)]
  unfold PySem.W.kitCls
  dsimp only
  rw [if_pos (by decide +kernel)]
  exact Z.ve
theorem XOwn.one {d : Addr} (Z : XOwn K mg x C r ds) (hd : d ∈ ds) : PySem.W.kitOne K (.ref C) (.ref d) = some false := by
  obtain ⟨h1, h2, h3⟩ := Z.no d hd
  have ne : C ≠ d := fun e => by
    subst e
    rw [Z.me] at h3; cases h3
  unfold PySem.W.kitOne
  rw [if_neg (by rw [beq_iff_eq]; exact fun e => ne (Value.ref.inj e))]
  unfold PySem.W.kitCls
  dsimp only
  rw [if_pos (by rw [Bool.and_eq_true]; exact ⟨h1, beq_iff_eq.mpr h2⟩)]
  exact h3
theorem XOwn.any (Z : XOwn K mg x C r ds) : ∀ {es : List Addr}, (∀ d ∈ es, d ∈ ds) → PySem.W.kitAny K (.ref C) (es.map Value.ref) = some false
  | [], _ => rfl
  | d :: es, h => by
    show (match PySem.W.kitOne K (.ref C) (.ref d) with | some true => some true | some false => PySem.W.kitAny K (.ref C) (es.map Value.ref) | none => none) = _
    rw [Z.one (h d (List.mem_cons_self ..))]
    exact Z.any fun e he => h e (List.mem_cons_of_mem _ he)
end
theorem Has.imp {P : Program} {w : World} {K : PySem.W.Frag} {mg : Str → Option Value} {base : Heap} {x : Str} {k : Nat} {ps : List Str} {sp sp' : Sp} (h : Has P w K mg base x k ps sp) (i : ∀ vs H Q E, sp' vs H Q E → sp vs H Q E) : Has P w K mg base x k ps sp' :=
  let ⟨f, fd, F, r⟩ := h.ex; ⟨f, fd, F.imp i, r⟩
section
variable {X : Cx} {K : PySem.W.Frag} {pins : List (Addr × Obj)} {σ : St} {H : Hp} {s : Shared}
end
end L2
namespace My
open L2 PySem
def placeV (g : Int) : V → Bool
  | .int t => decide (0 ≤ t) && decide (t ≤ g)
  | _ => false
end My
namespace L2
open PySem PySem.Spec PyProof.Rows My
theorem boot_ValueError' : bootBuiltins "ValueError" = some (.type "ValueError") := by decide +kernel
end L2
namespace L2
open PySem PySem.Spec PyProof.Rows
end L2
namespace L2
open PySem PySem.Spec PyProof.Rows My
section
variable {X : Cx}
end
/-- things of which none is a place of a row of m numbers -/
def OddAt (h : Addr) (H : Hp) (l : Addr) (m : Int) (xs : List V) : Prop := H l = some (.lst xs) ∧ xs ≠ [] ∧ xs.length ≤ 100 ∧ ∀ x ∈ xs, Th h H x ∧ placeV m x = false
theorem OddAt.sx {h : Addr} {H H' : Hp} {l : Addr} {m : Int} {xs : List V} (x : OddAt h H l m xs) (n : l ≠ h) (s : SameX h H H') : OddAt h H' l m xs := ⟨s _ _ n x.1, x.2.1, x.2.2.1, fun v hv => ⟨(x.2.2.2 v hv).1.sx s, (x.2.2.2 v hv).2⟩⟩
end L2

set_option Elab.async false
set_option linter.all false
set_option maxRecDepth 100000
set_option maxHeartbeats 4000000
/-! for over range(0, n, c). -/
namespace L2
open PySem PySem.Spec PyProof.Rows
section
variable {X : Cx} {tg : Expr}
end
end L2
namespace L2
open PySem PySem.Spec PyProof.Rows
section
variable {X : Cx} {K : PySem.W.Frag} {o e : Expr} {es : List Expr} {to : TE} {t : TA} {name : Str} {apos cpos : Pos} {T id : String} {r : V → List V → Hp → VK → Prop}
/-- o.m(e, ..) of a built-in type, the fragment named -/
theorem pe_bmK (eK : X.K = K) (pa : PlainAttrs T) (slot : Slot T name id) (hty : typeOf (.builtin id) = pure (.type "method_descriptor")) (hm : MtR X id r) (ho : PE X o to) (ha : PA X (e :: es) t)
    (hbase : attributeBase o name X.env (eval o X.env) = eval o X.env := by rfl)
    (hfew : ((backTo cpos (starEach (e :: es) X.env)).all (fun x => !x.1) && (backToKw cpos (keywordEach [] X.env)).all (fun x => x.1.isSome) && decide ((e :: es).length + ([] : List Keyword).length + (if ([] : List Keyword).isEmpty then 0 else 1) < 30)) = true := by rfl)
    (hline : (apos.endLine == cpos.line) = true := by rfl) (hs : starEach (e :: es) X.env = (false, eval e X.env) :: starEach es X.env := by rfl) (hplain : (backTo cpos (starEach es X.env)).any (·.1) = false := by rfl) :
    PE X (.Call (.Attribute o name apos) (e :: es) [] cpos) (tBM K T r to t) := by
  subst eK
  exact pe_bm pa slot hty hm ho ha hbase hfew hline hs hplain
end
end L2
namespace L2
open PySem PySem.Spec PyProof.Rows
section
variable {X : Cx} {e sl : Expr} {te ts : TE} {r : R2}
end
end L2
namespace L2
open PySem PySem.Spec PyProof.Rows
section
variable {X : Cx} {a b : Expr} {es : List Expr} {ta tb : TE} {t : TA} {r : R2} {op : Operator} {pos : Pos} {x1 : Nat}
theorem qe_op (ho : OpR X (binaryOp op) r) (ha : PE X a ta) (hb : QE X b tb) : QE X (.BinOp a op b pos) (tOp r ta tb) := .mk (pe_op ho ha hb.un)
end
end L2

set_option Elab.async false
set_option linter.all false
set_option maxRecDepth 100000
set_option maxHeartbeats 4000000
/-! zip of two lists. -/
namespace L2
open PySem PySem.Spec PyProof.Rows
section
variable {X : Cx}
end
end L2

set_option Elab.async false
set_option linter.all false
set_option maxRecDepth 100000
set_option maxHeartbeats 4000000
/-! a op b op c op d as a test; papers of the fewest windows. -/
namespace L2
open PySem PySem.Spec PyProof.Rows
section
variable {X : Cx} {a b c d : Expr} {ta tb tc td : TE} {pos : Pos}
end
end L2
namespace My
open L2
/-- each window of a parting as long as can be -/
def Steps (ns : List Int) (m : Nat) : Nat → List Nat → Prop
  | f, [] => ns.length ≤ f
  | f, e :: r => f < ns.length ∧ e = reach ns f m ∧ Steps ns m e r
end My
namespace L2
open PySem PySem.Spec PyProof.Rows
end L2

set_option Elab.async false
set_option linter.all false
set_option maxRecDepth 100000
set_option maxHeartbeats 4000000
/-! Partings: none has fewer windows than the one that makes each as long as can be. -/
namespace My
open L2
def PartT (ns : List Int) (m t : Nat) : Nat → List Nat → Prop
  | f, [] => f = t
  | f, e :: r => f < e ∧ e ≤ t ∧ cnt ns f e ≤ m ∧ PartT ns m t e r
/-- greedy stays ahead; the greedy row may be a later part of the other one -/
theorem ahead {ns bs : List Int} {m d : Nat} (hd : d + ns.length ≤ bs.length) (hc : ∀ f e, f ≤ e → e ≤ ns.length → cnt bs (d + f) (d + e) = cnt ns f e) : ∀ (es gs : List Nat) (f f' : Nat), Steps ns m f gs → PartT bs m (d + ns.length) f' es → f' ≤ d + f → gs.length ≤ es.length
  | _, [], _, _, _, _, _ => Nat.zero_le _
  | [], g :: gs, f, f', hg, hp, h => by
    have := hg.1
    have hp : f' = d + ns.length := hp
    omega
  | e :: r, g :: gs, f, f', hg, hp, h => by
    obtain ⟨g1, g2, g3⟩ := hg
    obtain ⟨p1, p2, p3, p4⟩ := hp
    have hr := reach_le (ns := ns) (f := f) (m := m) (by omega)
    have he : e ≤ d + g := by
      rcases Nat.lt_or_ge (d + f) e with z | z
      · have h1 : cnt bs (d + f) e ≤ cnt bs f' e := cnt_dn (by omega) h (by omega)
        obtain ⟨e', rfl⟩ : ∃ e', e = d + e' := ⟨e - d, by omega⟩
        rw [hc f e' (by omega) (by omega)] at h1
        have := (cnt_le_iff (ns := ns) (f := f) (m := m) (b := e') (by omega) (by omega)).mp (by omega)
        omega
      · omega
    have := ahead hd hc r gs g e g3 p4 he
    rw [List.length_cons, List.length_cons]; omega
end My
namespace L2
open PySem PySem.Spec PyProof.Rows
end L2

set_option Elab.async false
set_option linter.all false
set_option maxRecDepth 100000
set_option maxHeartbeats 4000000
/-! all of a list of truths; max of a list of whole numbers with a default. -/
namespace L2
open PySem PySem.Spec PyProof.Rows
section
variable {X : Cx} {pins : List (Addr × Obj)} {σ : St} {H2 : Hp} {l S It : Addr} {xs : List V} {kf : Nat → Int} {K : PySem.W.Frag}
theorem boot_all' : bootBuiltins "all" = some (.builtin "all") := by decide +kernel
theorem bools_at : ∀ {bs : List Bool} {us : List Value}, Vals (bs.map V.bl) us → us = bs.map Value.bool
  | [], us, r => by cases r; rfl
  | b :: bs, us, r => by
    cases r with
    | cons r1 r2 =>
      cases r1
      rw [bools_at r2]; rfl
theorem allK (e : X.K = K) (hc : X.calm = true) : CallR X (.builtin "all") (fun xs H Q => ∃ (a : Addr) (bs : List Bool), xs = [.ref a] ∧ SqL K H a (bs.map V.bl) ∧ Q (.bl (bs.all id)) H) := by
  subst e
  intro pins s σ H xs us Q I r h
  obtain ⟨a, bs, rfl, ha, q⟩ := h
  obtain ⟨u, rfl, ru⟩ := vals1 r
  cases ru
  obtain ⟨its, rv, p, _⟩ := I.list ha
  have hb := bools_at rv
  subst hb
  have hl := p.isList
  have hlt : a < s.heap.objs.size := by obtain ⟨_, e, _⟩ := hl; exact Heap.lt_size e
  refine call_all_walk (wpAny_pyIter_list hl ?_)
  refine ⟨s.heap.objs.size, [s.heap.objs.size, a], [s.heap.objs.size], _, _, _, fun i => (bs[i]?).getD true, rfl, Walks.list (A := X.A.in1) (show X.A.in1.handled = none from I.ok.hd hc) _ a (Nat.ne_of_lt hlt) (bs.map Value.bool).toArray,
    ⟨⟨_, Heap.get?_push_size _ rfl, rfl, rfl⟩, hl.push _⟩, fun i v s' Q' E' hP hQ => ?_, fun h' tk hk => ?_⟩
  · have hP' : (bs.map Value.bool)[i]? = some v := by simpa using hP
    rw [List.getElem?_map] at hP'
    cases z : bs[i]? with
    | none => rw [z] at hP'; cases hP'
    | some b =>
      rw [z] at hP'
      have hQ' : Q' ((bs[i]?).getD true) s' := hQ
      rw [z] at hQ'
      have e : v = .bool b := (Option.some.inj hP').symm
      subst e
      exact wpAny_truthy_bool hQ'
  · have e : ((List.range (bs.map Value.bool).toArray.size).all fun i => (bs[i]?).getD true) = bs.all id := by
      rw [List.size_toArray, List.length_map]; exact LSm.range_all bs
    rw [e]
    refine ⟨.bl (bs.all id), H, I.kept (t' := tk) (h' := h') fun b o eb => hk b o (fun hm => ?_) (Heap.get?_push_of_some _ eb), rfl, q⟩
    rw [List.mem_singleton.mp hm] at eb
    exact absurd (Heap.lt_size eb) (Nat.lt_irrefl _)
end
end L2

set_option Elab.async false
set_option linter.all false
set_option maxRecDepth 100000
set_option maxHeartbeats 4000000
/-! Tables and the way back; a comprehension over enumerate. -/
namespace L2
open PySem PySem.Spec PyProof.Rows
end L2
namespace My
open L2
def FormT (n : Nat) (xss : List (List Int)) : Prop := xss.length = n + 1 ∧ ∀ f, f ≤ n → (xss.getD f []).length = n + 1 - f
end My
namespace L2
open PySem PySem.Spec PyProof.Rows
theorem LstsAt.at {H : Hp} {ts : List Addr} {xss : List (List Int)} (x : LstsAt H ts xss) {f : Nat} (h : f < xss.length) : ∃ l, ts[f]? = some l ∧ H l = some (.lst ((xss.getD f []).map V.int)) := by
  obtain ⟨l, hl⟩ := get_of (as := ts) (f := f) (by rw [x.1]; exact h)
  exact ⟨l, hl, x.2 f l _ hl (by rw [List.getD_eq_getElem?_getD, List.getElem?_eq_getElem h]; rfl)⟩
end L2

set_option Elab.async false
set_option linter.all false
set_option maxRecDepth 100000
set_option maxHeartbeats 4000000
/-! A def that raises nothing, taken for one that may; two promises of one def; refused tables. -/
namespace L2
open PySem PySem.Spec PyProof.Rows
section
variable {P : Program} {w : World} {K : PySem.W.Frag} {mg : Str → Option Value} {base : Heap} {CX : CXT} {k : Nat} {f : Addr} {fd : FuncData} {ps : List Str} {sp sp' : Sp}
theorem FnOk.lift (F : FnOk P w K mg base CX0 k f fd ps sp) : FnOk P w K mg base CX k f fd ps sp :=
  ⟨F.len, fun A outer s H args us vs Q E hr he hb hv hs => codeAny_mono (F.run A outer s H args us vs Q E hr he hb hv hs) fun r s' q => by
    cases r with
    | ok v =>
      cases v with
      | ret u => exact q
      | _ => exact q.elim
    | error e => exact q.elim⟩
def spOr (sp sp' : Sp) : Sp := fun vs H Q E => sp vs H Q E ∨ sp' vs H Q E
theorem FnOk.or (F : FnOk P w K mg base CX k f fd ps sp) (G : FnOk P w K mg base CX k f fd ps sp') : FnOk P w K mg base CX k f fd ps (spOr sp sp') :=
  ⟨fun vs H Q E q => q.elim (F.len vs H Q E) (G.len vs H Q E), fun A outer s H args us vs Q E hr he hb hv hs => hs.elim (F.run A outer s H args us vs Q E hr he hb hv) (G.run A outer s H args us vs Q E hr he hb hv)⟩
end
end L2
namespace My
open L2 PySem
end My

set_option Elab.async false
set_option linter.all false
set_option maxRecDepth 100000
set_option maxHeartbeats 4000000
/-! try: .. except X: .. where the names stand at the raise as ahead of the try. -/
namespace L2
open PySem PySem.Spec PyProof.Rows
def PassesR (R : St → Prop) (CX : CXT) (X : Cx) (E : XK) : Prop := ∀ (pins : List (Addr × Obj)) (σ : St) (H : Hp) (s : Shared) (e : Value) (s' : Shared), R σ → Inv X pins σ H s → CX X.stack H s E e s' → X.xe e s'
def tCallR (R : St → Prop) (sp : Sp) (E : XK) (t : TA) : TE := fun σ H Q => R σ ∧ t σ H fun vs H1 => sp (vs ++ []) H1 Q E
section
variable {X : Cx} {k : Nat} {ps : List Str} {sp : Sp} {x : Str} {p pos : Pos} {e : Expr} {es : List Expr} {t : TA} {E : XK} {R : St → Prop}
theorem pe_callER (h : HasE X.prog X.w X.K X.mg X.base x k ps sp) (hx : PassesR R (CXe X.prog X.w) X E) (hr : Room k X.A) (hg : Gl X x) (ha : PA X (e :: es) t)
    (hdb : (x == ("__debug__" : Str)) = false := by decide) (he : starEach (e :: es) X.env = (false, eval e X.env) :: starEach es X.env := by rfl) (hpl : (backTo pos (starEach es X.env)).any (·.1) = false := by rfl) :
    PE X (.Call (.Name x p) (e :: es) [] pos) (tCallR R sp E t) := by
  obtain ⟨f, fd, F, hm, hk, hb⟩ := h.ex
  intro pins s σ H Q I hq
  obtain ⟨hR, hq⟩ := hq
  refine wpAny_Call_Name_kw (ld_glob I hg hm ?_ hdb)
  refine PySem.W.callWith_K (h₀ := X.base) I.ok.mod.kin hk (thn (ha pos pins s σ H _ I hq) fun us s1 ⟨vs, H1, I1, r, q⟩ => ⟨I1.kIn, ?_⟩) he hpl
  have r2 : Vals (vs ++ []) (us ++ []) := r.append .nil
  have hl : (us ++ []).length = ps.length := by rw [← r2.length]; exact F.len _ _ _ _ q
  refine wpAny_call (codeAny_mono (F.run X.A X.stack s1 H1 ⟨us, []⟩ (us ++ []) (vs ++ []) Q E hr I1.env0 (hb s1 us I1.kIn hl) r2 q) fun r s' hq => ?_)
  cases r with
  | error e => exact hx pins σ H1 s1 e s' hR I1 hq
  | ok fl =>
    cases fl with
    | ret u => exact I1.after hq
    | _ => exact hq.elim
end
section
variable {X : Cx} {pins : List (Addr × Obj)} {σ : St} {H : Hp} {s : Shared}
def FlR (X : Cx) (pins : List (Addr × Obj)) (R : St → Prop) (E : XK) (e : Value) (s' : Shared) : Prop := ∃ σ H s, R σ ∧ Inv X pins σ H s ∧ CXe X.prog X.w X.stack H s E e s'
theorem FlR.passes {R : St → Prop} {E : XK} : PassesR R (CXe X.prog X.w) (X.flt pins (FlR X pins R E)) E := fun ps σ H s e s' hR I h => ⟨σ, H, s, hR, I.unflt, h⟩
end
end L2

set_option Elab.async false
set_option linter.all false
set_option maxRecDepth 100000
set_option maxHeartbeats 4000000
/-! repr of a list of small whole numbers. -/
namespace L2
open PySem PySem.Spec PyProof.Rows
end L2
namespace My
open L2
end My

set_option Elab.async false
set_option linter.all false
set_option maxRecDepth 100000
set_option maxHeartbeats 4000000
/-! Tables of parts of a row, of a row from behind, and of a row with a new number more. -/
namespace My
open L2
end My
namespace L2
open PySem PySem.Spec My
theorem LstsAt.drop {H : Hp} {ts : List Addr} {xss : List (List Int)} (x : LstsAt H ts xss) (a : Nat) : LstsAt H (ts.drop a) (xss.drop a) :=
  ⟨by rw [List.length_drop, List.length_drop, x.1], fun i t xs h1 h2 => by
    rw [List.getElem?_drop] at h1 h2
    exact x.2 _ t xs h1 h2⟩
end L2

set_option Elab.async false
set_option linter.all false
set_option maxRecDepth 100000
set_option maxHeartbeats 4000000
/-! Rows of last places, refused or not; what is new of a spoilt list. -/
namespace My
open PySem PySem.Spec L2
def PairsL (H : Hp) (ts : List Addr) : Prop := ∀ t ∈ ts, ∃ (f c : Addr) (ms : List Int), H t = some (.lst [.ref f, .ref c]) ∧ H f = some (.lst (ms.map V.int)) ∧ H c = some (.lst (ms.map V.int))
theorem PairsL.same {H H' : Hp} {ts : List Addr} (x : PairsL H ts) (s : Same H H') : PairsL H' ts := fun t ht => by
  obtain ⟨f, c, ms, e1, e2, e3⟩ := x t ht
  exact ⟨f, c, ms, s _ _ e1, s _ _ e2, s _ _ e3⟩
theorem ThK.put {H H' : Hp} {he : Addr} {xs ys : List V} {v : V} (t : ThK H v) (s : SameX he H H') (e : H he = some (.lst xs)) (e' : H' he = some (.lst ys)) : ThK H' v := by
  by_cases z : v = .ref he
  · rw [z]; exact .lst e'
  · exact (Th.sx ⟨t, z⟩ s).1
theorem ThD.put {H H' : Hp} {he : Addr} {xs ys : List V} {v : V} (t : ThD H v) (n : v ≠ .ref he) (s : SameX he H H') (e : H he = some (.lst xs)) (e' : H' he = some (.lst ys)) : ThD H' v := by
  refine ⟨(Th.sx ⟨t.1, n⟩ s).1, fun a zs ea q => ?_⟩
  have na : a ≠ he := fun z => n (by rw [ea, z])
  obtain ⟨h1, h2⟩ := t.2 a zs ea (same_obj t.1 (fun o z => s _ _ na z) ea q)
  exact ⟨h1, fun x hx => (h2 x hx).put s e e'⟩
end My

set_option Elab.async false
set_option linter.all false
set_option maxRecDepth 100000
set_option maxHeartbeats 4000000
/-! Whether a thing of any kind equals a whole number; list(range(a, b)); papers of first places looked at. -/
namespace L2
open PySem PySem.Spec PyProof.Rows PySem.SeqAt
open AutoSeq1 (wpAny_loadPart')
open MeetsSeq
section
variable {X : Cx}
end
end L2
namespace My
open PySem PySem.Spec L2
end My

set_option Elab.async false
set_option linter.all false
set_option maxRecDepth 100000
set_option maxHeartbeats 4000000
/-! Things of any kind as tables. -/
namespace My
open PySem PySem.Spec L2
/-- a thing; if it is a list, of things that may be lists of things -/
def ThT (H : Hp) (v : V) : Prop := ThK H v ∧ ∀ a xs, v = .ref a → H a = some (.lst xs) → xs.length ≤ 300 ∧ ∀ x ∈ xs, ThD H x
theorem ThT.same {H H' : Hp} {v : V} (t : ThT H v) (s : Same H H') : ThT H' v := ⟨t.1.same s, fun a xs e q => by
  obtain ⟨h1, h2⟩ := t.2 a xs e (same_obj t.1 (fun o z => s _ _ z) e q)
  exact ⟨h1, fun x hx => (h2 x hx).same s⟩⟩
def lineD (H : Hp) (m : Int) (v : V) : Bool := match v with
  | .ref a => match H a with | some (.lst xs) => decide ((xs.length : Int) = m) && (xs.map wholeV).all id | _ => false
  | _ => false
theorem lineD_lst {H : Hp} {a : Addr} {xs : List V} {m : Int} (e : H a = some (.lst xs)) : lineD H m (.ref a) = (decide ((xs.length : Int) = m) && (xs.map wholeV).all id) := by
  show (match H a with | some (.lst xs) => decide ((xs.length : Int) = m) && (xs.map wholeV).all id | _ => false) = _
  rw [e]
theorem lineD_same {H H' : Hp} {v : V} {m : Int} (t : ThK H v) (s : Same H H') : lineD H' m v = lineD H m v := by
  cases t with
  | lst e => rw [lineD_lst e, lineD_lst (s _ _ e)]
  | tup e =>
    show (match H' _ with | some (.lst xs) => decide ((xs.length : Int) = m) && (xs.map wholeV).all id | _ => false) = (match H _ with | some (.lst xs) => decide ((xs.length : Int) = m) && (xs.map wholeV).all id | _ => false)
    rw [e, s _ _ e]
  | dK e =>
    show (match H' _ with | some (.lst xs) => decide ((xs.length : Int) = m) && (xs.map wholeV).all id | _ => false) = (match H _ with | some (.lst xs) => decide ((xs.length : Int) = m) && (xs.map wholeV).all id | _ => false)
    rw [e, s _ _ e]
  | _ => rfl
theorem lineD_yes {H : Hp} {v : V} {m : Int} (h : lineD H m v = true) : ∃ (a : Addr) (ns : List Int), v = .ref a ∧ H a = some (.lst (ns.map V.int)) ∧ (ns.length : Int) = m := by
  cases v with
  | ref a =>
    have h' : (match H a with | some (.lst xs) => decide ((xs.length : Int) = m) && (xs.map wholeV).all id | _ => false) = true := h
    cases e : H a with
    | none => rw [e] at h'; cases h'
    | some o =>
      rw [e] at h'
      cases o with
      | lst xs =>
        have h2 : (decide ((xs.length : Int) = m) && (xs.map wholeV).all id) = true := h'
        rw [Bool.and_eq_true] at h2
        obtain ⟨ns, rfl⟩ := ints_of (ys := xs) fun y hy => whole_int (List.all_eq_true.mp h2.2 (wholeV y) (List.mem_map.mpr ⟨y, hy, rfl⟩))
        exact ⟨a, ns, rfl, e, by have := of_decide_eq_true h2.1; rw [List.length_map] at this; exact this⟩
      | _ => cases h'
  | _ => cases h
def formL (H : Hp) (xs : List V) : List Bool := (List.range xs.length).map fun (i : Nat) => lineD H ((xs.length : Int) - (i : Int)) (xs.getD i .non)
def formD (H : Hp) (v : V) : Bool := match v with
  | .ref a => match H a with | some (.lst xs) => !decide (xs.length = 0) && (formL H xs).all id | _ => false
  | _ => false
theorem formD_lst {H : Hp} {a : Addr} {xs : List V} (e : H a = some (.lst xs)) : formD H (.ref a) = (!decide (xs.length = 0) && (formL H xs).all id) := by
  show (match H a with | some (.lst xs) => !decide (xs.length = 0) && (formL H xs).all id | _ => false) = _
  rw [e]
theorem getV {xs : List V} {i : Nat} (h : i < xs.length) : xs[i]? = some (xs.getD i .non) := by rw [List.getD_eq_getElem?_getD, List.getElem?_eq_getElem h]; rfl
/-- what has the form of a table -/
theorem formD_yes {H : Hp} {v : V} (h : formD H v = true) : ∃ (t : Addr) (ts : List Addr) (xss : List (List Int)) (n : Nat), v = .ref t ∧ H t = some (.lst (ts.map V.ref)) ∧ LstsAt H ts xss ∧ FormT n xss := by
  cases v with
  | ref a =>
    have h' : (match H a with | some (.lst xs) => !decide (xs.length = 0) && (formL H xs).all id | _ => false) = true := h
    cases e : H a with
    | none => rw [e] at h'; cases h'
    | some o =>
      rw [e] at h'
      cases o with
      | lst xs =>
        have h2 : (!decide (xs.length = 0) && (formL H xs).all id) = true := h'
        rw [Bool.and_eq_true] at h2
        have h0 : xs.length ≠ 0 := by simpa using h2.1
        have hl : ∀ i : Nat, i < xs.length → ∃ (a : Addr) (ns : List Int), xs.getD i .non = .ref a ∧ H a = some (.lst (ns.map V.int)) ∧ (ns.length : Int) = (xs.length : Int) - (i : Int) := fun i hi =>
          lineD_yes (List.all_eq_true.mp h2.2 _ (List.mem_map.mpr ⟨i, List.mem_range.mpr hi, rfl⟩))
        have hr : ∃ ts : List Addr, xs = ts.map V.ref := by
          have : ∀ ys : List V, (∀ y ∈ ys, ∃ a, y = V.ref a) → ∃ ts : List Addr, ys = ts.map V.ref := fun ys => by
            induction ys with
            | nil => exact fun _ => ⟨[], rfl⟩
            | cons y r ih =>
              intro hy
              obtain ⟨a, rfl⟩ := hy y (List.mem_cons_self ..)
              obtain ⟨ts, rfl⟩ := ih fun z hz => hy z (List.mem_cons_of_mem _ hz)
              exact ⟨a :: ts, rfl⟩
          refine this xs fun y hy => ?_
          obtain ⟨i, hi, ei⟩ := List.mem_iff_getElem.mp hy
          obtain ⟨a, ns, ea, _⟩ := hl i hi
          refine ⟨a, ?_⟩
          rw [← ea, List.getD_eq_getElem?_getD, List.getElem?_eq_getElem hi, ← ei]; rfl
        obtain ⟨ts, rfl⟩ := hr
        rw [List.length_map] at hl h0
        let g : Nat → List Int := fun i => match H (ts.getD i 0) with | some (.lst xs) => xs.map (fun v => match v with | .int n => n | _ => 0) | _ => []
        have hg : ∀ i, i < ts.length → H (ts.getD i 0) = some (.lst ((g i).map V.int)) ∧ (g i).length = ts.length - i := fun i hi => by
          obtain ⟨a, ns, ea, e1, e2⟩ := hl i hi
          have hta : ts.getD i 0 = a := by
            rw [List.getD_eq_getElem?_getD, List.getElem?_map, List.getElem?_eq_getElem hi] at ea
            have : V.ref ts[i] = V.ref a := ea
            injection this with this
            rw [List.getD_eq_getElem?_getD, List.getElem?_eq_getElem hi]; exact this
          have hgi : g i = ns := by
            show (match H (ts.getD i 0) with | some (.lst xs) => xs.map (fun v => match v with | .int n => n | _ => 0) | _ => []) = ns
            rw [hta, e1]
            show (ns.map V.int).map _ = ns
            rw [List.map_map]
            exact (List.map_congr_left fun x _ => rfl).trans (List.map_id' ns)
          rw [hgi, hta]
          exact ⟨e1, by omega⟩
        refine ⟨a, ts, (List.range ts.length).map g, ts.length - 1, rfl, e, ⟨by rw [List.length_map, List.length_range], fun i t ys h1 h2 => ?_⟩, ⟨by rw [List.length_map, List.length_range]; omega, fun f hf => ?_⟩⟩
        · have hi := (List.getElem?_eq_some_iff.mp h1).1
          rw [List.getElem?_map, List.getElem?_range hi] at h2
          have h2 : g i = ys := Option.some.inj h2
          have : ts.getD i 0 = t := by rw [List.getD_eq_getElem?_getD, h1]; rfl
          rw [← h2, ← this]
          exact (hg i hi).1
        · have hi : f < ts.length := by omega
          rw [List.getD_eq_getElem?_getD, List.getElem?_map, List.getElem?_range hi]
          show (g f).length = _
          rw [(hg f hi).2]; omega
      | _ => cases h'
  | _ => cases h
/-- no table of any row -/
def NoTab (H : Hp) (v : V) : Prop := formD H v = false ∨ ∃ (t : Addr) (ts : List Addr) (xss : List (List Int)) (n : Nat), v = .ref t ∧ H t = some (.lst (ts.map V.ref)) ∧ LstsAt H ts xss ∧ FormT n xss ∧ n ≤ 300 ∧ ∀ ns, xss ≠ tabM ns
theorem NoTab.same {H H' : Hp} {v : V} (t : ThT H v) (s : Same H H') (n : NoTab H v) : NoTab H' v := by
  rcases n with n | ⟨a, ts, xss, m, rfl, ea, lt, hf, hm, hn⟩
  · refine .inl ?_
    cases hf : formD H' v with
    | false => rfl
    | true =>
      exfalso
      obtain ⟨a, ts, xss, m, rfl, ea, lt, hF⟩ := formD_yes hf
      have ea0 : H a = some (.lst (ts.map V.ref)) := same_obj t.1 (fun o z => s _ _ z) rfl ea
      rw [formD_lst ea0] at n
      rw [formD_lst ea] at hf
      have : formL H' (ts.map V.ref) = formL H (ts.map V.ref) := by
        unfold formL
        refine List.map_congr_left fun i hi => ?_
        have hi := List.mem_range.mp hi
        exact lineD_same ((t.2 a _ rfl ea0).2 _ (List.mem_of_getElem? (getV hi))).1 s
      rw [this, n] at hf
      cases hf
  · exact .inr ⟨a, ts, xss, m, rfl, s _ _ ea, lt.same s, hf, hm, hn⟩
end My

set_option Elab.async false
set_option linter.all false
set_option maxRecDepth 100000
set_option maxHeartbeats 4000000
/-! Displays of things, by levels. -/
namespace My
open PySem PySem.Spec L2
def Lv : Nat → Hp → V → Prop
  | 0 => ThK
  | 1 => ThD
  | _ + 2 => ThT
theorem ThT.d {H : Hp} {v : V} (t : ThT H v) : ThD H v := ⟨t.1, fun a xs e q => ⟨Nat.le_trans (t.2 a xs e q).1 (by decide), fun x hx => ((t.2 a xs e q).2 x hx).1⟩⟩
theorem Lv.same : ∀ {n : Nat} {H H' : Hp} {v : V}, Lv n H v → Same H H' → Lv n H' v
  | 0, _, _, _, t, s => ThK.same t s
  | 1, _, _, _, t, s => ThD.same t s
  | _ + 2, _, _, _, t, s => ThT.same t s
theorem Lv.flat {H : Hp} {v : V} (t : ThK H v) (nl : ∀ a xs, v = .ref a → H a ≠ some (.lst xs)) : ∀ n, Lv n H v
  | 0 => t
  | 1 => ⟨t, fun a xs e q => absurd q (nl a xs e)⟩
  | _ + 2 => ⟨t, fun a xs e q => absurd q (nl a xs e)⟩
theorem Lv.lst {H : Hp} {a : Addr} {xs : List V} (e : H a = some (.lst xs)) (hl : xs.length ≤ 300) : ∀ {n : Nat}, (∀ x ∈ xs, Lv n H x) → Lv (n + 1) H (.ref a)
  | 0, h => thd_lst e (Nat.le_trans hl (by decide)) h
  | 1, h => ⟨.lst e, fun b ys z q => by cases z; rw [e] at q; cases q; exact ⟨hl, h⟩⟩
  | _ + 2, h => ⟨.lst e, fun b ys z q => by cases z; rw [e] at q; cases q; exact ⟨hl, fun x hx => ThT.d (h x hx)⟩⟩
def MkE (n : Nat) (σ : St) (te : TE) : Prop := ∀ (ps : List Addr) (H : Hp) (Q : VK), Here ps H → (∀ v H', Same H H' → Lv n (hide ps H') v → Q v H') → te σ H Q
def MkA (n : Nat) (σ : St) (k : Nat) (ta : TA) : Prop := ∀ (ps : List Addr) (H : Hp) (Q : List V → Hp → Prop), Here ps H → (∀ vs H', Same H H' → vs.length = k → (∀ v ∈ vs, Lv n (hide ps H') v) → Q vs H') → ta σ H Q
variable {n k : Nat} {σ : St}
theorem hide_mono {ps : List Addr} {H H' : Hp} (s : Same H H') : Same (hide ps H) (hide ps H') := (SameXs.of s).hide
theorem Lv.new {ps : List Addr} {a : Addr} {H : Hp} {o : HO} {v : V} (ha : H a = none) (t : Lv n (hide ps H) v) : Lv n (hide ps (upd H a o)) v := t.same (hide_mono (Same.new ha))
end My

set_option Elab.async false
set_option linter.all false
set_option maxRecDepth 100000
set_option maxHeartbeats 4000000
/-! Long displays: what makes them and what they make, in one judgement. -/
namespace My
open PySem PySem.Spec L2
@[irreducible] def JE (n j : Nat) (X : Cx) (e : Expr) : Prop := (∃ t, PE X e t ∧ ∀ σ i, σ[j]? = some (some (.int i)) → MkE n σ t) ∧ ∀ es, starEach (e :: es) X.env = (false, eval e X.env) :: starEach es X.env
@[irreducible] def JA (n j k : Nat) (X : Cx) (es : List Expr) : Prop := ∃ t, PA X es t ∧ ∀ σ i, σ[j]? = some (some (.int i)) → MkA n σ k t
variable {n j k : Nat} {X : Cx} {e : Expr} {es : List Expr} {pos : Pos}
theorem JE.un (h : JE n j X e) : ∃ t, PE X e t ∧ ∀ σ i, σ[j]? = some (some (.int i)) → MkE n σ t := by unfold JE at h; exact h.1
theorem JA.un (h : JA n j k X es) : ∃ t, PA X es t ∧ ∀ σ i, σ[j]? = some (some (.int i)) → MkA n σ k t := by unfold JA at h; exact h
theorem JE.mk {t : TE} (h : PE X e t) (m : ∀ σ i, σ[j]? = some (some (.int i)) → MkE n σ t) (s : ∀ es, starEach (e :: es) X.env = (false, eval e X.env) :: starEach es X.env) : JE n j X e := by unfold JE; exact ⟨⟨t, h, m⟩, s⟩
@[irreducible] def JE.t (h : JE n j X e) : TE := h.un.choose
@[irreducible] def JA.t (h : JA n j k X es) : TA := h.un.choose
theorem JE.pe (h : JE n j X e) : PE X e h.t := by unfold JE.t; exact h.un.choose_spec.1
theorem JA.pa (h : JA n j k X es) : PA X es h.t := by unfold JA.t; exact h.un.choose_spec.1
theorem JE.use (h : JE n j X e) {σ : St} {i : Int} (q : σ[j]? = some (some (.int i))) (ps : List Addr) {H : Hp} {Q : VK} (hp : Here ps H) (g : ∀ v H', Same H H' → Lv n (hide ps H') v → Q v H') : h.t σ H Q := by unfold JE.t; exact h.un.choose_spec.2 σ i q ps H Q hp g
theorem JA.use (h : JA n j k X es) {σ : St} {i : Int} (q : σ[j]? = some (some (.int i))) (ps : List Addr) {H : Hp} {Q : List V → Hp → Prop} (hp : Here ps H) (g : ∀ vs H', Same H H' → vs.length = k → (∀ v ∈ vs, Lv n (hide ps H') v) → Q vs H') : h.t σ H Q := by unfold JA.t; exact h.un.choose_spec.2 σ i q ps H Q hp g
theorem of_q {X : Cx} {ss : List Stmt} {u : TS} {D : Ends} {σ : St} {H : Hp} (h : QSs X ss u) (g : u D σ H) : ∃ t, PSs X ss t ∧ t D σ H := ⟨u, h.un, g⟩
end My

set_option Elab.async false
set_option linter.all false
set_option maxRecDepth 100000
set_option maxHeartbeats 1000000
/-! Sorting rows of any length. -/
namespace Tim
open PySem PyProof.Rows
def kz (x : Keyed) : Int := numOf x.1
def IntK (x : Keyed) : Prop := ∃ n t, x.1 = .int n t
def AllI (xs : Array Keyed) : Prop := ∀ i, i < xs.size → ∃ p, xs[i]? = some p ∧ IntK p
theorem K_at {xs : Array Keyed} {i : Nat} {p : Keyed} (h : xs[i]? = some p) : K xs i = kz p := by unfold K; rw [h]; rfl
section
variable {prog : Program} {w : World} {A : Around} {E : Value → Shared → Prop} {s : Shared}
end
/-! what a merge keeps -/
def Srt (a : Array Keyed) : Prop := a.toList.Pairwise fun x y => kz x ≤ kz y
theorem Srt.le {a : Array Keyed} (h : Srt a) {i j : Nat} (hij : i ≤ j) (hj : j < a.size) : K a i ≤ K a j := by
  by_cases e : i = j
  · rw [e]; exact Int.le_refl _
  · rw [K_at (getElem?_pos a i (by omega)), K_at (getElem?_pos a j hj)]
    have := List.pairwise_iff_getElem.mp h i j (by rw [Array.length_toList]; omega) (by rw [Array.length_toList]; exact hj) (by omega)
    simpa using this
theorem Srt.of {a : Array Keyed} (h : ∀ i j, i ≤ j → j < a.size → K a i ≤ K a j) : Srt a := by
  refine List.pairwise_iff_getElem.mpr fun i j hi hj hij => ?_
  rw [Array.length_toList] at hi hj
  have := h i j (Nat.le_of_lt hij) hj
  rw [K_at (getElem?_pos a i hi), K_at (getElem?_pos a j hj)] at this
  simpa using this
structure MI (a b out : Array Keyed) (ia ib : Nat) : Prop where
  perm : out.toList.Perm (a.toList.take ia ++ b.toList.take ib)
  sort : Srt out
  toA : ∀ x ∈ out.toList, ia < a.size → kz x ≤ K a ia
  toB : ∀ x ∈ out.toList, ib < b.size → kz x ≤ K b ib
def Fin (a b r : Array Keyed) : Prop := r.toList.Perm (a.toList ++ b.toList) ∧ Srt r
theorem MI.symm {a b out : Array Keyed} {ia ib : Nat} (h : MI a b out ia ib) : MI b a out ib ia := ⟨h.perm.trans List.perm_append_comm, h.sort, h.toB, h.toA⟩
theorem ext_toList (a : Array Keyed) (i k : Nat) : (a.extract i (i + k)).toList = (a.toList.drop i).take k := by
  rw [Array.toList_extract, List.extract_eq_take_drop, Nat.add_sub_cancel_left]
theorem ext_mem {a : Array Keyed} {i k : Nat} {y : Keyed} (h : y ∈ (a.toList.drop i).take k) : ∃ j, j < k ∧ i + j < a.size ∧ kz y = K a (i + j) := by
  obtain ⟨j, hj, e⟩ := List.mem_iff_getElem.mp h
  rw [List.length_take, List.length_drop, Array.length_toList] at hj
  refine ⟨j, by omega, by omega, ?_⟩
  rw [List.getElem_take, List.getElem_drop] at e
  rw [K_at (getElem?_pos a (i + j) (by omega)), ← e]
  simp
theorem MI.takeA {a b out : Array Keyed} {ia ib : Nat} (h : MI a b out ia ib) (sa : Srt a) {k : Nat} (hk : ia + k ≤ a.size) (hle : ∀ j, j < k → ib < b.size → K a (ia + j) ≤ K b ib) : MI a b (out ++ a.extract ia (ia + k)) (ia + k) ib := by
  have el : (out ++ a.extract ia (ia + k)).toList = out.toList ++ (a.toList.drop ia).take k := by rw [Array.toList_append, ext_toList]
  refine ⟨?_, ?_, fun x hx hlt => ?_, fun x hx hlt => ?_⟩
  · rw [el, List.take_add]
    refine (h.perm.append_right _).trans ?_
    rw [List.append_assoc, List.append_assoc]
    exact List.perm_append_comm.append_left _
  · unfold Srt
    rw [el]
    refine List.pairwise_append.mpr ⟨h.sort, List.Pairwise.sublist ((List.take_sublist ..).trans (List.drop_sublist ..)) sa, fun x hx y hy => ?_⟩
    obtain ⟨j, hj, hlt, e⟩ := ext_mem hy
    rw [e]
    exact Int.le_trans (h.toA x hx (by omega)) (sa.le (by omega) hlt)
  · rw [el] at hx
    rcases List.mem_append.mp hx with z | z
    · exact Int.le_trans (h.toA x z (by omega)) (sa.le (by omega) hlt)
    · obtain ⟨j, hj, _, e⟩ := ext_mem z
      rw [e]; exact sa.le (by omega) hlt
  · rw [el] at hx
    rcases List.mem_append.mp hx with z | z
    · exact h.toB x z hlt
    · obtain ⟨j, hj, _, e⟩ := ext_mem z
      rw [e]; exact hle j hj hlt
theorem MI.takeB {a b out : Array Keyed} {ia ib : Nat} (h : MI a b out ia ib) (sb : Srt b) {k : Nat} (hk : ib + k ≤ b.size) (hle : ∀ j, j < k → ia < a.size → K b (ib + j) ≤ K a ia) : MI a b (out ++ b.extract ib (ib + k)) ia (ib + k) := (h.symm.takeA sb hk hle).symm
theorem MI.fin {a b out : Array Keyed} (h : MI a b out a.size b.size) : Fin a b out := ⟨by have := h.perm; rwa [List.take_of_length_le (by rw [Array.length_toList]; exact Nat.le_refl _), List.take_of_length_le (by rw [Array.length_toList]; exact Nat.le_refl _)] at this, h.sort⟩
/-- a or b is at its end -/
theorem MI.done {a b out : Array Keyed} {ia ib : Nat} (h : MI a b out ia ib) (sa : Srt a) (sb : Srt b) (ha : ia ≤ a.size) (hb : ib ≤ b.size) (hor : ia = a.size ∨ ib = b.size) : Fin a b (out ++ a.extract ia a.size ++ b.extract ib b.size) := by
  have h1 := h.takeA sa (k := a.size - ia) (by omega) fun j hj z => by omega
  rw [show ia + (a.size - ia) = a.size by omega] at h1
  have h2 := h1.takeB sb (k := b.size - ib) (by omega) fun j hj z => by omega
  rw [show ib + (b.size - ib) = b.size by omega] at h2
  exact h2.fin
/-- one of a is left, and it is the greatest -/
theorem MI.last {a b out : Array Keyed} {ia ib : Nat} (h : MI a b out ia ib) (sa : Srt a) (sb : Srt b) (ha : ia + 1 = a.size) (hb : ib ≤ b.size) (hl : ∀ j, j < b.size → K b j ≤ K a (a.size - 1)) : Fin a b (out ++ b.extract ib b.size ++ a.extract ia a.size) := by
  have h1 := h.takeB sb (k := b.size - ib) (by omega) fun j hj z => by
    have := hl (ib + j) (by omega)
    rwa [show a.size - 1 = ia by omega] at this
  rw [show ib + (b.size - ib) = b.size by omega] at h1
  have h2 := h1.takeA sa (k := a.size - ia) (by omega) fun j hj z => by omega
  rw [show ia + (a.size - ia) = a.size by omega] at h2
  exact h2.fin
end Tim

set_option Elab.async false
set_option linter.all false
set_option maxRecDepth 100000
set_option maxHeartbeats 1000000
namespace Tim
open PySem PyProof.Rows
section
variable {prog : Program} {w : World} {A : Around} {E : Value → Shared → Prop} {s : Shared}
end
end Tim

set_option Elab.async false
set_option linter.all false
set_option maxRecDepth 100000
set_option maxHeartbeats 1000000
namespace Tim
open PySem PyProof.Rows
/-! the merge from behind -/
def Dsc (a : Array Keyed) : Prop := a.toList.Pairwise fun x y => kz y ≤ kz x
structure MJ (a b out : Array Keyed) (na nb : Nat) : Prop where
  perm : out.toList.Perm (a.toList.drop na ++ b.toList.drop nb)
  sort : Dsc out
  toA : ∀ x ∈ out.toList, 0 < na → K a (na - 1) ≤ kz x
  toB : ∀ x ∈ out.toList, 0 < nb → K b (nb - 1) ≤ kz x
theorem MJ.symm {a b out : Array Keyed} {na nb : Nat} (h : MJ a b out na nb) : MJ b a out nb na := ⟨h.perm.trans List.perm_append_comm, h.sort, h.toB, h.toA⟩
theorem MJ.takeA {a b out : Array Keyed} {na nb : Nat} (h : MJ a b out na nb) (sa : Srt a) {r : Nat} (hr : r ≤ na) (hn : na ≤ a.size) (hle : ∀ j, r ≤ j → j < na → 0 < nb → K b (nb - 1) ≤ K a j) : MJ a b (out ++ (a.extract r na).reverse) r nb := by
  have ex : (a.extract r na).toList = (a.toList.drop r).take (na - r) := by
    have := ext_toList a r (na - r)
    rwa [show r + (na - r) = na by omega] at this
  have el : (out ++ (a.extract r na).reverse).toList = out.toList ++ ((a.toList.drop r).take (na - r)).reverse := by rw [Array.toList_append, Array.toList_reverse, ex]
  have dr : a.toList.drop r = (a.toList.drop r).take (na - r) ++ a.toList.drop na := by
    have := (List.take_append_drop (na - r) (a.toList.drop r)).symm
    rwa [List.drop_drop, show r + (na - r) = na by omega] at this
  have mem : ∀ y ∈ ((a.toList.drop r).take (na - r)).reverse, ∃ j, r ≤ j ∧ j < na ∧ kz y = K a j := fun y hy => by
    obtain ⟨j, hj, _, e⟩ := ext_mem (List.mem_reverse.mp hy)
    exact ⟨r + j, by omega, by omega, e⟩
  refine ⟨?_, ?_, fun x hx hlt => ?_, fun x hx hlt => ?_⟩
  · have : ((a.toList.drop r).take (na - r) ++ a.toList.drop na) ++ b.toList.drop nb = a.toList.drop r ++ b.toList.drop nb := by rw [← dr]
    rw [el, ← this, List.append_assoc]
    exact (h.perm.append (List.reverse_perm _)).trans List.perm_append_comm
  · unfold Dsc
    rw [el]
    refine List.pairwise_append.mpr ⟨h.sort, ?_, fun x hx y hy => ?_⟩
    · exact List.pairwise_reverse.mpr (List.Pairwise.sublist ((List.take_sublist ..).trans (List.drop_sublist ..)) sa)
    · obtain ⟨j, h1, h2, e⟩ := mem y hy
      rw [e]
      exact Int.le_trans (sa.le (by omega) (by omega)) (h.toA x hx (by omega))
  · rw [el] at hx
    rcases List.mem_append.mp hx with z | z
    · exact Int.le_trans (sa.le (by omega) (by omega)) (h.toA x z (by omega))
    · obtain ⟨j, h1, h2, e⟩ := mem x z
      rw [e]; exact sa.le (by omega) (by omega)
  · rw [el] at hx
    rcases List.mem_append.mp hx with z | z
    · exact h.toB x z hlt
    · obtain ⟨j, h1, h2, e⟩ := mem x z
      rw [e]; exact hle j h1 h2 hlt
theorem MJ.takeB {a b out : Array Keyed} {na nb : Nat} (h : MJ a b out na nb) (sb : Srt b) {r : Nat} (hr : r ≤ nb) (hn : nb ≤ b.size) (hle : ∀ j, r ≤ j → j < nb → 0 < na → K a (na - 1) ≤ K b j) : MJ a b (out ++ (b.extract r nb).reverse) na r := (h.symm.takeA sb hr hn hle).symm
theorem MJ.fin {a b out : Array Keyed} (h : MJ a b out 0 0) : Fin a b out.reverse := by
  refine ⟨?_, ?_⟩
  · rw [Array.toList_reverse]
    exact (List.reverse_perm _).trans h.perm
  · unfold Srt
    rw [Array.toList_reverse]
    exact List.pairwise_reverse.mpr h.sort
theorem MJ.done {a b out : Array Keyed} {na nb : Nat} (h : MJ a b out na nb) (sa : Srt a) (sb : Srt b) (ha : na ≤ a.size) (hb : nb ≤ b.size) (hor : na = 0 ∨ nb = 0) : Fin a b (a.extract 0 na ++ b.extract 0 nb ++ out.reverse) := by
  have h1 := h.takeB sb (r := 0) (by omega) hb fun j _ hj z => by omega
  have h2 := h1.takeA sa (r := 0) (by omega) ha fun j _ hj z => by omega
  have := h2.fin
  rwa [Array.reverse_append, Array.reverse_append, Array.reverse_reverse, Array.reverse_reverse, ← Array.append_assoc] at this
theorem MJ.first {a b out : Array Keyed} {na nb : Nat} (h : MJ a b out na nb) (sa : Srt a) (sb : Srt b) (ha : na ≤ a.size) (hb : nb ≤ b.size) (h1 : nb = 1) (h0 : ∀ j, j < a.size → K b 0 ≤ K a j) : Fin a b (b.extract 0 nb ++ a.extract 0 na ++ out.reverse) := by
  have h1 := h.takeA sa (r := 0) (by omega) ha fun j _ hj z => by rw [h1]; exact h0 j (by omega)
  have h2 := h1.takeB sb (r := 0) (by omega) hb fun j _ hj z => by omega
  have := h2.fin
  rwa [Array.reverse_append, Array.reverse_append, Array.reverse_reverse, Array.reverse_reverse, ← Array.append_assoc] at this
section
variable {prog : Program} {w : World} {A : Around} {E : Value → Shared → Prop} {s : Shared}
end
end Tim

set_option Elab.async false
set_option linter.all false
set_option maxRecDepth 100000
set_option maxHeartbeats 1000000
namespace Tim
open PySem PyProof.Rows
/-! runs -/
structure Ok (a₀ : Array Keyed) (st : SortSt) : Prop where
  perm : (arrOf st).Perm a₀
  kind : kindOf st = oneType'
  fine : failedOf st = none
theorem Ok.size {a₀ : Array Keyed} {st : SortSt} (h : Ok a₀ st) : (arrOf st).size = a₀.size := h.perm.size_eq
theorem Ok.all {a₀ : Array Keyed} {st : SortSt} (h : Ok a₀ st) (h0 : IntKeys a₀) : AllI (arrOf st) := fun i hi => ⟨(arrOf st)[i], getElem?_pos _ i hi, h0 _ ((Array.perm_iff_toList_perm.mp h.perm).mem_iff.mp (by simp))⟩
def Seg (xs : Array Keyed) (lo hi : Nat) : Prop := ∀ i j, lo ≤ i → i ≤ j → j < hi → K xs i ≤ K xs j
/-- as ahead, below lo -/
structure Upto (a₀ : Array Keyed) (lo : Nat) (st st' : SortSt) : Prop where
  ok : Ok a₀ st'
  pend : pendingOf st' = pendingOf st
  same : ∀ j, j < lo → K (arrOf st') j = K (arrOf st) j
section
variable {a₀ : Array Keyed} {prog : Program} {w : World} {A : Around} {E : Value → Shared → Prop} {s : Shared}
end
end Tim

set_option Elab.async false
set_option linter.all false
set_option maxRecDepth 100000
set_option maxHeartbeats 1000000
namespace Tim
open PySem PyProof.Rows
section
variable {a₀ : Array Keyed} {prog : Program} {w : World} {A : Around} {E : Value → Shared → Prop} {s : Shared}
end
end Tim

set_option Elab.async false
set_option linter.all false
set_option maxRecDepth 100000
set_option maxHeartbeats 1000000
namespace Tim
open PySem PyProof.Rows
abbrev Run := Nat × Nat × Nat
def Runs (xs : Array Keyed) : Nat → List Run → Nat → Prop
  | a, [], b => a = b
  | a, (s, n, _) :: r, b => s = a ∧ 1 ≤ n ∧ Seg xs s (s + n) ∧ Runs xs (s + n) r b
theorem Runs.le {xs : Array Keyed} : ∀ {l : List Run} {a b : Nat}, Runs xs a l b → a + l.length ≤ b
  | [], a, b, h => by have : a = b := h; simp [this]
  | (s, n, p) :: r, a, b, h => by
    obtain ⟨h1, h2, _, h4⟩ := h
    have := Runs.le h4
    rw [List.length_cons]; omega
theorem Seg.congr {xs ys : Array Keyed} {a b : Nat} (h : Seg xs a b) (e : ∀ j, a ≤ j → j < b → K ys j = K xs j) : Seg ys a b := fun i j h1 h2 h3 => by rw [e i h1 (by omega), e j (by omega) h3]; exact h i j h1 h2 h3
theorem Runs.congr {xs ys : Array Keyed} : ∀ {l : List Run} {a b : Nat}, Runs xs a l b → (∀ j, a ≤ j → j < b → K ys j = K xs j) → Runs ys a l b
  | [], a, b, h, _ => h
  | (s, n, p) :: r, a, b, h, e => by
    obtain ⟨h1, h2, h3, h4⟩ := h
    have := Runs.le h4
    exact ⟨h1, h2, h3.congr fun j g1 g2 => e j (by omega) (by omega), Runs.congr h4 fun j g1 g2 => e j (by omega) g2⟩
section
variable {a₀ : Array Keyed} {prog : Program} {w : World} {A : Around} {E : Value → Shared → Prop} {s : Shared}
end
end Tim

set_option Elab.async false
set_option linter.all false
set_option maxRecDepth 100000
set_option maxHeartbeats 1000000
namespace Tim
open PySem PyProof.Rows
section
variable {a₀ : Array Keyed} {prog : Program} {w : World} {A : Around} {E : Value → Shared → Prop} {s : Shared}
end
end Tim

set_option Elab.async false
set_option linter.all false
set_option maxRecDepth 100000
set_option maxHeartbeats 1000000
/-! list.sort and sorted, of whole numbers, any length. -/
namespace Tim
open PySem PyProof.Rows
section
variable {prog : Program} {w : World} {A : Around} {E : Value → Shared → Prop} {s : Shared}
end
end Tim

set_option Elab.async false
set_option linter.all false
set_option maxRecDepth 100000
set_option maxHeartbeats 4000000
/-! sorted of a list of whole numbers -/
namespace L2
open PySem PySem.Spec PyProof.Rows
section
variable {X : Cx} {K : PySem.W.Frag}
end
end L2

set_option Elab.async false
set_option linter.all false
set_option maxRecDepth 100000
set_option maxHeartbeats 1000000
/-! Sets that can be walked: their tables. -/
namespace Tab
open PySem PyProof.Rows
/-- rising places -/
def Up (xs : Array Nat) : Prop := ∀ i j, i < j → j < xs.size → xs.getD i 0 < xs.getD j 0
end Tab

set_option Elab.async false
set_option linter.all false
set_option maxRecDepth 100000
set_option maxHeartbeats 1000000
namespace Tab
open PySem PyProof.Rows
section
variable {prog : Program} {w : World} {K : Type} [DecidableEq K] (knd : KeyKind prog w K)
/-- a set, its table in order -/
def SetS (h : Heap) (a : Addr) (S : K → Bool) (n : Nat) : Prop :=
  ∃ o es ep t, h.get? a = some o ∧ o.ExactSet ∧ o.data = .set es ep t ∧ (ElemsOf knd es.toList ∧ (∀ k, S k = true ↔ ∃ e ∈ es.toList, knd.is k e.2 = true) ∧ es.size < scanBound ∧ t.fits es.size = true ∧ es.size = n) ∧ Up t.place ∧ (w.params.followText "set-order" = true ∨ t.led = true)
variable {knd}
theorem SetS.of {h : Heap} {a : Addr} {S : K → Bool} {n : Nat} (x : SetS knd h a S n) : h.SetOf knd a S n := let ⟨o, es, ep, t, h1, h2, h3, ⟨h4, h5, h6, h7, h8⟩, _⟩ := x; ⟨o, es, ep, t, h1, h2, h3, h4, h5, h6, h7, h8⟩
theorem SetS.at {h h' : Heap} {a : Addr} {S : K → Bool} {n : Nat} (x : SetS knd h a S n) (e : ∀ o, h.get? a = some o → h'.get? a = some o) : SetS knd h' a S n := let ⟨o, es, ep, t, h1, r⟩ := x; ⟨o, es, ep, t, e _ h1, r⟩
theorem SetS.congr {h : Heap} {a : Addr} {S S' : K → Bool} {n n' : Nat} (x : SetS knd h a S n) (e : ∀ k, S k = S' k) (en : n = n') : SetS knd h a S' n' := by
  have : S = S' := funext e
  subst this en; exact x
variable {A : Around} {E : Value → Shared → Prop} {s : Shared}
end
end Tab

set_option Elab.async false
set_option linter.all false
set_option maxRecDepth 100000
set_option maxHeartbeats 3200000
namespace Tab
open PySem PyProof.Rows
section
variable {prog : Program} {w : World} {A : Around} {R : Result → Shared → Prop} {I : Addr} {fp wr : List Addr} {G : Array GenState → Array GenState → Prop} {n : Nat} {P : Nat → Value → Prop} {St : Nat → Shared → Prop}
end
section
variable {prog : Program} {w : World} {A : Around} {E : Value → Shared → Prop} {s : Shared}
abbrev newS (w : World) : Obj := { cls := .type "set", dict := none, data := .set #[] 0 (.fresh 0 0 (!w.params.followText "set-order")) }
end
end Tab

set_option Elab.async false
set_option linter.all false
set_option maxRecDepth 100000
set_option maxHeartbeats 3200000
/-! A walk over a set. -/
namespace Tab
open PySem PyProof.Rows
end Tab

set_option Elab.async false
set_option linter.all false
set_option maxRecDepth 100000
set_option maxHeartbeats 3200000
namespace Tab
open PySem PyProof.Rows
abbrev itO (first : Value) (i : Int) (a : Addr) (n ep : Int) : Obj := { cls := .type "set_iterator", data := .fields #[first, .int i 0, .ref a, .int n 0, .int ep 0] }
def SetAt (h : Heap) (a : Addr) (es : Array (Int × Value)) (ep : Nat) (t : SetTable) : Prop := ∃ o, h.get? a = some o ∧ o.ExactSet ∧ o.data = .set es ep t ∧ t.fits es.size = true
section
variable {prog : Program} {w : World} {A : Around} {E : Value → Shared → Prop} {s : Shared}
end
end Tab

set_option Elab.async false
set_option linter.all false
set_option maxRecDepth 100000
set_option maxHeartbeats 3200000
namespace Tab
open PySem PyProof.Rows
section
variable {prog : Program} {w : World} {A : Around} {E : Value → Shared → Prop} {s : Shared} {a : Addr} {es : Array (Int × Value)} {ep : Nat} {t : SetTable}
end
end Tab

set_option Elab.async false
set_option linter.all false
set_option maxRecDepth 100000
set_option maxHeartbeats 3200000
namespace Tab
open PySem PyProof.Rows
theorem SetAt.at {h h' : Heap} {a : Addr} {es : Array (Int × Value)} {ep : Nat} {t : SetTable} (x : SetAt h a es ep t) (e : ∀ o, h.get? a = some o → h'.get? a = some o) : SetAt h' a es ep t := let ⟨o, h1, r⟩ := x; ⟨o, e _ h1, r⟩
section
variable {prog : Program} {w : World} {A : Around} {E : Value → Shared → Prop} {s : Shared} {a : Addr} {es : Array (Int × Value)} {ep : Nat} {t : SetTable}
end
end Tab

set_option Elab.async false
set_option linter.all false
set_option maxRecDepth 100000
set_option maxHeartbeats 3200000
/-! sorted of a set of whole numbers -/
namespace Tab
open PySem PyProof.Rows
theorem perm_of_sub {l1 l2 : List Int} (hn : l2.Nodup) : ∀ {l1 : List Int}, (∀ x ∈ l2, x ∈ l1) → l1.length = l2.length → l1.Perm l2 := by
  induction l2 with
  | nil => intro l1 _ h; rw [List.eq_nil_of_length_eq_zero h]
  | cons y r ih =>
    intro l1 hs hl
    have hy := hs y (List.mem_cons_self ..)
    obtain ⟨h1, h2⟩ := List.nodup_cons.mp hn
    have e := List.perm_cons_erase hy
    refine e.trans ((ih h2 (fun x hx => ?_) ?_).cons y)
    · exact (List.mem_erase_of_ne fun z => h1 (by rw [← z]; exact hx)).mpr (hs x (List.mem_cons_of_mem _ hx))
    · rw [List.length_erase_of_mem hy, hl]; simp
section
variable {prog : Program} {w : World} {A : Around} {E : Value → Shared → Prop} {s : Shared} {a : Addr}
end
end Tab

set_option Elab.async false
set_option linter.all false
set_option maxRecDepth 100000
set_option maxHeartbeats 1000000
/-! The steps i -> 5 i + 1 run through all places of a table of 2^k. -/
namespace Tab
end Tab

set_option Elab.async false
set_option linter.all false
set_option maxRecDepth 100000
set_option maxHeartbeats 1000000
/-! A free place of a table is found. -/
namespace Tab
open PySem PySem.SetTable
/-- where the n-th look is, and what is left of the hash -/
def lk (mask i p : Nat) : Nat → Nat × Nat
  | 0 => (i, p)
  | n + 1 => leap mask (lk mask i p n).1 (lk mask i p n).2
end Tab

set_option Elab.async false
set_option linter.all false
set_option maxRecDepth 100000
set_option maxHeartbeats 1000000
/-! A table laid anew holds every element once. -/
namespace Tab
open PySem PySem.SetTable
end Tab

set_option Elab.async false
set_option linter.all false
set_option maxRecDepth 100000
set_option maxHeartbeats 1000000
namespace Tab
open PySem PySem.SetTable
end Tab

set_option Elab.async false
set_option linter.all false
set_option maxRecDepth 100000
set_option maxHeartbeats 3200000
/-! a walk over a set of whole numbers that nobody sees -/
namespace Tab
open PySem PyProof.Rows
def IntEs (es : List (Int × Value)) : Prop := ∀ e ∈ es, ∃ k t, e = (hashInt k, .int k t)
theorem ints_of_elems {prog : Program} {w : World} {es : List (Int × Value)} (h : ElemsOf (intKind prog w) es) : IntEs es := fun e he => by
  obtain ⟨⟨k, h1, h2⟩, _⟩ := h e he
  obtain ⟨t, ht⟩ := Value.isInt_shape h1
  refine ⟨k, t, ?_⟩
  obtain ⟨a, b⟩ := e
  simp only at ht h2
  rw [ht, h2]; rfl
theorem elems_of_ints {prog : Program} {w : World} {es : List (Int × Value)} (h : IntEs es) : ElemsOf (intKind prog w) es := fun e he => by
  obtain ⟨k, t, rfl⟩ := h e he
  exact ⟨⟨k, by show Value.isInt k (.int k t) = true; simp [Value.isInt], rfl⟩, rfl⟩
section
variable {prog : Program} {w : World} {A : Around} {E : Value → Shared → Prop} {s : Shared}
end
end Tab

set_option Elab.async false
set_option linter.all false
set_option maxRecDepth 100000
set_option maxHeartbeats 3200000
/-! one set put into another: the table laid anew, copied, or filled one by one -/
namespace Tab
open PySem PyProof.Rows
def keyOf : (Int × Value) → Int
  | (_, .int k _) => k
  | _ => 0
def keys (es : Array (Int × Value)) : List Int := es.toList.map keyOf
section
variable {prog : Program} {w : World} {A : Around} {E : Value → Shared → Prop} {s : Shared}
end
end Tab

set_option Elab.async false
set_option linter.all false
set_option maxRecDepth 100000
set_option maxHeartbeats 3200000
namespace Tab
open PySem PyProof.Rows
/-- a set of just these whole numbers -/
def KS (h : Heap) (a : Addr) (ks : List Int) : Prop := ∃ es ep t, SetAt h a es ep t ∧ IntEs es.toList ∧ (keys es).Perm ks ∧ ks.Nodup ∧ ks.length < scanBound
theorem KS.at {h h' : Heap} {a : Addr} {ks : List Int} (x : KS h a ks) (e : ∀ o, h.get? a = some o → h'.get? a = some o) : KS h' a ks := let ⟨es, ep, t, y, r⟩ := x; ⟨es, ep, t, y.at e, r⟩
theorem keys_size (es : Array (Int × Value)) : (keys es).length = es.size := by unfold keys; rw [List.length_map, Array.length_toList]
theorem mem_keys {es : Array (Int × Value)} (hi : IntEs es.toList) (k : Int) : k ∈ keys es ↔ ∃ e ∈ es.toList, Value.isInt k e.2 = true := by
  unfold keys
  constructor
  · intro h
    obtain ⟨e, he, hk⟩ := List.mem_map.mp h
    obtain ⟨k', t, rfl⟩ := hi e he
    refine ⟨_, he, ?_⟩
    have hk : k' = k := hk
    subst hk
    simp [Value.isInt]
  · rintro ⟨e, he, hk⟩
    obtain ⟨k', t, rfl⟩ := hi e he
    refine List.mem_map.mpr ⟨_, he, ?_⟩
    have hk : Value.isInt k (.int k' t) = true := hk
    simp [Value.isInt] at hk
    show k' = k
    exact hk
section
variable {prog : Program} {w : World} {A : Around} {E : Value → Shared → Prop} {s : Shared}
theorem KS.of {h : Heap} {a : Addr} {ks : List Int} (x : KS h a ks) : h.SetOf (intKind prog w) a (fun k => ks.any (· == k)) ks.length := by
  obtain ⟨es, ep, t, ⟨o, h1, h2, h3, h4⟩, hi, hp, hn, hb⟩ := x
  have hsz : es.size = ks.length := by rw [← keys_size, hp.length_eq]
  refine ⟨o, es, ep, t, h1, h2, h3, elems_of_ints hi, fun k => ?_, by omega, h4, hsz⟩
  have := mem_keys hi k
  rw [hp.mem_iff] at this
  have e : (ks.any (· == k)) = true ↔ k ∈ ks := by simp
  exact e.trans this
theorem KS.mk {h : Heap} {a : Addr} {ks : List Int} (x : h.SetOf (intKind prog w) a (fun k => ks.any (· == k)) ks.length) (hn : ks.Nodup) : KS h a ks := by
  obtain ⟨o, es, ep, t, h1, h2, h3, h4, h5, h6, h7, h8⟩ := x
  have hi := ints_of_elems h4
  refine ⟨es, ep, t, ⟨o, h1, h2, h3, h7⟩, hi, ?_, hn, by omega⟩
  refine perm_of_sub (l1 := []) hn (fun k hk => (mem_keys hi k).mpr ((h5 k).mp (by simpa using hk))) (by rw [keys_size, h8])
/-- the same; if it is empty its table may be laid out -/
def KM (h : Heap) (a : Addr) (ks : List Int) : Prop := ∃ es ep t, SetAt h a es ep t ∧ IntEs es.toList ∧ (keys es).Perm ks ∧ ks.Nodup ∧ ks.length < scanBound ∧ (es.size = 0 → t.fill = 0 → ∃ k, t.mask + 1 = 2 ^ k)
theorem KM.ks {h : Heap} {a : Addr} {ks : List Int} (x : KM h a ks) : KS h a ks := let ⟨es, ep, t, y, a, b, c, d, _⟩ := x; ⟨es, ep, t, y, a, b, c, d⟩
end
end Tab

set_option Elab.async false
set_option linter.all false
set_option maxRecDepth 100000
set_option maxHeartbeats 3200000
/-! & and | of sets of whole numbers -/
namespace Tab
open PySem PyProof.Rows
section
variable {prog : Program} {w : World} {A : Around} {E : Value → Shared → Prop} {s : Shared}
theorem SetAt.type {h : Heap} {a : Addr} {es : Array (Int × Value)} {ep : Nat} {t : SetTable} {s : Shared} (x : SetAt s.heap a es ep t) : s.TypeIs (.ref a) "set" := let ⟨o, h1, h2, _⟩ := x; ⟨o, h1, h2.1⟩
theorem KS.type {a : Addr} {ks : List Int} {s : Shared} (x : KS s.heap a ks) : s.TypeIs (.ref a) "set" := let ⟨_, _, _, ⟨o, h1, h2, _⟩, _⟩ := x; ⟨o, h1, h2.1⟩
end
end Tab

set_option Elab.async false
set_option linter.all false
set_option maxRecDepth 100000
set_option maxHeartbeats 4000000
/-! sorted(set(list)) -/
namespace L2
open PySem PySem.Spec PyProof.Rows
section
variable {X : Cx} {K : PySem.W.Frag}
end
end L2

set_option Elab.async false
set_option linter.all false
set_option maxRecDepth 100000
set_option maxHeartbeats 4000000
/-! Windows side by side. -/
namespace My
open PySem PySem.Spec L2
end My

set_option Elab.async false
set_option linter.all false
set_option maxRecDepth 100000
set_option maxHeartbeats 4000000
/-! Rows alike: last places, next places and plain rows go together. Rows by other names. -/
namespace My
open PySem PySem.Spec L2
end My
namespace L2
open PySem PySem.Spec PyProof.Rows
end L2
namespace My
end My

set_option Elab.async false
set_option linter.all false
set_option maxRecDepth 100000
set_option maxHeartbeats 4000000
/-! First places: their numbers, and those of a row from behind. -/
namespace My
open PySem PySem.Spec L2
theorem range_rev (k : Nat) : (List.range k).reverse = (List.range k).map fun i => k - 1 - i := by
  refine List.ext_getElem (by simp) fun i h1 h2 => ?_
  rw [List.length_reverse, List.length_range] at h1
  simp
end My

set_option Elab.async false
set_option linter.all false
set_option maxRecDepth 100000
set_option maxHeartbeats 4000000
/-! Ends, begins and first places of rows from behind, of other names, within longer rows; != of lists that are alike. -/
namespace My
open PySem PySem.Spec L2
section
variable {a ns c : List Int}
end
end My
namespace L2
open PySem PySem.Spec PyProof.Rows
section
variable {X : Cx}
end
end L2
namespace L2
open PySem PySem.Spec PyProof.Rows
end L2

set_option Elab.async false
set_option linter.all false
set_option maxRecDepth 100000
set_option maxHeartbeats 4000000
/-! sorted of a dict; a list and its copy; partings of any thing. -/
namespace L2
open PySem PySem.Spec PyProof.Rows
section
variable {X : Cx} {K : PySem.W.Frag}
end
end L2
namespace L2
open PySem PySem.Spec PyProof.Rows
section
variable {X : Cx}
end
end L2
namespace My
open PySem PySem.Spec L2
end My
namespace L2
open PySem PySem.Spec PyProof.Rows
end L2
namespace My
open PySem PySem.Spec L2
end My

set_option Elab.async false
set_option linter.all false
set_option maxRecDepth 100000
set_option maxHeartbeats 4000000
/-! Papers of windows, of any things. -/
namespace My
open PySem PySem.Spec L2
/-- a thing whose items, if it is a tuple, are things -/
def ThW (H : Hp) (v : V) : Prop := ThK H v ∧ ∀ a xs, v = .ref a → H a = some (.tup xs) → ∀ x ∈ xs, ThK H x
theorem thk_obj {H H' : Hp} {v : V} {a : Addr} {o : HO} (t : ThK H v) (s : Same H H') (e : v = .ref a) (h : H' a = some o) : H a = some o := by
  subst e
  cases t with
  | lst e => rw [s _ _ e] at h; rw [e, h]
  | tup e => rw [s _ _ e] at h; rw [e, h]
  | dK e => rw [s _ _ e] at h; rw [e, h]
theorem ThW.same {H H' : Hp} {v : V} (t : ThW H v) (s : Same H H') : ThW H' v := ⟨t.1.same s, fun a xs e h x hx => (t.2 a xs e (thk_obj t.1 s e h) x hx).same s⟩
/-- a thing whose items, if it is a list, are such things -/
def ThP (H : Hp) (v : V) : Prop := ThK H v ∧ ∀ a xs, v = .ref a → H a = some (.lst xs) → xs.length ≤ 1000 ∧ ∀ x ∈ xs, ThW H x
theorem ThP.same {H H' : Hp} {v : V} (t : ThP H v) (s : Same H H') : ThP H' v := ⟨t.1.same s, fun a xs e h => by
  obtain ⟨h1, h2⟩ := t.2 a xs e (thk_obj t.1 s e h)
  exact ⟨h1, fun x hx => (h2 x hx).same s⟩⟩
/-- two whole numbers -/
def twoI : List V → Option (Int × Int)
  | [.int x, .int y] => some (x, y)
  | _ => none
def pairI (H : Hp) : V → Option (Int × Int)
  | .ref a => match H a with | some (.tup xs) => twoI xs | _ => none
  | _ => none
theorem pairI_tup {H : Hp} {a : Addr} {xs : List V} (e : H a = some (.tup xs)) : pairI H (.ref a) = twoI xs := by
  show (match H a with | some (.tup xs) => twoI xs | _ => none) = _
  rw [e]
theorem pairI_same {H H' : Hp} {v : V} (t : ThK H v) (s : Same H H') : pairI H' v = pairI H v := by
  cases t with
  | tup e => rw [pairI_tup e, pairI_tup (s _ _ e)]
  | lst e =>
    show (match H' _ with | some (.tup xs) => twoI xs | _ => none) = (match H _ with | some (.tup xs) => twoI xs | _ => none)
    rw [e, s _ _ e]
  | dK e =>
    show (match H' _ with | some (.tup xs) => twoI xs | _ => none) = (match H _ with | some (.tup xs) => twoI xs | _ => none)
    rw [e, s _ _ e]
  | _ => rfl
def winOk (ns : List Int) (m : Nat) (e : Int) (p : Int × Int) : Prop := 0 ≤ p.1 ∧ p.1 ≤ p.2 ∧ p.2 ≤ (ns.length : Int) ∧ e ≤ p.1 ∧ m < cnt ns p.1.toNat p.2.toNat
instance {ns : List Int} {m : Nat} {e : Int} {p : Int × Int} : Decidable (winOk ns m e p) := by unfold winOk; exact inferInstance
end My
namespace My
open PySem PySem.Spec L2
def PrsAt (H : Hp) (ts : List Addr) : Prop := ∀ t ∈ ts, ∃ x y : Int, H t = some (.tup [.int x, .int y])
theorem PrsAt.same {H H' : Hp} {ts : List Addr} (h : PrsAt H ts) (s : Same H H') : PrsAt H' ts := fun t ht => let ⟨x, y, e⟩ := h t ht; ⟨x, y, s _ _ e⟩
theorem dr_not_tup {H : Hp} {d t : Addr} {xs : List V} (h : DrAt H d) (e : H t = some (.tup xs)) : t ≠ d := fun z => by
  obtain ⟨ps, e2, _⟩ := h
  rw [z, e2] at e; cases e
theorem PrsAt.sx {H H' : Hp} {d : Addr} {ts : List Addr} (h : PrsAt H ts) (hd : DrAt H d) (s : SameX d H H') : PrsAt H' ts := fun t ht => let ⟨x, y, e⟩ := h t ht; ⟨x, y, s _ _ (dr_not_tup hd e) e⟩
end My

set_option Elab.async false
set_option linter.all false
set_option maxRecDepth 100000
set_option maxHeartbeats 4000000
/-! Numbers that may be truths: +, -, >, str. -/
namespace L2
open PySem PySem.Spec PyProof.Rows
section
variable {X : Cx}
end
end L2

set_option Elab.async false
set_option linter.all false
set_option maxRecDepth 100000
set_option maxHeartbeats 4000000
/-! Tables with a thing otherwise. -/
namespace L2
open PySem PySem.Spec
end L2
namespace My
open PySem PySem.Spec L2
/-- a thing for a table that stays while the purse changes -/
def ThTp (p : Addr) (H : Hp) (v : V) : Prop := Th p H v ∧ ∀ a xs, v = .ref a → H a = some (.lst xs) → xs.length ≤ 300 ∧ ∀ x ∈ xs, ThH p H x 1000
theorem ThTp.sx {p : Addr} {H H' : Hp} {v : V} (t : ThTp p H v) (s : SameX p H H') : ThTp p H' v := ⟨t.1.sx s, fun a xs e q => by
  obtain ⟨h1, h2⟩ := t.2 a xs e (same_obj t.1.1 (fun o z => s _ _ (fun y => t.1.2 (by rw [e, y])) z) e q)
  exact ⟨h1, fun x hx => (h2 x hx).sx s⟩⟩
theorem ThTp.t {p : Addr} {H : Hp} {v : V} (t : ThTp p H v) : ThT H v := ⟨t.1.1, fun a xs e q => ⟨(t.2 a xs e q).1, fun x hx => ((t.2 a xs e q).2 x hx).d (Nat.le_refl _)⟩⟩
theorem ThTp.lst {p : Addr} {H : Hp} {a : Addr} {xs : List V} (e : H a = some (.lst xs)) (ne : a ≠ p) (hn : xs.length ≤ 300) (hx : ∀ x ∈ xs, ThH p H x 1000) : ThTp p H (.ref a) :=
  ⟨⟨.lst e, fun z => ne (by injection z)⟩, fun b ys z q => by cases z; rw [e] at q; cases q; exact ⟨hn, hx⟩⟩
theorem ThTp.tup {p : Addr} {H : Hp} {a : Addr} {xs : List V} (e : H a = some (.tup xs)) (ne : a ≠ p) : ThTp p H (.ref a) :=
  ⟨⟨.tup e, fun z => ne (by injection z)⟩, fun b ys z q => by cases z; rw [e] at q; cases q⟩
structure LnD (p : Addr) (B : Nat) (H : Hp) (l : Addr) (xs : List V) : Prop where
  ne : l ≠ p
  ob : H l = some (.lst xs)
  pos : 0 < xs.length
  len : xs.length ≤ 450
  th : ∀ x ∈ xs, Th p H x
  bd : ∀ n, V.int n ∈ xs → n.natAbs ≤ B
theorem LnD.sx {p : Addr} {B : Nat} {H H' : Hp} {l : Addr} {xs : List V} (t : LnD p B H l xs) (s : SameX p H H') : LnD p B H' l xs := ⟨t.ne, s _ _ t.ne t.ob, t.pos, t.len, fun x hx => (t.th x hx).sx s, t.bd⟩
theorem LnD.up {p : Addr} {B B' : Nat} {H : Hp} {l : Addr} {xs : List V} (t : LnD p B H l xs) (h : B ≤ B') : LnD p B' H l xs := ⟨t.ne, t.ob, t.pos, t.len, t.th, fun n hn => Nat.le_trans (t.bd n hn) h⟩
theorem LnD.h {p : Addr} {B : Nat} {H : Hp} {l : Addr} {xs : List V} (t : LnD p B H l xs) : ThH p H (.ref l) 1000 := .lst t.ob t.ne (Nat.le_trans t.len (by decide)) t.th
structure TabD (p : Addr) (B : Nat) (H : Hp) (t : Addr) (ts : List Addr) : Prop where
  ne : t ≠ p
  ob : H t = some (.lst (ts.map V.ref))
  pos : 0 < ts.length
  len : ts.length ≤ 300
  ln : ∀ l ∈ ts, ∃ xs, LnD p B H l xs
theorem TabD.sx {p : Addr} {B : Nat} {H H' : Hp} {t : Addr} {ts : List Addr} (d : TabD p B H t ts) (s : SameX p H H') : TabD p B H' t ts := ⟨d.ne, s _ _ d.ne d.ob, d.pos, d.len, fun l hl => let ⟨xs, x⟩ := d.ln l hl; ⟨xs, x.sx s⟩⟩
theorem TabD.th {p : Addr} {B : Nat} {H : Hp} {t : Addr} {ts : List Addr} (d : TabD p B H t ts) : ∀ x ∈ ts.map V.ref, ThH p H x 1000 := fun x hx => by
  obtain ⟨l, hl, rfl⟩ := List.mem_map.mp hx
  obtain ⟨xs, y⟩ := d.ln l hl
  exact y.h
theorem TabD.t {p : Addr} {B : Nat} {H : Hp} {t : Addr} {ts : List Addr} (d : TabD p B H t ts) : ThTp p H (.ref t) := .lst d.ob d.ne (by rw [List.length_map]; exact d.len) d.th
end My

set_option Elab.async false
set_option linter.all false
set_option maxRecDepth 100000
set_option maxHeartbeats 4000000
/-! < of lists of ints, and of tuples of an int and a list of ints. -/

namespace HT
open PySem PySem.Spec PyProof.Rows
open PySem.AutoSeq1 (wpAny_loadPart')
open PySem.MeetsSeq PySem.MeetsSeq2 PySem.MeetsSeq3
end HT

namespace HT
open PySem PySem.Spec PyProof.Rows
open PySem.AutoSeq1 (wpAny_loadPart')
open PySem.MeetsSeq PySem.MeetsSeq2 PySem.MeetsSeq3
def keyLt (a c : Int) (ns ms : List Int) : Bool := if a = c then lexLt ns ms else decide (a < c)
end HT
namespace L2
open PySem PySem.Spec PyProof.Rows
section
variable {X : Cx} {K : PySem.W.Frag}
/-- a tuple of an int and a list of ints -/
def KeyAt (H : Hp) (t : Addr) (a : Int) (ns : List Int) : Prop := ∃ l, H t = some (.tup [.int a, .ref l]) ∧ H l = some (.lst (ns.map V.int))
theorem KeyAt.same {H H' : Hp} {t : Addr} {a : Int} {ns : List Int} (k : KeyAt H t a ns) (s : Same H H') : KeyAt H' t a ns := let ⟨l, e, f⟩ := k; ⟨l, s _ _ e, s _ _ f⟩
theorem KeyAt.td {K : PySem.W.Frag} {H : Hp} {t : Addr} {a : Int} {ns : List Int} (k : KeyAt H t a ns) : TupD K H t [.inl a, .inr ns] := by
  obtain ⟨l, e, f⟩ := k
  refine ⟨_, SqT.of e, rfl, fun i v d h1 h2 => ?_⟩
  match i with
  | 0 => cases h1; cases h2; rfl
  | 1 => cases h1; cases h2; exact ⟨l, rfl, f⟩
  | i + 2 => cases h1
end
end L2

set_option Elab.async false
set_option linter.all false
set_option maxRecDepth 100000
set_option maxHeartbeats 4000000
/-! All partings of a row, and which of them is the first. -/
namespace My
open L2
/-! ### the order -/
open HT (lexLt keyLt lexLt_cons)
end My

set_option Elab.async false
set_option linter.all false
set_option maxRecDepth 100000
set_option maxHeartbeats 4000000
/-! & and | of sets, shares, decks. -/
namespace L2
open PySem PySem.Spec PyProof.Rows
section
variable {X : Cx}
abbrev sO (ks : List Int) : HO := .set (fun k => ks.any (· == k)) ks.length
end
/-! ### windows, shares, decks -/
def DkAt (H : Hp) (d : Addr) (n : Nat) : Prop := ∃ c m : Int, ∃ k : Nat, H d = some (.lst [.int c, .int m, .int (k : Int)]) ∧ k ≤ n
theorem DkAt.same {H H' : Hp} {d : Addr} {n : Nat} (x : DkAt H d n) (s : Same H H') : DkAt H' d n := let ⟨c, m, k, e, r⟩ := x; ⟨c, m, k, s _ _ e, r⟩
theorem DkAt.ne {H : Hp} {d p : Addr} {n : Nat} (x : DkAt H d n) (hp : H p = none) : p ≠ d := fun e => by obtain ⟨c, m, k, q, _⟩ := x; rw [e, q] at hp; cases hp
def spTakeK : Sp := fun vs H Q _ => ∃ (d : Addr) (n m : Nat), vs = [.ref d, .int m] ∧ DkAt H d n ∧ n ≤ 100000 ∧ 1 ≤ m ∧ m ≤ 1000000 ∧ ∀ (r : Nat) (H' : Hp), r < m → DkAt H' d (n + 1) → SameX d H H' → Q (.int (r : Int)) H'
def spDeckK : Sp := fun vs H Q _ => ∃ (c : Int) (k : Nat), vs = [.int c, .int k] ∧ ∀ (d : Addr) (H' : Hp), H d = none → Same H H' → DkAt H' d k → Q (.ref d) H'
def spCellK (K : PySem.W.Frag) : Sp := fun vs H Q _ => ∃ (a : Addr) (ns : List Int) (k : Nat), vs = [.ref a, .int k] ∧ SqL K H a (ns.map V.int) ∧ Q (.int (ns.getD k 0)) H
end L2

set_option Elab.async false
set_option linter.all false
set_option maxRecDepth 100000
set_option maxHeartbeats 4000000
/-! dict(a list of pairs). -/
namespace LiD
open PySem PySem.Calls PyProof.Rows PySem.Spec L2
theorem no_keys : typeLookup (.type "list") "keys" = pure none := by rw [typeLookup_type, builtinLookup_eq_fast]; kernel_rfl
theorem no_hook : typeLookup (.type "list") "__getattr__" = pure none := by rw [typeLookup_type, builtinLookup_eq_fast]; kernel_rfl
theorem entry_ga : entryFor table "list.__getattribute__" = some Builtin.«object.__getattribute__» := entryFor_alias (id' := "object.__getattribute__") (by kernel_rfl) (by decide +kernel) (by decide +kernel) (by kernel_rfl)
theorem meets_miss (a : Addr) (fs : Array Value) (n : Nat) (u : Tok) : Meets (Builtin.«object.__getattribute__» ⟨[.ref a, .str "keys" u], []⟩)
    (fun A R s => s.heap.get? a = some { cls := .type "list", dict := none, data := .seq fs n, slots := #[] } ∧ raisesAttr (.ref a) "keys" A R s) :=
  Meets.of_wp fun prog w A R s hs => by
    have hmiss := no_keys
    obtain ⟨hp, g, d, tk, os⟩ := s
    obtain ⟨hx, hs⟩ := hs
    have hT : (⟨hp, g, d, tk, os⟩ : Shared).TypeIs (.ref a) "list" := ⟨_, hx, rfl⟩
    unfold Builtin.«object.__getattribute__»; repeat (any_goals (first | assumption | wp_step))
    exact wpAny_raiseAttrError hs.1 hs.2 (attrMsg_fits (by decide +kernel) (by size_fits))
section
variable {prog : Program} {w : World} {A : Around} {E : Value → Shared → Prop} {s : Shared}
theorem miss {a : Addr} {fs : Array Value} {n : Nat} {Q : Option Value → Shared → Prop} (hx : s.heap.get? a = some { cls := .type "list", dict := none, data := .seq fs n, slots := #[] }) (hA : A.handled = none)
    (h : ∀ h' tk, (∀ b o, s.heap.get? b = some o → h'.get? b = some o) → Q none { s with heap := h', toks := tk }) : wpAny (model prog w) A (getAttr? (.ref a) "keys") Q E s := by
  obtain ⟨hp, g, d, tk, os⟩ := s
  have hT : ∀ tk', (⟨hp, g, d, tk', os⟩ : Shared).TypeIs (.ref a) "list" := fun _ => ⟨_, hx, rfl⟩
  have f1 := sub_AttributeError
  have f3 := F.slot_list_getattribute.lookup
  have f4 := F.slot_list_getattribute.bind (.ref a)
  have f5 := no_hook
  unfold getAttr? getAttrBy? getAttrBy
  repeat (any_goals (first | assumption | exact hT _ | ((with_reducible show wpAny _ _ (PySem.call (Value.builtin "list.__getattribute__") _ _) _ _ _); refine call_meets F.slot_list_getattribute (hT _) entry_ga (F.args_list_getattribute_2 _ _) (meets_miss a fs _ _) ⟨hx, hA, fun h' tk' e hx' => ?_⟩) | wp_step))
  obtain ⟨t', u', he⟩ := hx'.there; show wpAny _ _ (getattributeRaised _ _ _ _ _ _ _) _ _ _; unfold getattributeRaised
  repeat (any_goals (first | assumption | wp_step))
  exact h _ _ hx'.of.keeps
/-- the pairs of a list, each a tuple of its own -/
def Prs (h : Heap) (items : Array Value) (ps : List (Int × Value)) : Prop := items.size = ps.length ∧ ∀ (i : Nat) (p : Int × Value), ps[i]? = some p → ∃ (t : Addr) (u : Tok) (o : Obj) (n : Nat), items[i]? = some (.ref t) ∧ h.get? t = some o ∧ o.cls = .type "tuple" ∧ o.data = .seq #[.int p.1 u, p.2] n
def foldS (ps : List (Int × Value)) : List (Key × Value) := ps.foldl (fun acc p => stored acc (Sum.inl p.1) p.2) []
theorem foldS_snoc (ps : List (Int × Value)) (p : Int × Value) : foldS (ps ++ [p]) = stored (foldS ps) (Sum.inl p.1) p.2 := by unfold foldS; rw [List.foldl_append]; rfl
theorem foldS_len : ∀ ps : List (Int × Value), (foldS ps).length ≤ ps.length := fun ps => by
  have : ∀ (n : Nat), n ≤ ps.length → (foldS (ps.take n)).length ≤ n := fun n => by
    induction n with
    | zero => intro _; exact Nat.le_refl _
    | succ n ih =>
      intro h
      have hn : n < ps.length := by omega
      rw [List.take_add_one, List.getElem?_eq_getElem hn]
      show (foldS (ps.take n ++ [ps[n]])).length ≤ _
      rw [foldS_snoc]
      have := ih (by omega)
      exact Nat.le_trans (stored_length_le _ _ _) (by omega)
  have h := this ps.length (Nat.le_refl _)
  rw [List.take_length] at h
  exact h
theorem loop {R : Result → Shared → Prop} {items : Array Value} {d it l : Addr} {ps : List (Int × Value)} (hh : A.handled = none) (hdi : d ≠ it) (hld : l ≠ d) (hli : l ≠ it) (hn : items.size ≤ sizeLine) {h0 : Heap} (hp0 : Prs h0 items ps) (hpd : ∀ (i : Nat) (t : Addr), items[i]? = some (.ref t) → t ≠ d ∧ t ≠ it)
    (hR : ∀ h' tk, (∀ b o, b ≠ d → b ≠ it → h0.get? b = some o → h'.get? b = some o) → h'.DictOf (mixKind prog w) d (foldS ps) → R (.ok (.ret .none)) { s with heap := h', toks := tk }) :
    ∀ (k i : Nat) (h : Heap) (tk : Nat), items.size - i = k → i ≤ items.size → h.IsListIter it l i → h.IsList l items → (∀ b o, b ≠ d → b ≠ it → h0.get? b = some o → h.get? b = some o) →
      h.DictOf (mixKind prog w) d (foldS (ps.take i)) →
      codeAny (model prog w) A (.builtin "dict.update.loop" ⟨[.ref d, .ref it, rawInt (i : Int), .none], []⟩) R { s with heap := h, toks := tk } := by
  intro k
  induction k with
  | zero =>
    intro i h tk hk hi hit hl hkeep hd
    refine codeAny_builtin EnD.entry_loop ?_; rw [Around.under_plainId EnD.plain_loop _]
    show wpAny _ A.in1 (pyNext (.ref it) >>= _) _ _ _
    refine wpAny_bind (wpAny_pyNext_list_end (s := { s with heap := h, toks := tk }) (A := A.in1) hh hit hl (Array.getElem?_eq_none (by omega)) fun h' he => ?_)
    refine wpAny_bind (wpAny_pure ?_)
    rw [List.take_of_length_le (by rw [← hp0.1]; omega)] at hd
    exact wpAny_pure (hR h' tk (fun b o h1 h3 q => he b o h3 (hkeep b o h1 h3 q)) (hd.extBut he hdi))
  | succ k ih =>
    intro i h tk hk hi hit hl hkeep hd
    have hlt : i < items.size := by omega
    have hlp : i < ps.length := by rw [← hp0.1]; exact hlt
    obtain ⟨t, u, o, n, hx, ht0, hoc, hod⟩ := hp0.2 i ps[i] (List.getElem?_eq_getElem hlp)
    obtain ⟨ntd, nti⟩ := hpd i t hx
    refine codeAny_builtin EnD.entry_loop ?_; rw [Around.under_plainId EnD.plain_loop _]
    show wpAny _ A.in1 (pyNext (.ref it) >>= _) _ _ _
    refine wpAny_bind (wpAny_pyNext_list_item (s := { s with heap := h, toks := tk }) hit hl hx fun h' hit' sb => ?_)
    dsimp only at hit' sb ⊢
    have kp : ∀ b o, b ≠ it → h.get? b = some o → h'.get? b = some o := fun b o hb q => (sb.2 b hb).trans q
    have ht : h'.get? t = some o := kp t _ nti (hkeep t _ ntd nti ht0)
    have hd' : h'.DictOf (mixKind prog w) d (foldS (ps.take i)) := by obtain ⟨o, es, ep, ho, r⟩ := hd; exact ⟨o, es, ep, kp d o hdi ho, r⟩
    refine wpAny_bind (wpAny_holding ?_)
    have hTt : (⟨h', s.gens, s.drawn, tk, s.os⟩ : Shared).TypeIs (.ref t) "tuple" := ⟨_, ht, hoc⟩
    refine wpAny_bind (wpAny_tryCatch ?_)
    unfold Builtin.Dict.pairItems
    refine wpAny_bind (wpAny_typeOf hTt ?_)
    rw [if_pos (by decide)]
    refine wpAny_bind ?_
    unfold seqItems?
    refine wpAny_bind (wpAny_load ht ?_)
    rw [hod]
    refine wpAny_pure (wpAny_pure ?_)
    show wpAny _ A.in1 (holding [.int ps[i].1 u, ps[i].2] (dictSet d (.int ps[i].1 u) ps[i].2)) _ _ _
    have hfl := foldS_len (ps.take i)
    rw [List.length_take] at hfl
    refine wpAny_holding (wpAny_dictSet_pairs (mixKind_int prog w ps[i].1 u) hd' (fun h2 hd2 hs2 => ?_) (by omega))
    have up : ∀ b o, b ≠ d → h'.get? b = some o → h2.get? b = some o := fun b o hb q => hs2.extBut b o hb q
    refine wpAny_pure ⟨plainId_quiet EnD.plain_loop _, ih (i + 1) h2 _ (by omega) hlt (hit'.at fun o q => up it o (Ne.symm hdi) q) (hl.at fun o q => up l o hld (kp l o hli q)) (fun b o h1 h3 q => up b o h1 (kp b o h3 (hkeep b o h1 h3 q))) ?_⟩
    rw [List.take_add_one, List.getElem?_eq_getElem hlp]
    show h2.DictOf _ d (foldS (ps.take i ++ [ps[i]]))
    rw [foldS_snoc]
    exact hd2
theorem call {items : Array Value} {l : Addr} {n : Nat} {ps : List (Int × Value)} {Q : Value → Shared → Prop} (hh : A.handled = none) (hl : s.heap.get? l = some { cls := .type "list", data := .seq items n }) (hn : items.size ≤ sizeLine) (hp : Prs s.heap items ps)
    (hQ : ∀ h' tk, (∀ b o, s.heap.get? b = some o → h'.get? b = some o) → h'.DictOf (mixKind prog w) s.heap.objs.size (foldS ps) → Q (.ref s.heap.objs.size) { s with heap := h', toks := tk }) :
    wpAny (model prog w) A (PySem.call (.type "dict") [.ref l]) Q E s := by
  have ll : l < s.heap.objs.size := Heap.lt_size hl
  have hlt : ∀ (i : Nat) (t : Addr), items[i]? = some (.ref t) → t < s.heap.objs.size := fun i t h => by
    have hi : i < ps.length := by rw [← hp.1]; exact (Array.getElem?_eq_some_iff.mp h).1
    obtain ⟨t', _, _, _, e, ho, _⟩ := hp.2 i ps[i] (List.getElem?_eq_getElem hi)
    rw [h] at e
    injection e with e
    injection e with e
    rw [e]; exact Heap.lt_size ho
  refine callType_codes (Q₁ := fun obj s₁ => obj = .ref s.heap.objs.size ∧ s₁ = { s with heap := s.heap.push { cls := .type "dict", data := .dict #[] } }) F.kt_called_dict (F.kt_typeCall_dict_1 _) F.entry_dict_init (kt_code_dict_new _ ⟨rfl, rfl⟩) ?_
  rintro obj s₁ ⟨rfl, rfl⟩
  have hnew : (s.heap.push { cls := .type "dict", data := .dict #[] }).DictOf (mixKind prog w) s.heap.objs.size [] := Heap.DictOf.new s.heap
  refine ⟨hnew.typeIs, F.args_dict_init_2 _ _, ?_⟩
  have oth : ∀ b o, s.heap.get? b = some o → (s.heap.push { cls := .type "dict", data := .dict #[] }).get? b = some o := fun b o q => Heap.get?_push_of_some _ q
  have he1 := oth l _ hl
  have hT1 : ({ s with heap := s.heap.push { cls := .type "dict", data := .dict #[] } } : Shared).TypeIs (.ref l) "list" := ⟨_, he1, rfl⟩
  unfold Builtin.«dict.__init__»
  refine wpAny_bind ?_
  unfold Builtin.Dict.selfAndRest
  refine wpAny_bind (wpAny_notOrdered_dict hnew.typeIs ?_)
  show wpAny _ _ (pure (s.heap.objs.size, [Value.ref l])) _ _ _
  refine wpAny_pure ?_
  show wpAny _ _ (Builtin.Dict.updateFrom "dict.__init__" s.heap.objs.size (.ref l) [] .none) _ _ _
  unfold Builtin.Dict.updateFrom
  refine wpAny_bind (wpAny_typeOf hT1 ?_)
  rw [if_pos (by decide)]
  refine wpAny_bind (miss he1 hh fun h2 tk2 k2 => ?_)
  rw [if_pos (show (none : Option Value).isNone = true from rfl)]
  refine wpAny_bind (wpAny_rule ?_)
  have hl2 : h2.IsList l items := ⟨_, k2 l _ he1, rfl, n, rfl⟩
  refine wpAny_bind (wpAny_pyIter_list (s := { s with heap := h2, toks := tk2 }) hl2 ?_)
  have k3 : ∀ b o, h2.get? b = some o → (h2.push { cls := .type "list_iterator", data := .fields #[.ref l, .int 0 0] }).get? b = some o := fun b o q => Heap.get?_push_of_some _ q
  have kk : ∀ b o, s.heap.get? b = some o → (h2.push { cls := .type "list_iterator", data := .fields #[.ref l, .int 0 0] }).get? b = some o := fun b o q => k3 _ _ (k2 b o (oth b o q))
  have sz : s.heap.objs.size < h2.objs.size := by obtain ⟨o, _, _, ho, _⟩ := hnew; exact Heap.lt_size (k2 _ o ho)
  have dk3 : (h2.push { cls := .type "list_iterator", data := .fields #[.ref l, .int 0 0] }).DictOf (mixKind prog w) s.heap.objs.size [] := by obtain ⟨o, es, ep, ho, r⟩ := hnew; exact ⟨o, es, ep, k3 _ _ (k2 _ o ho), r⟩
  have hit : (h2.push { cls := .type "list_iterator", data := .fields #[.ref l, .int 0 0] }).IsListIter h2.objs.size l 0 := ⟨_, Heap.get?_push_size _ rfl, rfl, rfl⟩
  refine wpAny_pure ⟨plainId_quiet EnD.plain_loop _, ?_⟩
  refine loop (A := A.in1) (s := { s with heap := h2, toks := tk2 }) (items := items) (d := s.heap.objs.size) (it := h2.objs.size) (l := l) (h0 := h2.push { cls := .type "list_iterator", data := .fields #[.ref l, .int 0 0] }) (ps := ps) hh (Nat.ne_of_lt sz) (Nat.ne_of_lt ll) (Nat.ne_of_lt (Nat.lt_trans ll sz)) hn ⟨hp.1, fun i p h => ?_⟩ (fun i t h => ⟨Nat.ne_of_lt (hlt i t h), Nat.ne_of_lt (Nat.lt_trans (hlt i t h) sz)⟩) (fun h' tk hk hd => ?_) items.size 0 _ tk2 (Nat.sub_zero _) (Nat.zero_le _)
    hit (hl2.at fun o q => k3 l o q) (fun b o _ _ q => q) dk3
  · obtain ⟨t, u, o, m, h1, h2', h3, h4⟩ := hp.2 i p h
    exact ⟨t, u, o, m, h1, kk _ _ h2', h3, h4⟩
  · exact ⟨rfl, hQ h' tk (fun b o q => hk b o (Nat.ne_of_lt (Heap.lt_size q)) (Nat.ne_of_lt (Nat.lt_trans (Heap.lt_size q) sz)) (kk b o q)) hd⟩
end
end LiD
namespace L2
open PySem PySem.Spec PyProof.Rows
def PrsV (H : Hp) (ts : List Addr) (ps : List (Int × V)) : Prop := ts.length = ps.length ∧ ∀ (i : Nat) (t : Addr) (p : Int × V), ts[i]? = some t → ps[i]? = some p → H t = some (.tup [.int p.1, p.2])
theorem PrsV.same {H H' : Hp} {ts : List Addr} {ps : List (Int × V)} (x : PrsV H ts ps) (s : Same H H') : PrsV H' ts ps := ⟨x.1, fun i t p h1 h2 => s _ _ (x.2 i t p h1 h2)⟩
section
variable {X : Cx}
end
end L2

set_option Elab.async false
set_option linter.all false
set_option maxRecDepth 100000
set_option maxHeartbeats 4000000
/-! The two windows that are most alike. -/
namespace L2
open PySem PySem.Spec PyProof.Rows
def TrAt (H : Hp) (t : Addr) (a b : Int) (xs : List Int) : Prop := ∃ p, H t = some (.tup [.int a, .int b, .ref p]) ∧ H p = some (.tup (xs.map V.int))
theorem TrAt.same {H H' : Hp} {t : Addr} {a b : Int} {xs : List Int} (x : TrAt H t a b xs) (s : Same H H') : TrAt H' t a b xs := let ⟨p, e, f⟩ := x; ⟨p, s _ _ e, s _ _ f⟩
section
variable {X : Cx}
end
end L2
namespace My
open L2
end My

set_option Elab.async false
set_option linter.all false
set_option maxRecDepth 100000
set_option maxHeartbeats 4000000
/-! Windows that hold needs. -/
namespace My
open L2
def occ (ns : List Int) (f b : Nat) (x : Int) : Int := (((win ns f b).count x : Nat) : Int)
def posK (keys : List Int) (g : Int → Int) : Nat := (keys.filter fun x => decide (0 < g x)).length
def Hold (keys : List Int) (need : Int → Int) (ns : List Int) (f b : Nat) : Prop := ∀ x ∈ keys, need x ≤ occ ns f b x
theorem win_front {ns : List Int} {f b : Nat} (h : f < b) (hb : b ≤ ns.length) : win ns f b = ns.getD f 0 :: win ns (f + 1) b := by
  unfold win
  have hf : f < ns.length := by omega
  rw [List.drop_eq_getElem_cons hf, show b - f = (b - (f + 1)) + 1 by omega, List.take_succ_cons, List.getD_eq_getElem?_getD, List.getElem?_eq_getElem hf]
  rfl
theorem occ_snoc {ns : List Int} {f b : Nat} (h : f ≤ b) (hb : b < ns.length) (x : Int) : occ ns f (b + 1) x = occ ns f b x + if x = ns.getD b 0 then 1 else 0 := by
  unfold occ
  rw [win_snoc h hb, List.count_append]
  by_cases e : x = ns.getD b 0
  · rw [if_pos e, e, List.count_singleton_self]; omega
  · rw [if_neg e, List.count_singleton, if_neg (by simpa using fun z => e z.symm)]; omega
theorem occ_front {ns : List Int} {f b : Nat} (h : f < b) (hb : b ≤ ns.length) (x : Int) : occ ns f b x = occ ns (f + 1) b x + if x = ns.getD f 0 then 1 else 0 := by
  unfold occ
  rw [win_front h hb, List.count_cons]
  by_cases e : x = ns.getD f 0
  · rw [if_pos e, if_pos (by simpa using e.symm)]; omega
  · rw [if_neg e, if_neg (by simpa using fun z => e z.symm)]; omega
theorem occ_self (ns : List Int) (f : Nat) (x : Int) : occ ns f f x = 0 := by unfold occ; rw [win_self]; rfl
theorem occ_up {ns : List Int} {f : Nat} (x : Int) : ∀ {b : Nat} (k : Nat), f ≤ b → b + k ≤ ns.length → occ ns f b x ≤ occ ns f (b + k) x
  | b, 0, _, _ => Int.le_refl _
  | b, k + 1, h, hk => by
    have := occ_up (ns := ns) (f := f) x (b := b) k h (by omega)
    have h2 := occ_snoc (ns := ns) (f := f) (b := b + k) (by omega) (by omega) x
    rw [show b + (k + 1) = b + k + 1 by omega, h2]
    split <;> omega
theorem occ_dn {ns : List Int} {b : Nat} (x : Int) (hb : b ≤ ns.length) : ∀ {f : Nat} (k : Nat), f + k ≤ b → occ ns (f + k) b x ≤ occ ns f b x
  | f, 0, _ => Int.le_refl _
  | f, k + 1, h => by
    have := occ_dn (ns := ns) (b := b) x hb (f := f) k (by omega)
    have h2 := occ_front (ns := ns) (f := f + k) (b := b) (by omega) hb x
    rw [show f + (k + 1) = f + k + 1 by omega]
    have : 0 ≤ (if x = ns.getD (f + k) 0 then (1 : Int) else 0) := by split <;> decide
    omega
theorem Hold.wider {keys : List Int} {need : Int → Int} {ns : List Int} {f b f' b' : Nat} (h : Hold keys need ns f b) (h1 : f' ≤ f) (h2 : f ≤ b) (h3 : b ≤ b') (h4 : b' ≤ ns.length) : Hold keys need ns f' b' := fun x hx => by
  have a1 := h x hx
  obtain ⟨k, rfl⟩ : ∃ k, b' = b + k := ⟨b' - b, by omega⟩
  obtain ⟨j, rfl⟩ : ∃ j, f = f' + j := ⟨f - f', by omega⟩
  have a2 := occ_up (ns := ns) (f := f' + j) x (b := b) k h2 h4
  have a3 := occ_dn (ns := ns) (b := b + k) x h4 (f := f') j (by omega)
  omega
theorem hold_none {keys : List Int} {need : Int → Int} {ns : List Int} {f : Nat} (hk : keys ≠ []) (hn : ∀ x ∈ keys, 1 ≤ need x) : ¬ Hold keys need ns f f := fun h => by
  obtain ⟨x, hx⟩ := List.exists_mem_of_ne_nil _ hk
  have := h x hx
  have := hn x hx
  rw [occ_self] at *
  omega
def Tight (keys : List Int) (need : Int → Int) (ns : List Int) (f b : Nat) : Prop := f < b ∧ b ≤ ns.length ∧ Hold keys need ns f b ∧ ¬ Hold keys need ns (f + 1) b ∧ ¬ Hold keys need ns f (b - 1)
def Rise (ws : List (Nat × Nat)) : Prop := ws.Pairwise fun p q => p.1 < q.1 ∧ p.2 < q.2
structure TInv (keys : List Int) (need : Int → Int) (ns : List Int) (i F : Nat) (ws : List (Nat × Nat)) : Prop where
  le : F ≤ i
  no : ¬ Hold keys need ns F i
  bk : F = 0 ∨ Hold keys need ns (F - 1) i
  mem : ∀ f b, (f, b) ∈ ws ↔ b ≤ i ∧ Tight keys need ns f b
  up : Rise ws
  lt : ∀ p ∈ ws, p.1 < F ∧ p.2 ≤ i
theorem TInv.zero {keys : List Int} {need : Int → Int} {ns : List Int} (hk : keys ≠ []) (hn : ∀ x ∈ keys, 1 ≤ need x) : TInv keys need ns 0 0 [] := by
  refine ⟨Nat.le_refl _, hold_none hk hn, .inl rfl, fun f b => ⟨fun h => (by cases h), fun h => ?_⟩, List.Pairwise.nil, fun p h => (by cases h)⟩
  have := h.2.1
  omega
theorem TInv.take {keys : List Int} {need : Int → Int} {ns : List Int} {i F F' : Nat} {ws : List (Nat × Nat)} (t : TInv keys need ns i F ws) (hi : i < ns.length) (h1 : F < F') (h2 : F' ≤ i + 1) (h3 : Hold keys need ns (F' - 1) (i + 1)) (h4 : ¬ Hold keys need ns F' (i + 1)) :
    TInv keys need ns (i + 1) F' (ws ++ [(F' - 1, i + 1)]) := by
  refine ⟨h2, h4, .inr h3, fun f b => ?_, ?_, fun p h => ?_⟩
  · rw [List.mem_append, t.mem, List.mem_singleton]
    constructor
    · rintro (h | h)
      · exact ⟨by omega, h.2⟩
      · injection h with e1 e2
        subst e1 e2
        refine ⟨Nat.le_refl _, by omega, hi, h3, by rw [Nat.sub_add_cancel (by omega)]; exact h4, fun h => t.no ?_⟩
        exact h.wider (by omega) (by simp; omega) (by simp) (by omega)
    · rintro ⟨hb, hT⟩
      by_cases e : b = i + 1
      · refine .inr ?_
        subst e
        obtain ⟨a1, a2, a3, a4, a5⟩ := hT
        have : f = F' - 1 := by
          have u1 : f < F' := by
            rcases Nat.lt_or_ge f F' with z | z
            · exact z
            · exact absurd (a3.wider z (by omega) (Nat.le_refl _) hi) h4
          have u2 : F' - 1 ≤ f := by
            rcases Nat.lt_or_ge f (F' - 1) with z | z
            · exact absurd (h3.wider (show f + 1 ≤ F' - 1 by omega) (by omega) (Nat.le_refl _) hi) a4
            · exact z
          omega
        rw [this]
      · exact .inl ⟨by omega, hT⟩
  · refine List.pairwise_append.mpr ⟨t.up, by simp, fun p hp q hq => ?_⟩
    rw [List.mem_singleton.mp hq]
    have := t.lt p hp
    exact ⟨by show p.1 < F' - 1; omega, by show p.2 < i + 1; omega⟩
  · rcases List.mem_append.mp h with h | h
    · have := t.lt p h; exact ⟨by omega, by omega⟩
    · rw [List.mem_singleton.mp h]
      exact ⟨by show F' - 1 < F'; omega, Nat.le_refl _⟩
end My

set_option Elab.async false
set_option linter.all false
set_option maxRecDepth 100000
set_option maxHeartbeats 4000000
/-! Held: what is lacking yet. -/
namespace L2
open PySem PySem.Spec PyProof.Rows
def kvK (keys : List Int) (g : Int → Int) : List (Key × V) := keys.map fun x => ((Sum.inl x : Key), V.int (g x))
theorem kvK_congr {keys : List Int} {g g' : Int → Int} (h : ∀ x ∈ keys, g x = g' x) : kvK keys g = kvK keys g' := List.map_congr_left fun x hx => by rw [h x hx]
theorem kvK_put {keys : List Int} {g : Int → Int} {x v : Int} (h : x ∈ keys) : putK (kvK keys g) (Sum.inl x) (.int v) = kvK keys fun y => if y = x then v else g y := by
  unfold putK
  have : ((kvK keys g).any fun kv => decide (kv.1 = (Sum.inl x : Key))) = true := List.any_eq_true.mpr ⟨(Sum.inl x, .int (g x)), List.mem_map.mpr ⟨x, h, rfl⟩, decide_eq_true rfl⟩
  rw [if_pos this]
  unfold kvK
  rw [List.map_map]
  refine List.map_congr_left fun y _ => ?_
  show (if (Sum.inl y : Key) = Sum.inl x then ((Sum.inl y : Key), V.int v) else (Sum.inl y, V.int (g y))) = (Sum.inl y, V.int (if y = x then v else g y))
  by_cases e : y = x
  · rw [if_pos (by rw [e]), if_pos e]
  · rw [if_neg (fun z => e (by injection z)), if_neg e]
theorem pos_congr {keys : List Int} {g g' : Int → Int} (h : ∀ x ∈ keys, g x = g' x) : My.posK keys g = My.posK keys g' := by
  unfold My.posK
  rw [List.filter_congr fun x hx => by rw [h x hx]]
structure HdTxt (K : PySem.W.Frag) (D : Addr) : Prop where
  cl : Cls K D
  nL : NoAttr K D "lacking"
  nU : NoAttr K D "unmet"
def HdAt (D : Addr) (H : Hp) (p d : Addr) (keys : List Int) (g : Int → Int) : Prop := ∃ dx, H p = some (.ins D dx [("lacking", .ref d), ("unmet", .int (My.posK keys g : Nat))]) ∧ H d = some (.dK (kvK keys g))
theorem HdAt.same {D : Addr} {H H' : Hp} {p d : Addr} {keys : List Int} {g : Int → Int} (x : HdAt D H p d keys g) (s : Same H H') : HdAt D H' p d keys g := let ⟨dx, a, b⟩ := x; ⟨dx, s _ _ a, s _ _ b⟩
theorem HdAt.ne {D : Addr} {H : Hp} {p d : Addr} {keys : List Int} {g : Int → Int} (x : HdAt D H p d keys g) : p ≠ d := fun e => by
  obtain ⟨dx, a, b⟩ := x
  rw [e, b] at a; cases a
theorem HdAt.congr {D : Addr} {H : Hp} {p d : Addr} {keys : List Int} {g g' : Int → Int} (x : HdAt D H p d keys g) (h : ∀ y ∈ keys, g y = g' y) : HdAt D H p d keys g' := by
  obtain ⟨dx, a, b⟩ := x
  exact ⟨dx, by rw [a, pos_congr h], by rw [b, kvK_congr h]⟩
def NdAt (H : Hp) (l : Addr) (keys : List Int) (need : Int → Int) : Prop := ∃ ts, H l = some (.lst (ts.map V.ref)) ∧ TupsAt H ts (keys.map fun x => [x, need x])
theorem NdAt.same {H H' : Hp} {l : Addr} {keys : List Int} {need : Int → Int} (x : NdAt H l keys need) (s : Same H H') : NdAt H' l keys need := let ⟨ts, a, b⟩ := x; ⟨ts, s _ _ a, b.same s⟩
section
variable {X : Cx} {K : PySem.W.Frag} {o value : Expr} {ta tv : TE} {f : Str} {tpos pos : Pos}
end
end L2

set_option Elab.async false
set_option linter.all false
set_option maxRecDepth 100000
set_option maxHeartbeats 4000000
/-! A dict held against {}. -/
namespace L2
open PySem PySem.Spec PyProof.Rows
section
variable {X : Cx}
end
end L2
/-! ### a walk over a dict: it is frozen meanwhile -/
namespace L2
open PySem PySem.Spec PyProof.Rows
section
variable {X : Cx} {tg : Expr}
end
end L2

set_option Elab.async false
set_option linter.all false
set_option maxRecDepth 100000
set_option maxHeartbeats 4000000
/-! Needs: counts, what is left, ends. -/
namespace L2
open PySem PySem.Spec PyProof.Rows
theorem kvK_mem {keys : List Int} {g : Int → Int} {x : Int} : ((kvK keys g).any fun kv => decide (kv.1 = (Sum.inl x : Key))) = true ↔ x ∈ keys := by
  rw [List.any_eq_true]
  constructor
  · rintro ⟨kv, h, e⟩
    obtain ⟨y, hy, rfl⟩ := List.mem_map.mp h
    have := of_decide_eq_true e
    injection this with e
    exact e ▸ hy
  · intro h
    exact ⟨(Sum.inl x, .int (g x)), List.mem_map.mpr ⟨x, h, rfl⟩, decide_eq_true rfl⟩
theorem kvK_new {keys : List Int} {g : Int → Int} {x v : Int} (h : x ∉ keys) : putK (kvK keys g) (Sum.inl x) (.int v) = kvK (keys ++ [x]) fun y => if y = x then v else g y := by
  unfold putK
  rw [if_neg fun z => h (kvK_mem.mp z)]
  unfold kvK
  rw [List.map_append]
  congr 1
  · refine List.map_congr_left fun y hy => ?_
    show (Sum.inl y, V.int (g y)) = (Sum.inl y, V.int (if y = x then v else g y))
    rw [if_neg (fun z : y = x => h (z ▸ hy))]
  · simp
/-- how often each stands -/
def cntI (ns : List Int) (x : Int) : Int := ((ns.count x : Nat) : Int)
def CntK (H : Hp) (d : Addr) (ns keys : List Int) : Prop := H d = some (.dK (kvK keys (cntI ns))) ∧ keys.Nodup ∧ (∀ y, y ∈ keys ↔ y ∈ ns) ∧ keys.length ≤ ns.length
def CntAt (H : Hp) (d : Addr) (ns : List Int) : Prop := ∃ keys, CntK H d ns keys
theorem cnt_snoc (ns : List Int) (x y : Int) : cntI (ns ++ [x]) y = if y = x then cntI ns x + 1 else cntI ns y := by
  unfold cntI
  rw [List.count_append]
  by_cases e : y = x
  · rw [if_pos e, e, List.count_singleton_self]; omega
  · rw [if_neg e, List.count_singleton, if_neg (by simpa using fun z => e z.symm)]; omega
theorem CntK.put {H : Hp} {d : Addr} {ns keys : List Int} (c : CntK H d ns keys) (x : Int) : CntAt (upd H d (.dK (putK (kvK keys (cntI ns)) (Sum.inl x) (.int (cntI ns x + 1))))) d (ns ++ [x]) := by
  obtain ⟨e, nd, hm, hl⟩ := c
  by_cases hx : x ∈ keys
  · rw [kvK_put hx]
    refine ⟨keys, by rw [upd_same]; exact congrArg (fun k => some (HO.dK k)) (kvK_congr fun y _ => (cnt_snoc ns x y).symm), nd, fun y => ?_, by rw [List.length_append]; omega⟩
    rw [List.mem_append, List.mem_singleton, hm y]
    exact ⟨.inl, fun z => z.elim id fun e => e ▸ (hm x).mp hx⟩
  · rw [kvK_new hx]
    refine ⟨keys ++ [x], by rw [upd_same]; exact congrArg (fun k => some (HO.dK k)) (kvK_congr fun y _ => (cnt_snoc ns x y).symm), ?_, fun y => ?_, by rw [List.length_append, List.length_append]; omega⟩
    · refine List.nodup_append.mpr ⟨nd, by simp, fun a ha b hb => ?_⟩
      rw [List.mem_singleton.mp hb]
      exact fun z => hx (z ▸ ha)
    · rw [List.mem_append, List.mem_append, hm y]
end L2
namespace My
open L2
def EndAt (keys : List Int) (need : Int → Int) (ns : List Int) (f b : Nat) : Prop := f ≤ b ∧ b ≤ ns.length ∧ Hold keys need ns f b ∧ ∀ c, f ≤ c → c < b → ¬ Hold keys need ns f c
structure Due (keys : List Int) (need : Int → Int) (ns : List Int) (i : Nat) (ws : List (Nat × Nat)) : Prop where
  mem : ∀ f b, (f, b) ∈ ws ↔ f < i ∧ EndAt keys need ns f b ∧ (f = b ∨ ¬ Hold keys need ns (f + 1) b)
  up : ws.Pairwise fun p q => p.1 < q.1
theorem Due.zero (keys : List Int) (need : Int → Int) (ns : List Int) : Due keys need ns 0 [] := ⟨fun f b => ⟨fun h => (by cases h), fun h => (by omega)⟩, List.Pairwise.nil⟩
theorem endAt_one {keys : List Int} {need : Int → Int} {ns : List Int} {f b c : Nat} (h : EndAt keys need ns f b) (h' : EndAt keys need ns f c) : b = c := by
  rcases Nat.lt_trichotomy b c with z | z | z
  · exact absurd h.2.2.1 (h'.2.2.2 b h.1 z)
  · exact z
  · exact absurd h'.2.2.1 (h.2.2.2 c h'.1 z)
theorem Due.take {keys : List Int} {need : Int → Int} {ns : List Int} {i b : Nat} {ws : List (Nat × Nat)} (d : Due keys need ns i ws) (h : EndAt keys need ns i b) (h2 : i = b ∨ ¬ Hold keys need ns (i + 1) b) : Due keys need ns (i + 1) (ws ++ [(i, b)]) := by
  refine ⟨fun f c => ?_, List.pairwise_append.mpr ⟨d.up, by simp, fun p hp q hq => ?_⟩⟩
  · rw [List.mem_append, d.mem, List.mem_singleton]
    constructor
    · rintro (z | z)
      · exact ⟨by omega, z.2⟩
      · injection z with e1 e2
        subst e1 e2
        exact ⟨by omega, h, h2⟩
    · rintro ⟨z1, z2, z3⟩
      rcases Nat.lt_or_ge f i with y | y
      · exact .inl ⟨y, z2, z3⟩
      · have : f = i := by omega
        subst this
        exact .inr (by rw [endAt_one z2 h])
  · rw [List.mem_singleton.mp hq]
    exact ((d.mem p.1 p.2).mp hp).1
end My
namespace L2
open PySem PySem.Spec PyProof.Rows
end L2
namespace L2
open PySem PySem.Spec PyProof.Rows
section
variable {X : Cx} {K : PySem.W.Frag} {pins : List (Addr × Obj)} {σ : St} {H : Hp} {s : Shared}
end
end L2

set_option Elab.async false
set_option linter.all false
set_option maxRecDepth 100000
set_option maxHeartbeats 4000000
/-! The numbers of needs, taken apart. -/
namespace L2
open PySem PySem.Spec PyProof.Rows
end L2
namespace L2
open PySem PySem.Spec PyProof.Rows
theorem NdAt.sx {H H' : Hp} {p l : Addr} {keys : List Int} {need : Int → Int} (x : NdAt H l keys need) (hp : DrAt H p) (n : l ≠ p) (s : SameX p H H') : NdAt H' l keys need := by
  obtain ⟨ts, e, h⟩ := x
  obtain ⟨ps, ep, _⟩ := hp
  exact ⟨ts, s _ _ n e, h.1, fun i t xs h1 h2 => s _ _ (fun z => by have := h.2 i t xs h1 h2; rw [z, ep] at this; cases this) (h.2 i t xs h1 h2)⟩
end L2

set_option Elab.async false
set_option linter.all false
set_option maxRecDepth 100000
set_option maxHeartbeats 4000000
/-! The least of a list of pairs. -/
namespace HT
open PySem PySem.Spec PyProof.Rows
open PySem.AutoSeq1 (wpAny_loadPart')
open PySem.MeetsSeq PySem.MeetsSeq2 PySem.MeetsSeq3
def prLt (p q : Int × Int) : Bool := if p.1 = q.1 then decide (p.2 < q.2) else decide (p.1 < q.1)
end HT
namespace L2
open PySem PySem.Spec PyProof.Rows
section
variable {X : Cx} {K : PySem.W.Frag} {pins : List (Addr × Obj)} {σ : St} {H : Hp} {s : Shared}
end
end L2

set_option Elab.async false
set_option linter.all false
set_option maxRecDepth 100000
set_option maxHeartbeats 4000000
/-! min(list of pairs). -/
namespace L2
open PySem PySem.Spec PyProof.Rows
theorem prLt_iff {p q : Int × Int} : HT.prLt p q = true ↔ p.1 < q.1 ∨ (p.1 = q.1 ∧ p.2 < q.2) := by
  unfold HT.prLt
  by_cases e : p.1 = q.1
  · rw [if_pos e]
    refine ⟨fun h => .inr ⟨e, of_decide_eq_true h⟩, fun h => decide_eq_true (h.elim (fun z => by omega) fun z => z.2)⟩
  · rw [if_neg e]
    exact ⟨fun h => .inl (of_decide_eq_true h), fun h => decide_eq_true (h.elim id fun z => absurd z.1 e)⟩
def PrLe (p q : Int × Int) : Prop := p.1 < q.1 ∨ (p.1 = q.1 ∧ p.2 ≤ q.2)
section
variable {X : Cx} {pins : List (Addr × Obj)} {σ : St} {H : Hp} {l S It : Addr} {ts : List Addr} {ps : List (Int × Int)}
end
end L2

set_option Elab.async false
set_option linter.all false
set_option maxRecDepth 100000
set_option maxHeartbeats 4000000
/-! The shortest windows that hold. -/
namespace My
open L2
end My
namespace L2
open PySem PySem.Spec PyProof.Rows
end L2

set_option Elab.async false
set_option linter.all false
set_option maxRecDepth 100000
set_option maxHeartbeats 4000000
/-! Tight windows within others. -/
namespace My
open L2
/-- more needs -/
def More (keys : List Int) (need : Int → Int) (keys' : List Int) (need' : Int → Int) : Prop := ∀ x ∈ keys, x ∈ keys' ∧ need x ≤ need' x
theorem More.hold {keys keys' ns : List Int} {need need' : Int → Int} {f b : Nat} (m : More keys need keys' need') (h : Hold keys' need' ns f b) : Hold keys need ns f b := fun x hx => by
  have := h x (m x hx).1
  have := (m x hx).2
  omega
end My
namespace L2
open PySem PySem.Spec PyProof.Rows
end L2

set_option Elab.async false
set_option linter.all false
set_option maxRecDepth 100000
set_option maxHeartbeats 4000000
/-! Tight windows of other rows: from behind, of the same hold, of a row's front. -/
namespace My
open L2
end My

set_option Elab.async false
set_option linter.all false
set_option maxRecDepth 100000
set_option maxHeartbeats 4000000
/-! Tight windows with others ahead, and of the row twice. -/
namespace My
open L2
end My

set_option Elab.async false
set_option linter.all false
set_option maxRecDepth 100000
set_option maxHeartbeats 4000000
/-! What numbers come; numbers called otherwise. -/
namespace L2
open PySem PySem.Spec PyProof.Rows
end L2
namespace My
open L2
end My

set_option Elab.async false
set_option linter.all false
set_option maxRecDepth 100000
set_option maxHeartbeats 4000000
/-! What are no needs. -/
namespace L2
open PySem PySem.Spec PyProof.Rows
section
variable {X : Cx} {pins : List (Addr × Obj)} {σ : St} {H : Hp} {s : Shared}
end
/-! a dict of pairs has as many keys as there are unlike ones -/
theorem HasE.imp {P : Program} {w : World} {K : PySem.W.Frag} {mg : Str → Option Value} {base : Heap} {x : Str} {k : Nat} {ps : List Str} {sp sp' : Sp} (h : HasE P w K mg base x k ps sp) (i : ∀ vs H Q E, sp' vs H Q E → sp vs H Q E) : HasE P w K mg base x k ps sp' :=
  let ⟨f, fd, F, r⟩ := h.ex; ⟨f, fd, F.imp i, r⟩
end L2
namespace My
open PySem PySem.Spec L2
def needI : Option (Int × Int) → Bool
  | some p => decide (1 ≤ p.2)
  | none => false
def isNeed (H : Hp) (v : V) : Bool := needI (pairI H v)
theorem isNeed_same {H H' : Hp} {v : V} (t : ThK H v) (s : Same H H') : isNeed H' v = isNeed H v := by unfold isNeed; rw [pairI_same t s]
/-- what are no needs -/
def NoNd (H : Hp) (v : V) : Prop := (ThK H v ∧ listV H v = false) ∨ ∃ (l : Addr) (xs : List V), v = .ref l ∧ H l = some (.lst xs) ∧ xs.length ≤ 1000 ∧ (∀ x ∈ xs, ThW H x) ∧
  ((∃ x ∈ xs, isNeed H x = false) ∨ ∃ ps : List (Int × Int), xs.map (pairI H) = ps.map some ∧ ¬ (ps.map (·.1)).Nodup)
theorem listV_same {H H' : Hp} {v : V} (t : ThK H v) (s : Same H H') : listV H' v = listV H v := by
  cases t with
  | lst e =>
    show (match H' _ with | some (.lst _) => true | _ => false) = (match H _ with | some (.lst _) => true | _ => false)
    rw [e, s _ _ e]
  | tup e =>
    show (match H' _ with | some (.lst _) => true | _ => false) = (match H _ with | some (.lst _) => true | _ => false)
    rw [e, s _ _ e]
  | dK e =>
    show (match H' _ with | some (.lst _) => true | _ => false) = (match H _ with | some (.lst _) => true | _ => false)
    rw [e, s _ _ e]
  | _ => rfl
theorem NoNd.same {H H' : Hp} {v : V} (n : NoNd H v) (s : Same H H') : NoNd H' v := by
  rcases n with ⟨t, h⟩ | ⟨l, xs, rfl, e, hl, ht, h⟩
  · exact .inl ⟨t.same s, by rw [listV_same t s]; exact h⟩
  · refine .inr ⟨l, xs, rfl, s _ _ e, hl, fun x hx => (ht x hx).same s, ?_⟩
    rcases h with ⟨x, hx, h⟩ | ⟨ps, h, hn⟩
    · exact .inl ⟨x, hx, by rw [isNeed_same (ht x hx).1 s]; exact h⟩
    · exact .inr ⟨ps, by rw [← h]; exact List.map_congr_left fun x hx => pairI_same (ht x hx).1 s, hn⟩
/-- a thing that is no need -/
def BadV (H : Hp) (v : V) : Prop := ThW H v ∧ isNeed H v = false
theorem BadV.same {H H' : Hp} {v : V} (b : BadV H v) (s : Same H H') : BadV H' v := ⟨b.1.same s, by rw [isNeed_same b.1.1 s]; exact b.2⟩
variable {σ : St} {k j : Nat} {X : Cx} {e e1 e2 : Expr} {es : List Expr} {pos : Pos} {p : V → Bool}
def MkB (σ : St) (te : TE) : Prop := ∀ (ps : List Addr) (H : Hp) (Q : VK), Here ps H → (∀ v H', Same H H' → BadV (hide ps H') v → Q v H') → te σ H Q
def MkBA (σ : St) (k : Nat) (ta : TA) : Prop := ∀ (ps : List Addr) (H : Hp) (Q : List V → Hp → Prop), Here ps H → (∀ vs H', Same H H' → vs.length = k → (∀ v ∈ vs, BadV (hide ps H') v) → Q vs H') → ta σ H Q
def MkP (p : V → Bool) (σ : St) (te : TE) : Prop := ∀ (ps : List Addr) (H : Hp) (Q : VK), Here ps H → (∀ v H', Same H H' → ThK (hide ps H') v → p v = false → Q v H') → te σ H Q
@[irreducible] def JB (j : Nat) (X : Cx) (e : Expr) : Prop := (∃ t, PE X e t ∧ ∀ σ i, σ[j]? = some (some (.int i)) → 0 ≤ i → MkB σ t) ∧ ∀ es, starEach (e :: es) X.env = (false, eval e X.env) :: starEach es X.env
@[irreducible] def JP (p : V → Bool) (j : Nat) (X : Cx) (e : Expr) : Prop := (∃ t, PE X e t ∧ ∀ σ i, σ[j]? = some (some (.int i)) → 0 ≤ i → MkP p σ t) ∧ ∀ es, starEach (e :: es) X.env = (false, eval e X.env) :: starEach es X.env
@[irreducible] def JBA (j k : Nat) (X : Cx) (es : List Expr) : Prop := ∃ t, PA X es t ∧ ∀ σ i, σ[j]? = some (some (.int i)) → 0 ≤ i → MkBA σ k t
theorem JB.mk {t : TE} (h : PE X e t) (m : ∀ σ i, σ[j]? = some (some (.int i)) → 0 ≤ i → MkB σ t) (s : ∀ es, starEach (e :: es) X.env = (false, eval e X.env) :: starEach es X.env) : JB j X e := by unfold JB; exact ⟨⟨t, h, m⟩, s⟩
theorem JP.mk {t : TE} (h : PE X e t) (m : ∀ σ i, σ[j]? = some (some (.int i)) → 0 ≤ i → MkP p σ t) (s : ∀ es, starEach (e :: es) X.env = (false, eval e X.env) :: starEach es X.env) : JP p j X e := by unfold JP; exact ⟨⟨t, h, m⟩, s⟩
theorem JBA.un (h : JBA j k X es) : ∃ t, PA X es t ∧ ∀ σ i, σ[j]? = some (some (.int i)) → 0 ≤ i → MkBA σ k t := by unfold JBA at h; exact h
@[irreducible] def JBA.t (h : JBA j k X es) : TA := h.un.choose
theorem JBA.pa (h : JBA j k X es) : PA X es h.t := by unfold JBA.t; exact h.un.choose_spec.1
theorem JBA.use (h : JBA j k X es) {σ : St} {i : Int} (q : σ[j]? = some (some (.int i))) (hi : 0 ≤ i) (ps : List Addr) {H : Hp} {Q : List V → Hp → Prop} (hp : Here ps H) (g : ∀ vs H', Same H H' → vs.length = k → (∀ v ∈ vs, BadV (hide ps H') v) → Q vs H') : h.t σ H Q := by unfold JBA.t; exact h.un.choose_spec.2 σ i q hi ps H Q hp g
/-! a display of things that are no needs, in a for -/
def MkN (σ : St) (te : TE) : Prop := ∀ (H : Hp) (Q : VK), (∀ v H', Same H H' → NoNd H' v → Q v H') → te σ H Q
def MkNA (σ : St) (k : Nat) (ta : TA) : Prop := ∀ (H : Hp) (Q : List V → Hp → Prop), (∀ vs H', Same H H' → vs.length = k → (∀ v ∈ vs, NoNd H' v) → Q vs H') → ta σ H Q
@[irreducible] def JN (j : Nat) (X : Cx) (e : Expr) : Prop := (∃ t, PE X e t ∧ ∀ σ i, σ[j]? = some (some (.int i)) → MkN σ t) ∧ ∀ es, starEach (e :: es) X.env = (false, eval e X.env) :: starEach es X.env
@[irreducible] def JNA (j k : Nat) (X : Cx) (es : List Expr) : Prop := ∃ t, PA X es t ∧ ∀ σ i, σ[j]? = some (some (.int i)) → MkNA σ k t
theorem JN.mk {t : TE} (h : PE X e t) (m : ∀ σ i, σ[j]? = some (some (.int i)) → MkN σ t) (s : ∀ es, starEach (e :: es) X.env = (false, eval e X.env) :: starEach es X.env) : JN j X e := by unfold JN; exact ⟨⟨t, h, m⟩, s⟩
theorem JNA.un (h : JNA j k X es) : ∃ t, PA X es t ∧ ∀ σ i, σ[j]? = some (some (.int i)) → MkNA σ k t := by unfold JNA at h; exact h
@[irreducible] def JNA.t (h : JNA j k X es) : TA := h.un.choose
theorem JNA.pa (h : JNA j k X es) : PA X es h.t := by unfold JNA.t; exact h.un.choose_spec.1
theorem JNA.use (h : JNA j k X es) {σ : St} {i : Int} (q : σ[j]? = some (some (.int i))) {H : Hp} {Q : List V → Hp → Prop} (g : ∀ vs H', Same H H' → vs.length = k → (∀ v ∈ vs, NoNd H' v) → Q vs H') : h.t σ H Q := by unfold JNA.t; exact h.un.choose_spec.2 σ i q H Q g
end My

set_option Elab.async false
set_option linter.all false
set_option maxRecDepth 100000
set_option maxHeartbeats 4000000
/-! Lambdas: made, handed on, called; cells that a callee may read. -/
namespace L2
open PySem PySem.Spec PyProof.Rows
/-- a function stands there -/
def FnIs (f : Addr) (fd : FuncData) (h : Heap) : Prop := ∃ o, h.get? f = some o ∧ o.data = .func fd
def CdIs (c : Addr) (q : Str) (h : Heap) : Prop := h.CodeRec (.ref c) q
def FnAt (H : Hp) (f : Addr) (fd : FuncData) : Prop := H f = some (.ext (FnIs f fd))
def CdAt (H : Hp) (c : Addr) (q : Str) : Prop := H c = some (.ext (CdIs c q))
def tru : HO := .ext fun _ => True
section
variable {X : Cx} {pins : List (Addr × Obj)} {σ : St} {H : Hp} {s : Shared}
theorem FnAt.is {P : Program} {w : World} {h : Heap} {f : Addr} {fd : FuncData} (x : FnAt H f fd) (ok : HOk P w H h) : FnIs f fd h := (ok f _ x).1
theorem CdAt.is {P : Program} {w : World} {h : Heap} {c : Addr} {q : Str} (x : CdAt H c q) (ok : HOk P w H h) : h.CodeRec (.ref c) q := (ok c _ x).1
/-! ### making one -/
/-- what is known of the module for it: its builtins, the def's own code record and table -/
def BmAt (base : Heap) (mg : Str → Option Value) : Prop := ∃ bm o, mg "__builtins__" = some (.ref bm) ∧ bm ≠ builtinsNs ∧ bm ≠ mainGlobals ∧ base.get? bm = some o ∧ o.cls = .type "module" ∧ o.dict = some builtinsNs ∧ o.data = .plain
structure LamTxt (K : PySem.W.Frag) (mg : Str → Option Value) (base : Heap) (c P : Addr) : Prop where
  hd : PySem.W.codeHdIn K c P = true
  bm : BmAt base mg
end
/-! ### what a lambda promises -/
def CellsAt (H : Hp) (cl : List (Str × Addr)) (zs : List V) : Prop := zs.length = cl.length ∧ ∀ (n : Nat) (y : Str) (c : Addr), cl[n]? = some (y, c) → ∃ (o : Obj) (u : Value) (v : V), zs[n]? = some v ∧ H c = some (.frz o tru) ∧ o.data = .cell (some u) ∧ RelV v u
theorem CellsAt.same {H H' : Hp} {cl : List (Str × Addr)} {zs : List V} (x : CellsAt H cl zs) (s : Same H H') : CellsAt H' cl zs := ⟨x.1, fun n y c e => let ⟨o, u, v, a, b, r⟩ := x.2 n y c e; ⟨o, u, v, a, s _ _ b, r⟩⟩
structure LamSc (scope : Scope) (x1 x2 : Str) (cl : List (Str × Addr)) : Prop where
  kind : scope.kind = .function
  co : scope.isCoroutine = false
  gen : scope.isGenerator = false
  nocell : ∀ x ∈ scope.names, x.2 ≠ .cell
  p1 : scope.names.lookup x1 = some .local
  p2 : scope.names.lookup x2 = some .local
  ne : x1 ≠ x2
  fr : ∀ x, scope.names.lookup x = some .free → ∃ c, cl.lookup x = some c
  inj : ∀ x y c, cl.lookup x = some c → cl.lookup y = some c → x = y
  lk : ∀ (n : Nat) y c, cl[n]? = some (y, c) → cl.lookup y = some c
  ix : ∀ x c, cl.lookup x = some c → ∃ n : Nat, cl[n]? = some (x, c)
  fk : ∀ (n : Nat) y c, cl[n]? = some (y, c) → scope.names.lookup y = some .free
section
variable {P : Program} {w : World} {K : PySem.W.Frag} {mg : Str → Option Value} {base : Heap} {k : Nat} {f c' : Addr} {q : Str} {params : Arguments} {body : Expr} {scope : Scope} {cl : List (Str × Addr)} {pm ct : Value} {x1 x2 : Str} {zs : List V} {D : Int → Int → Prop} {g : Int → Int → Int}
theorem lookup_ne {x : Str} {k : NameKind} : ∀ {l : List (Str × NameKind)}, l.lookup x = some k → ∃ z ∈ l, z.1 = x ∧ z.2 = k
  | [], h => by cases h
  | (a, b) :: r, h => by
    rw [List.lookup_cons] at h
    split at h
    · rename_i e
      cases h
      exact ⟨(a, _), List.mem_cons_self .., (beq_iff_eq.mp e).symm, rfl⟩
    · obtain ⟨z, hz, h1, h2⟩ := lookup_ne h
      exact ⟨z, List.mem_cons_of_mem _ hz, h1, h2⟩
end
/-! ### a call through which a cell of ours may be read -/
section
variable {X : Cx} {pins : List (Addr × Obj)} {σ : St} {H : Hp} {s : Shared}
end
/-! ### the head where the law's own table is known -/
end L2

set_option Elab.async false
set_option linter.all false
set_option maxRecDepth 100000
set_option maxHeartbeats 4000000
/-! Lambdas of two numbers, by the text; planted rows' widths. -/
namespace L2
open PySem PySem.Spec PyProof.Rows
section
variable {scope : Scope} {x1 x2 y : Str} {c : Addr}
theorem LamSc.zero (h1 : scope.kind = .function) (h2 : scope.isCoroutine = false) (h3 : scope.isGenerator = false) (h4 : ∀ x ∈ scope.names, x.2 ≠ .cell) (h5 : ∀ x ∈ scope.names, x.2 ≠ .free) (h6 : scope.names.lookup x1 = some .local) (h7 : scope.names.lookup x2 = some .local) (h8 : x1 ≠ x2) : LamSc scope x1 x2 [] :=
  ⟨h1, h2, h3, h4, h6, h7, h8, fun x h => by
    obtain ⟨z, hz, _, e⟩ := lookup_ne h
    exact absurd e (h5 z hz), (fun x y c h => by cases h), (fun n y c h => by simp at h), (fun x c h => by cases h), (fun n y c h => by simp at h)⟩
theorem LamSc.one (h1 : scope.kind = .function) (h2 : scope.isCoroutine = false) (h3 : scope.isGenerator = false) (h4 : ∀ x ∈ scope.names, x.2 ≠ .cell) (h5 : ∀ x ∈ scope.names, x.2 = .free → x.1 = y) (h6 : scope.names.lookup x1 = some .local) (h7 : scope.names.lookup x2 = some .local) (h8 : x1 ≠ x2) (h9 : scope.names.lookup y = some .free) : LamSc scope x1 x2 [(y, c)] := by
  have lk : ∀ x c', List.lookup x [(y, c)] = some c' → x = y ∧ c' = c := fun x c' h => by
    rw [List.lookup_cons] at h
    split at h
    · rename_i e
      exact ⟨beq_iff_eq.mp e, (Option.some.inj h).symm⟩
    · cases h
  have at_ : ∀ (n : Nat) y' c', [(y, c)][n]? = some (y', c') → n = 0 ∧ y' = y ∧ c' = c := fun n y' c' h => by
    match n, h with
    | 0, h => have := Option.some.inj h; injection this with a b; exact ⟨rfl, a.symm, b.symm⟩
    | n + 1, h => simp at h
  refine ⟨h1, h2, h3, h4, h6, h7, h8, fun x h => ?_, fun x x' c' a b => ?_, fun n y' c' h => ?_, fun x c' h => ?_, fun n y' c' h => ?_⟩
  · obtain ⟨z, hz, e1, e2⟩ := lookup_ne h
    rw [← e1, h5 z hz e2]
    exact ⟨c, List.lookup_cons_self⟩
  · rw [(lk x c' a).1, (lk x' c' b).1]
  · obtain ⟨_, rfl, rfl⟩ := at_ n y' c' h
    exact List.lookup_cons_self
  · obtain ⟨rfl, rfl⟩ := lk x c' h
    exact ⟨0, rfl⟩
  · obtain ⟨_, rfl, rfl⟩ := at_ n y' c' h
    exact h9
end
end L2
namespace My
open L2
end My

set_option Elab.async false
set_option linter.all false
set_option maxRecDepth 100000
set_option maxHeartbeats 4000000
/-! min of two by a key that tells pairs. -/
namespace L2
open PySem PySem.Spec PyProof.Rows
section
variable {X : Cx} {pins : List (Addr × Obj)} {σ : St} {H : Hp} {s : Shared}
/-! a tuple in a list of tuples, where it is there -/
/-! a lambda made again and again -/
end
end L2

set_option Elab.async false
set_option linter.all false
set_option maxRecDepth 100000
set_option maxHeartbeats 4000000
/-! Tests of four links; stretches by windows. -/
namespace L2
open PySem PySem.Spec PyProof.Rows PySem.Calls
section
variable {X : Cx} {a b c d e : Expr} {ta tb tc td te : TE} {pos : Pos}
end
end L2
namespace My
open L2
theorem long_same {ns : List Int} {m : Nat} {p q : Nat × Nat} (h : LongP ns m ns.length (some p)) (h' : LongP ns m ns.length (some q)) : p = q := by
  obtain ⟨a1, a2, a3, a4⟩ := h
  obtain ⟨b1, b2, b3, b4⟩ := h'
  have c1 := a4 q.1 b1 b2
  have c2 := b4 p.1 a1 a2
  rw [← b3] at c1
  rw [← a3] at c2
  have e : p.1 = q.1 := by
    rcases Nat.lt_trichotomy p.1 q.1 with z | z | z
    · have := c2.2 z; have := c1.1; omega
    · exact z
    · have := c1.2 z; have := c2.1; omega
  obtain ⟨x, y⟩ := p
  obtain ⟨u, v⟩ := q
  dsimp only at *
  rw [a3, b3, e]
def keyP (p : Nat × Nat) : Int × Int := ((p.1 : Int) - (p.2 : Int), (p.1 : Int))
/-- the best of the longest ones of the numbers below k -/
structure BestL (ns : List Int) (k : Nat) (p : Nat × Nat) : Prop where
  of : p = (0, 0) ∨ ∃ j, j < k ∧ LongP ns j ns.length (some p)
  le : ∀ j, j < k → ∀ q, LongP ns j ns.length (some q) → PrLe (keyP p) (keyP q)
theorem BestL.zero (ns : List Int) : BestL ns 0 (0, 0) := ⟨.inl rfl, fun j h => absurd h (Nat.not_lt_zero _)⟩
theorem BestL.none {ns : List Int} {k : Nat} {p : Nat × Nat} (h : BestL ns k p) (hk : LongP ns k ns.length none) : BestL ns (k + 1) p := by
  refine ⟨h.of.imp id fun ⟨j, hj, hp⟩ => ⟨j, by omega, hp⟩, fun j hj q hq => ?_⟩
  rcases Nat.lt_or_ge j k with z | z
  · exact h.le j z q hq
  · have : j = k := by omega
    subst this
    exact absurd hq.2.1 (hk q.1 hq.1)
theorem BestL.some {ns : List Int} {k : Nat} {p q : Nat × Nat} (h : BestL ns k p) (hk : LongP ns k ns.length (some q)) : BestL ns (k + 1) (if HT.prLt (keyP q) (keyP p) = true then q else p) := by
  have hh := prLt_iff (p := keyP q) (q := keyP p)
  by_cases z : HT.prLt (keyP q) (keyP p) = true
  · rw [if_pos z]
    have z := hh.mp z
    refine ⟨.inr ⟨k, Nat.lt_succ_self _, hk⟩, fun j hj r hr => ?_⟩
    rcases Nat.lt_or_ge j k with y | y
    · have := h.le j y r hr
      unfold PrLe at *
      omega
    · have : j = k := by omega
      subst this
      rw [long_same hr hk]
      exact .inr ⟨rfl, Int.le_refl _⟩
  · rw [if_neg z]
    refine ⟨h.of.imp id fun ⟨j, hj, hp⟩ => ⟨j, by omega, hp⟩, fun j hj r hr => ?_⟩
    rcases Nat.lt_or_ge j k with y | y
    · exact h.le j y r hr
    · have : j = k := by omega
      subst this
      rw [long_same hr hk]
      have : ¬ ((keyP q).1 < (keyP p).1 ∨ ((keyP q).1 = (keyP p).1 ∧ (keyP q).2 < (keyP p).2)) := fun y => z (hh.mpr y)
      unfold PrLe
      omega
end My

set_option Elab.async false
set_option linter.all false
set_option maxRecDepth 100000
set_option maxHeartbeats 4000000
/-! try: .. except X as n: .. where the names stand at the raise as ahead of the try. -/
namespace L2
open PySem PySem.Spec PyProof.Rows
def tTryN (K : PySem.W.Frag) (i : Nat) (D : Addr) (tb : (St → Prop) → XK → TS) (ts : TS) : TS := fun Dn σ H => tb (fun τ => τ = σ) (fun c _ H' => ∃ C, c = .ref C ∧ PySem.W.excIn K C mroV "ValueError.__new__" = true ∧ PySem.W.mroIn K C (.ref D) = some true ∧
  ∀ (ea : Addr), H' ea = none → ts { nx := fun σ2 H2 => Dn.nx (σ2.set i none) H2, rt := Dn.rt, bk := fun σ2 H2 => Dn.bk (σ2.set i none) H2, ct := fun σ2 H2 => Dn.ct (σ2.set i none) H2 } (σ.set i (some (.ref ea))) (upd H' ea (excO ea C))) Dn σ H
section
variable {X : Cx} {pins : List (Addr × Obj)} {σ : St} {H : Hp} {s : Shared}
theorem ps_tryN {x n : Str} {i : Nat} {D : Addr} {body suite : List Stmt} {b0 : Stmt} {np hpos pos : Pos} {tb : (St → Prop) → XK → TS} {ts : TS} (c : XCl X.K X.mg x D) (hg : Gl X x) (hst : X.stack = X.env :: X.outer) (hfr : X.env.frame = some X.env.locals)
    (hN : X.N.Nodup) (hi : X.N[i]? = some n) (hk : X.env.scope.names.lookup n = some .local) (hex : X.ex = [])
    (hb : ∀ (pn : List (Addr × Obj)) (W : Value → Shared → Prop) (R : St → Prop) (E : XK), PassesR R (CXe X.prog X.w) (X.flt pn W) E → PSs (X.flt pn W) body (tb R E)) (hs : ∀ e : Value, PSs (X.hnd e) (b0 :: suite) ts) (hdb : (x == ("__debug__" : Str)) = false := by decide) :
    PS X (.Try body [.ExceptHandler (some (.Name x np)) (some n) (b0 :: suite) hpos] [] [] pos) (tTryN X.K i D tb ts) := by
  intro pins s σ H Dn I hq
  refine wpAny_Try_except (wpAny_mono (hb pins (FlR X pins _ _) _ _ FlR.passes [] s σ H Dn I.flt hq) (fun f s1 h1 => ?_) (fun e s1 h1 => ?_))
  · have h2 := h1.unflt
    cases f with
    | next => exact wpAny_execs_nil h2
    | brk => exact h2
    | cont => exact h2
    | ret u => exact h2
  · obtain ⟨σ', Hc, sc, hR, Ic, ea, C, t, B, H', rfl, os, bare, U, hok, hea, hea0, fl, c1, c2, C', hCC, qC, hm, ht⟩ := h1
    cases hCC
    obtain rfl : σ' = σ := hR
    obtain ⟨h1, g1, d1, t1, os1⟩ := s1
    obtain rfl : os1 = sc.os := os
    have back : ∀ {h2 : Heap} {tk : Nat}, B.StaysIn h2 → h1.UpToSlots h2 → Inv X pins σ' H' { sc with heap := h2, gens := g1, drawn := d1, toks := tk } := fun {h2 tk} st up => by
      refine Ic.call (ch := []) (fly_un U c2 st fun b o hb e1 => ?_) (fly_hok hok c1 st) bare (fun b z => absurd z (by simp))
      obtain ⟨o', e2, nd⟩ := frs_of_mem (Ic.call (h' := h1) (g' := g1) (t' := t1) (d' := d1) (ch := []) U hok bare (fun b z => absurd z (by simp))).stack hb
      have e2' : h1.get? b = some o' := e2
      rw [e1] at e2'; cases e2'
      exact up b o e1 nd
    rw [hst] at fl
    refine wpAny_looks_onW (by rw [I.ok.frames, hst]) hfr fl fun h4 held4 up4 => ?_
    refine wpAny_landsW held4 fun h5 fl5 up5 => ?_
    have I5 : Inv X pins σ' H' { sc with heap := h5, gens := g1, drawn := d1, toks := t1 } := back fl5.1 (up4.trans up5)
    obtain ⟨ob, hob, hobc⟩ := fl5.there
    refine wpAny_handleBy_cons (codeAny_handlers_test (ld_glob (X := X.hnd (.ref ea)) (I5.hnd) hg c.bound ?_ hdb)) (by intro q; cases q)
    refine excMatches_below I5.kIn qC c.exc hm hob hobc (codeAny_handlers_suite_as ?_)
    refine lands_againW fl5 fun h6 fl6 up6 => ?_
    have I6 : Inv X pins σ' H' { sc with heap := h6, gens := g1, drawn := d1, toks := t1 } := back fl6.1 ((up4.trans up5).trans up6)
    have I7 : Inv X pins σ' (upd H' ea (excO ea C)) { sc with heap := h6, gens := g1, drawn := d1, toks := t1 } := by
      obtain ⟨o6, e6, e6c⟩ := fl6.there
      exact Inv.track Ic hex hea0 I6 hea (excO_ok ⟨o6, e6, e6c⟩)
    refine store_ok (X := X.hnd (.ref ea)) I7.hnd hN hi (.inl hk) (v := .ref ea) rfl (fun s8 I8 => ?_) (.inr hk)
    refine wpAny_mono (hs (.ref ea) pins s8 _ _ _ I8 (ht ea hea)) (fun f s2 h2 => ?_) fun _ _ z => z.elim
    cases f with
    | next => obtain ⟨σ2, H2, J, q⟩ := h2; exact gone_ok (J.unhnd I.ok) hN hi hk fun s9 J9 => ⟨_, H2, J9, q⟩
    | brk => obtain ⟨σ2, H2, J, q⟩ := h2; exact gone_ok (J.unhnd I.ok) hN hi hk fun s9 J9 => ⟨_, H2, J9, q⟩
    | cont => obtain ⟨σ2, H2, J, q⟩ := h2; exact gone_ok (J.unhnd I.ok) hN hi hk fun s9 J9 => ⟨_, H2, J9, q⟩
    | ret u => obtain ⟨v, σ2, H2, J, r, q⟩ := h2; exact gone_ok (J.unhnd I.ok) hN hi hk fun s9 J9 => ⟨v, _, H2, J9, r, q⟩
end
end L2

set_option Elab.async false
set_option linter.all false
set_option maxRecDepth 100000
set_option maxHeartbeats 4000000
/-! Texts: cut, begun, joined, parted, read, walked. -/
namespace L2
open PySem PySem.Spec PyProof.Rows
section
variable {X : Cx}
def rSlS : V → Option Int → Option Int → Hp → VK → Prop := fun x lo hi H Q => ∃ z, x = .str z ∧ z.length ≤ sizeLine ∧ Q (.str (Txt.slice z lo hi)) H
theorem sl_str : SlR X rSlS := by
  intro pins s σ H x v vl vu lo hi sl Q I rx hs pl pu h
  obtain ⟨z, rfl, hz, q⟩ := h
  obtain ⟨t, rfl⟩ := rx
  refine ⟨"str", _, F.slot_str_getitem.lookup, typeIs_str _ _ _, ?_⟩
  have fin : ∀ (l u : Option (Int × Tok)), s.heap.IsSlice sl l u none → Q (.str (Txt.slice z (l.map (·.1)) (u.map (·.1)))) H → wpAny (model X.prog X.w) X.A (getItem (.str z t) (.ref sl)) (EP X pins σ Q) X.xe s := fun l u his q =>
    wpAny_getItem_str_slice (l := l) (u := u) (st := none) his rfl (post_val_or_str ⟨Nat.le_trans (Txt.slice_le z (l.map (·.1)) (u.map (·.1))) hz, fun t' k => ⟨.str _, H, I.tok _, ⟨_, rfl⟩, q⟩⟩)
  obtain ⟨o, e1, e2, e3⟩ := hs
  cases pl with
  | none =>
    cases pu with
    | none => exact fin none none ⟨o, e1, e2, e3⟩ q
    | int j u => exact fin none (some (j, u)) ⟨o, e1, e2, e3⟩ q
  | int i t' =>
    cases pu with
    | none => exact fin (some (i, t')) none ⟨o, e1, e2, e3⟩ q
    | int j u => exact fin (some (i, t')) (some (j, u)) ⟨o, e1, e2, e3⟩ q
theorem mt_startswith : MtR X "str.startswith" (fun x xs H Q => ∃ z y, x = .str z ∧ xs = [.str y] ∧ Q (.bl (Txt.startswith z y)) H) := by
  intro pins s σ H x xs v us Q I rx rs h
  obtain ⟨z, y, rfl, rfl, q⟩ := h
  obtain ⟨t, rfl⟩ := rx
  obtain ⟨u, rfl, t', rfl⟩ := vals1 rs
  exact SC.startswith ⟨.bl _, H, I, rfl, q⟩
theorem strs_of : ∀ {ys : List Str} {us : List Value}, Vals (ys.map V.str) us → ∃ l : List (Str × Tok), us = strValues l ∧ l.map (·.1) = ys
  | [], _, .nil => ⟨[], rfl, rfl⟩
  | y :: ys, _, .cons r rs => by
    obtain ⟨t, rfl⟩ := r
    obtain ⟨l, e, e'⟩ := strs_of rs
    exact ⟨(y, t) :: l, by rw [e]; rfl, by rw [← e']; rfl⟩
theorem strs_to : ∀ l : List (Str × Tok), Vals ((l.map (·.1)).map V.str) (strValues l)
  | [] => .nil
  | (y, t) :: l => .cons ⟨t, rfl⟩ (strs_to l)
theorem mt_join {K : PySem.W.Frag} (eK : X.K = K) : MtR X "str.join" (fun x xs H Q => ∃ (z : Str) (a : Addr) (ys : List Str), x = .str z ∧ xs = [.ref a] ∧ SqL K H a (ys.map V.str) ∧ JoinOk z ys = true ∧ Q (.str (Txt.join z ys)) H) := by
  subst eK
  intro pins s σ H x xs v us Q I rx rs h
  obtain ⟨z, a, ys, rfl, rfl, hq, hok, q⟩ := h
  obtain ⟨t, rfl⟩ := rx
  obtain ⟨u, rfl, ru⟩ := vals1 rs
  cases ru
  obtain ⟨its, rv, pl, hz⟩ := I.list hq
  obtain ⟨l, rfl, e⟩ := strs_of rv
  exact SC.join pl.isList e hok fun t' k => ⟨.str _, H, I.tok _, ⟨_, rfl⟩, q⟩
theorem mt_split : MtR X "str.split" (fun x xs H Q => ∃ z y, x = .str z ∧ xs = [.str y] ∧ z.length ≤ sizeLine ∧ (y.length == 0) = false ∧ (Builtin.Str.partsBetween z (Builtin.Str.occurrences z y 0 z.length (z.length + 1)) y.length).length ≤ sizeLine ∧ ∀ l, H l = none → Q (.ref l) (upd H l (.lst ((Txt.split z y).map V.str)))) := by
  intro pins s σ H x xs v us Q I rx rs h
  obtain ⟨z, y, rfl, rfl, hz, hy, hn, q⟩ := h
  obtain ⟨t, rfl⟩ := rx
  obtain ⟨u, rfl, t', rfl⟩ := vals1 rs
  have fin : ∀ (l : List (Str × Tok)) (k : Nat), l.map (·.1) = Txt.split z y → (Txt.split z y).length ≤ sizeLine → EP X pins σ Q (.ref s.heap.objs.size) { s with heap := s.heap.push { cls := .type "list", data := .seq (strValues l).toArray }, toks := k } := fun l k e hl => by
    refine ⟨.ref s.heap.objs.size, _, I.laid (t' := k) (o := .lst ((Txt.split z y).map V.str)) (fun b ob q => Heap.get?_push_of_some _ q) (Nat.le_refl _) ?_, rfl, q _ (I.hok.fresh (Nat.le_refl _))⟩
    refine ⟨by rw [List.length_map]; exact hl, strValues l, 0, by rw [← e]; exact strs_to l, ?_⟩
    exact Heap.get?_push_size _ rfl
  have hone : [(z, t)].map (·.1) = Txt.split z y → EP X pins σ Q (.ref s.heap.objs.size) { s with heap := s.heap.push { cls := .type "list", data := .seq (strValues [(z, t)]).toArray } } := fun e => fin [(z, t)] s.toks e (by rw [← e]; show 1 ≤ sizeLine; decide)
  cases h1 : (decide (z.length < y.length) || decide (Builtin.Str.strKind z < Builtin.Str.strKind y))
  · cases hf : (Builtin.Str.occurrences z y 0 z.length (z.length + 1)).isEmpty
    · refine call_meets F.slot_str_split (typeIs_str _ _ _) F.entry_str_split (F.args_str_split_2 _ _) (meets_str_split_sep z y t t' h1 hy hf hz hn) ?_
      show wants _ _ _ { s with toks := _, heap := s.heap.push { cls := .type "list", data := .seq (strsFrom s.toks (Builtin.Str.partsBetween z (Builtin.Str.occurrences z y 0 z.length (z.length + 1)) y.length)).toArray } }
      rw [strsFrom_eq]
      have e : Txt.split z y = Builtin.Str.partsBetween z (Builtin.Str.occurrences z y 0 z.length (z.length + 1)) y.length := (if_neg (ne_true_of_eq_false h1)).trans (if_neg (ne_true_of_eq_false hf))
      exact fin (numbered s.toks _) _ ((numbered_texts _ _).trans e.symm) (by rw [e]; exact hn)
    · exact call_meets F.slot_str_split (typeIs_str _ _ _) F.entry_str_split (F.args_str_split_2 _ _) (meets_str_split_not_found z y t t' h1 hy hf) (hone ((if_neg (ne_true_of_eq_false h1)).trans (if_pos hf)).symm)
  · exact call_meets F.slot_str_split (typeIs_str _ _ _) F.entry_str_split (F.args_str_split_2 _ _) (meets_str_split_cannot_occur z y t t' h1) (hone (if_pos h1).symm)
theorem call_int_text : CallR X (.type "int") (fun xs H Q => ∃ (z : Str) (n : Int), xs = [.str z] ∧ intText? z = some n ∧ z.length ≤ 640 ∧ Q (.int n) H) := by
  intro pins s σ H xs us Q I r h
  obtain ⟨z, n, rfl, hn, hz, q⟩ := h
  obtain ⟨u, rfl, t, rfl⟩ := vals1 r
  exact PySem.W.KIN.call_text hn hz ⟨.int _, H, I.tok _, ⟨_, rfl⟩, q⟩
theorem rep_len (a : Array Nat) : ∀ (n : Nat) (b : Array Nat), ((List.replicate n a).foldl (· ++ ·) b).size = b.size + n * a.size
  | 0, b => by simp
  | n + 1, b => by
    rw [List.replicate_succ, List.foldl_cons, rep_len a n (b ++ a), Array.size_append, Nat.add_mul]; omega
theorem op_mul_str : OpR X (binaryOp .Mult) (fun x y H Q => ∃ (z : Str) (n : Nat), x = .str z ∧ y = .int (n : Int) ∧ 1 < n ∧ n ≤ 100000 ∧ 0 < z.length ∧ z.length ≤ 100 ∧ ∀ w : Str, w.length = n * z.length → Q (.str w) H) := by
  intro pins s σ H x y v u Q I rx ry h
  obtain ⟨z, n, rfl, rfl, h1, h2, h3, h4, q⟩ := h
  obtain ⟨t, rfl⟩ := rx
  obtain ⟨t', rfl⟩ := ry
  have hm : z.length * n ≤ 100 * 100000 := Nat.mul_le_mul h4 h2
  have hs : sizeLine = 16777216 := sizeLine_eq
  have e1 : ¬ (n : Int) < 1 := by omega
  have e2 : ¬ (((n : Int) == 1 || z.length == 0) = true) := by
    intro e
    rcases Bool.or_eq_true_iff.mp e with e | e
    · have := eq_of_beq e; omega
    · have := eq_of_beq e; omega
  refine P.mul_str (by rw [decide_eq_false (by omega), decide_eq_false (by omega)]; rfl) (fun _ _ z' => ?_) (fun _ _ => ?_) ?_
  · have hm' : (z.length : Int) * (n : Int) ≤ 2 ^ 63 - 1 := by rw [← Int.natCast_mul]; omega
    have : (z.length : Int) ≤ (2 ^ 63 - 1 : Int) / (n : Int) := Int.le_ediv_of_mul_le (by omega) hm'
    omega
  · unfold Builtin.Str.tooLong
    rw [Int.toNat_natCast]
    exact decide_eq_false (by omega)
  · rw [if_neg e1, if_neg e2, Int.toNat_natCast]
    have hl : (⟨(List.replicate n z.cps).foldl (· ++ ·) #[]⟩ : Str).length = n * z.length := by
      show ((List.replicate n z.cps).foldl (· ++ ·) #[]).size = _
      rw [rep_len]; simp [Str.length]
    refine ⟨by rw [hl, Nat.mul_comm]; omega, .str _, H, I.tok _, ⟨_, rfl⟩, q _ hl⟩
end
/-! walks of a text -/
def Itx (x : Str) : It := ⟨fun i _ => i < x.cps.size, fun i H v H' => H' = H ∧ ∃ c, x.cps[i]? = some c ∧ v = .str ⟨#[c]⟩, fun i _ => x.cps.size ≤ i⟩
theorem turn_ascii {P : Program} {w : World} {K : PySem.W.Frag} {tg : Expr} (x : Str) (t : Tok) (it : Addr) : Turn P w K tg (Itx x) [it] it (fun i h => h.IsStrIter it "str_ascii_iterator" x t i) where
  mem := by simp
  obj := fun i h st b hb => by
    have e : b = it := by simpa using hb
    subst e
    obtain ⟨o, e, c, d⟩ := st
    exact ⟨o, e, fun v z => by rw [d] at z; cases z⟩
  keep := fun i h h' st k => let ⟨o, ho, r⟩ := st; ⟨o, k it (by simp) o ho, r⟩
  item := by
    intro X hP hw hK hc i pins s σ H E I hf st hg
    subst hP hw hK
    have hi : i < x.cps.size := hg
    obtain ⟨f0, f1, f2, f3, f4, f5⟩ := hf it (by simp)
    refine wpAny_pyNext_ascii_item st (c := x.cps[i]) (by simp [hi]) fun h' st' sb => ?_
    have I1 : Inv X pins σ H { s with heap := h', toks := s.toks + 1 } := I.turned (fun b o hb e => (sb.2 b hb).trans e) f0 f1 f3 f4 f5
    obtain ⟨o, e, c, d⟩ := id st'
    exact ⟨_, rfl, go_of (s := { s with heap := h', toks := s.toks + 1 }) e c d (by decide) ⟨.str ⟨#[x.cps[i]]⟩, H, I1, ⟨_, rfl⟩, ⟨rfl, _, by simp [hi], rfl⟩, st', fun b hb => (hf b hb).1⟩⟩
  done := by
    intro X hP hw hK hc i pins s σ H E I hf st hg
    subst hP hw hK
    have hi : x.cps.size ≤ i := hg
    obtain ⟨f0, f1, f2, f3, f4, f5⟩ := hf it (by simp)
    exact wpAny_pyNext_ascii_end (I.ok.hd hc) st (by simp [hi]) fun h' eb => ⟨rfl, I.turned (t' := s.toks) (fun b o hb e => eb b o hb e) f0 f1 f3 f4 f5⟩
  self := fun _ _ _ _ _ st h => wpAny_pyIter_striter_ascii st h
theorem turn_wide {P : Program} {w : World} {K : PySem.W.Frag} {tg : Expr} (x : Str) (t : Tok) (it : Addr) : Turn P w K tg (Itx x) [it] it (fun i h => h.IsStrIter it "str_iterator" x t i) where
  mem := by simp
  obj := fun i h st b hb => by
    have e : b = it := by simpa using hb
    subst e
    obtain ⟨o, e, c, d⟩ := st
    exact ⟨o, e, fun v z => by rw [d] at z; cases z⟩
  keep := fun i h h' st k => let ⟨o, ho, r⟩ := st; ⟨o, k it (by simp) o ho, r⟩
  item := by
    intro X hP hw hK hc i pins s σ H E I hf st hg
    subst hP hw hK
    have hi : i < x.cps.size := hg
    obtain ⟨f0, f1, f2, f3, f4, f5⟩ := hf it (by simp)
    refine wpAny_pyNext_wide_item st (c := x.cps[i]) (by simp [hi]) fun h' st' sb => ?_
    have I1 : Inv X pins σ H { s with heap := h', toks := s.toks + 1 } := I.turned (fun b o hb e => (sb.2 b hb).trans e) f0 f1 f3 f4 f5
    obtain ⟨o, e, c, d⟩ := id st'
    exact ⟨_, rfl, go_of (s := { s with heap := h', toks := s.toks + 1 }) e c d (by decide) ⟨.str ⟨#[x.cps[i]]⟩, H, I1, ⟨_, rfl⟩, ⟨rfl, _, by simp [hi], rfl⟩, st', fun b hb => (hf b hb).1⟩⟩
  done := by
    intro X hP hw hK hc i pins s σ H E I hf st hg
    subst hP hw hK
    have hi : x.cps.size ≤ i := hg
    obtain ⟨f0, f1, f2, f3, f4, f5⟩ := hf it (by simp)
    exact wpAny_pyNext_wide_end (I.ok.hd hc) st (by simp [hi]) fun h' eb => ⟨rfl, I.turned (t' := s.toks) (fun b o hb e => eb b o hb e) f0 f1 f3 f4 f5⟩
  self := fun _ _ _ _ _ st h => wpAny_pyIter_striter_wide st h
section
variable {X : Cx} {tg : Expr}
def iStr (tl : TE) : TI := fun σ H R => tl σ H fun x H1 => ∃ z, x = .str z ∧ R (Itx z) H1
theorem pi_str {l : Expr} {tl : TE} (hl : PE X l tl) : PI X tg l (iStr tl) := by
  intro pins s σ H R I h
  refine thn (hl pins s σ H _ I h) fun v s1 ⟨x, H1, I1, r1, q1⟩ => ?_
  obtain ⟨z, rfl, q⟩ := q1
  obtain ⟨t, rfl⟩ := r1
  have fp : ∀ b ∈ [s1.heap.objs.size], FpOk X pins H1 b := fun b hb => by
    have e : b = s1.heap.objs.size := by simpa using hb
    subst e
    exact I1.fpOk (Nat.le_refl _) (I1.hok.fresh (Nat.le_refl _))
  cases ha : z.cps.all (· < 128)
  · exact wpAny_pyIter_wide ha ⟨s1.heap.objs.size, [s1.heap.objs.size], _, _, H1, rfl, I1.kept (t' := s1.toks) fun b o e => Heap.get?_push_of_some _ e, turn_wide z t _, ⟨_, Heap.get?_push_size _ rfl, rfl, rfl⟩, fp, q⟩
  · exact wpAny_pyIter_ascii ha ⟨s1.heap.objs.size, [s1.heap.objs.size], _, _, H1, rfl, I1.kept (t' := s1.toks) fun b o e => Heap.get?_push_of_some _ e, turn_ascii z t _, ⟨_, Heap.get?_push_size _ rfl, rfl, rfl⟩, fp, q⟩
end
/-- what each sign of a text is told as -/
theorem lc_str_ev {D : Addr} {z : Str} {te : TE} {Q : VK} {cap : St} {H : Hp} (f : Nat → V) (hn : z.cps.size < sizeLine) (hD : H D = none)
    (he : ∀ c H', c ∈ z.cps.toList → Same H H' → Ev te (some (.str ⟨#[c]⟩) :: cap) H' (f c))
    (hd : ∀ H', Same H H' → H' D = some (.lst (z.cps.toList.map f)) → Q (.ref D) H') :
    ∃ W : Nat → Nat → St → Hp → Prop, (∃ m, W 0 m (none :: cap) (upd H D (.lst []))) ∧ LcW D (Itx z) (gName 0) tYes te Q W := by
  have same : ∀ {H' : Hp} {o : HO}, Same H H' → Same H (upd H' D o) := fun s b o e => by rw [upd_ne (ne_of_none e hD)]; exact s b o e
  refine ⟨fun i m σ H' => m = z.cps.size - i ∧ i ≤ z.cps.size ∧ ∃ v, σ = v :: cap ∧ Same H H' ∧ H' D = some (.lst ((z.cps.toList.take i).map f)), ⟨z.cps.size, by simp, Nat.zero_le _, none, rfl, same (Same.refl H), by rw [upd_same]; rfl⟩, ?_⟩
  rintro i m σ H' ⟨rfl, hi, v, rfl, s, e⟩
  by_cases hlt : i < z.cps.size
  · refine .inr ⟨hlt, fun σ' H'' => ∃ v, σ' = v :: cap ∧ Same H H'' ∧ H'' D = some (.lst ((z.cps.toList.take (i + 1)).map f)), fun σ' H'' p' => ⟨z.cps.size - (i + 1), by omega, rfl, hlt, p'⟩, fun x H1 y => ?_⟩
    obtain ⟨rfl, c, ec, rfl⟩ := y
    have hl : z.cps.toList[i]? = some c := by simpa using ec
    have ht : EvT tYes (some (.str ⟨#[c]⟩) :: cap) H1 true := evYes
    dsimp only [gName, List.set]
    refine ht _ fun H3 s3 => ?_
    refine (if_pos rfl).mpr ?_
    refine he c _ (List.mem_of_getElem? hl) (s.trans s3) _ fun H4 s4 => ⟨_, s4 D _ (s3 D _ e), ?_, _, rfl, same ((s.trans s3).trans s4), ?_⟩
    · rw [List.length_map, List.length_take]; omega
    · rw [upd_same, List.take_add_one, hl, List.map_append]; rfl
  · have e' : i = z.cps.size := by omega
    subst e'
    refine .inl ⟨Nat.le_refl _, hd _ s ?_⟩
    rw [e, List.take_of_length_le (by simp)]
end L2

set_option Elab.async false
set_option linter.all false
set_option maxRecDepth 100000
set_option maxHeartbeats 4000000
/-! Words of figures. -/
namespace My
open L2 PySem PySem.Builtin PySem.Builtin.Str
def digL : List Nat := ("0123456789" : Str).cps.toList
theorem digL_eq : digL = [48, 49, 50, 51, 52, 53, 54, 55, 56, 57] := by decide +kernel
def inDig (c : Nat) : Bool := decide (c ∈ digL)
theorem inDig_le {c : Nat} (h : inDig c = true) : 48 ≤ c ∧ c ≤ 57 := by
  have h := of_decide_eq_true h
  rw [digL_eq] at h
  simp only [List.mem_cons, List.not_mem_nil, or_false] at h
  omega
theorem in_dig (c : Nat) : (!(occurrences ("0123456789" : Str) ⟨#[c]⟩ 0 (Str.length ("0123456789" : Str)) 1).isEmpty) = inDig c := StrLaws.found_one _ c
def figs (l : List Nat) : Bool := decide (1 ≤ l.length ∧ l.length ≤ 30) && l.all inDig
def figOk (l : List Nat) : Bool := figs l && (decide (l = [48]) || !decide (l.head? = some 48))
def numOk (l : List Nat) : Bool := if l.head? = some 45 then !decide (l = [45, 48]) && figOk (l.drop 1) else figOk l
theorem num_law (l : List Nat) : numOk l = (let f := if l.head? = some 45 then l.drop 1 else l; figs f && (decide (l = [48]) || !decide (f.head? = some 48))) := by
  unfold numOk figOk
  by_cases h : l.head? = some 45
  · rw [if_pos h]
    dsimp only
    rw [if_pos h]
    obtain ⟨r, rfl⟩ : ∃ r, l = 45 :: r := by
      cases l with
      | nil => cases h
      | cons c r => exact ⟨r, by rw [Option.some.inj h]⟩
    rw [List.drop_one, List.tail_cons]
    rw [decide_eq_false (show ¬ (45 :: r = [48]) by intro e; injection e with e; omega), Bool.false_or]
    by_cases z : r = [48]
    · subst z; rfl
    · rw [decide_eq_false z, decide_eq_false (show ¬ (45 :: r = [45, 48]) from fun e => z (by injection e)), Bool.false_or]; rfl
  · rw [if_neg h]
    dsimp only
    rw [if_neg h]
theorem figs_num {l : List Nat} (h : figs l = true) : 1 ≤ l.length ∧ l.length ≤ 30 ∧ ∀ c ∈ l, 48 ≤ c ∧ c ≤ 57 := by
  unfold figs at h
  rw [Bool.and_eq_true] at h
  have h1 := of_decide_eq_true h.1
  exact ⟨h1.1, h1.2, fun c hc => inDig_le (List.all_eq_true.mp h.2 c hc)⟩
theorem num_reads {x : Str} (h : numOk x.cps.toList = true) : (∃ n, intText? x = some n) ∧ x.length ≤ 31 := by
  have hl : x.cps.toList.length = x.length := Array.length_toList
  rw [num_law] at h
  by_cases z : x.cps.toList.head? = some 45
  · rw [if_pos z] at h
    have h := figs_num (Bool.and_eq_true_iff.mp h).1
    obtain ⟨r, er⟩ : ∃ r, x.cps.toList = 45 :: r := by
      cases e : x.cps.toList with
      | nil => rw [e] at z; cases z
      | cons c r => rw [e] at z; exact ⟨r, by rw [Option.some.inj z]⟩
    rw [er, List.drop_one, List.tail_cons] at h
    rw [er] at hl
    refine ⟨?_, by rw [← hl, List.length_cons]; omega⟩
    rw [intText_of (fun c hc => by
      rw [er] at hc
      rcases List.mem_cons.mp hc with rfl | hc
      · exact .inl rfl
      · exact .inr (h.2.2 c hc))]
    rw [er]
    have hd : NumText.AllDigits r := fun c hc => h.2.2 c hc
    have es : NumText.sign ((45 :: r).dropWhile NumText.blank) = (true, r) := by rw [NumText.dropWhile_of (by decide)]; rfl
    have ec : NumText.core (45 :: r) = r := by
      unfold NumText.core
      rw [es]
      show (r.reverse.dropWhile NumText.blank).reverse = r
      rw [NumText.dropWhile_digits hd.reverse, List.reverse_reverse]
    rw [ec]
    have hne : r ≠ [] := fun e => by rw [e] at h; exact absurd h.1 (by decide)
    rw [NumText.digits_of hd hne]
    have hsz := NumText.push_size r #[]
    exact ⟨_, if_pos (by rw [hsz]; show 0 + _ ≤ _; omega)⟩
  · rw [if_neg z] at h
    have h := figs_num (Bool.and_eq_true_iff.mp h).1
    refine ⟨⟨_, intText_digits (fun c hc => h.2.2 c hc) (fun e => by rw [e] at h; exact absurd h.1 (by decide)) (by omega)⟩, by omega⟩
/-! texts as the program asks for them -/
theorem str_eq {x : Str} {l : List Nat} : x = ⟨l.toArray⟩ ↔ x.cps.toList = l := by
  obtain ⟨a⟩ := x
  constructor
  · intro e; injection e with e; rw [e]
  · intro e
    have e : a.toList = l := e
    rw [← e]
theorem head_take {l : List Nat} {c : Nat} : l.take 1 = [c] ↔ l.head? = some c := by
  cases l with
  | nil => simp
  | cons d r => simp
theorem starts_one (x : Str) (c : Nat) : Txt.startswith x ⟨#[c]⟩ = decide (x.cps.toList.head? = some c) := by
  have h := StrLaws.subAt_one x c 0
  have e : Txt.startswith x ⟨#[c]⟩ = (decide (0 + (⟨#[c]⟩ : Str).length ≤ x.length) && subAt x ⟨#[c]⟩ 0) := rfl
  rw [e]
  have e2 : x.cps.toList[0]? = x.cps.toList.head? := by cases x.cps.toList <;> rfl
  rw [e2] at h
  by_cases z : x.cps.toList.head? = some c
  · have := h.mpr z
    rw [decide_eq_true this.1, this.2, decide_eq_true z]; rfl
  · rw [decide_eq_false z]
    cases y : (decide (0 + (⟨#[c]⟩ : Str).length ≤ x.length) && subAt x ⟨#[c]⟩ 0) with
    | false => rfl
    | true =>
      have y := Bool.and_eq_true_iff.mp y
      exact absurd (h.mp ⟨of_decide_eq_true y.1, y.2⟩) z
theorem slice_from1 (x : Str) : (Txt.slice x (some 1) none).cps.toList = x.cps.toList.drop 1 := by
  have hl : x.cps.toList.length = x.length := Array.length_toList
  by_cases h : 1 ≤ x.cps.toList.length
  · have e := StrLaws.sliceText_from (x := x) (i := 1) ⟨by decide, by omega⟩
    have e' : Txt.slice x (some 1) none = ⟨((x.cps.toList.drop 1).take ((x.cps.toList.length : Int) - 1).toNat).toArray⟩ := e
    rw [e']
    show (x.cps.toList.drop 1).take ((x.cps.toList.length : Int) - 1).toNat = _
    rw [List.take_of_length_le (by rw [List.length_drop]; omega)]
  · have h0 : x.length = 0 := by omega
    have hle := Txt.slice_le x (some 1) none
    have e1 : (Txt.slice x (some 1) none).cps.toList = [] := List.length_eq_zero_iff.mp (by have : (Txt.slice x (some 1) none).cps.toList.length = (Txt.slice x (some 1) none).length := Array.length_toList; omega)
    have e2 : x.cps.toList = [] := List.length_eq_zero_iff.mp (by omega)
    rw [e1, e2]; rfl
theorem slice_to1 (x : Str) : (Txt.slice x none (some 1)).cps.toList = x.cps.toList.take 1 := by
  have hl : x.cps.toList.length = x.length := Array.length_toList
  by_cases h : 1 ≤ x.cps.toList.length
  · have e := StrLaws.sliceText_to (x := x) (j := 1) ⟨by decide, by omega⟩
    have e' : Txt.slice x none (some 1) = ⟨((x.cps.toList.drop 0).take (1 - 0 : Int).toNat).toArray⟩ := e
    rw [e']; rfl
  · have h0 : x.length = 0 := by omega
    have hle := Txt.slice_le x none (some 1)
    have e1 : (Txt.slice x none (some 1)).cps.toList = [] := List.length_eq_zero_iff.mp (by have : (Txt.slice x none (some 1)).cps.toList.length = (Txt.slice x none (some 1)).length := Array.length_toList; omega)
    have e2 : x.cps.toList = [] := List.length_eq_zero_iff.mp (by omega)
    rw [e1, e2]; rfl
/-! words -/
theorem sub_le (s : Str) (i j : Nat) : (strSub s i j).length ≤ s.length := by
  show (s.cps.extract i j).size ≤ s.cps.size
  rw [Array.size_extract]; omega
theorem split_le {x y w : Str} (h : w ∈ Txt.split x y) : w.length ≤ x.length := by
  unfold Txt.split at h
  split at h
  · rw [List.mem_singleton.mp h]; exact Nat.le_refl _
  · split at h
    · rw [List.mem_singleton.mp h]; exact Nat.le_refl _
    · unfold partsBetween at h
      obtain ⟨p, _, e⟩ := List.mem_map.mp h
      rw [← e]; exact sub_le _ _ _
theorem parts_le (x y : Str) : (partsBetween x (occurrences x y 0 x.length (x.length + 1)) y.length).length ≤ x.length + 2 := by
  rw [length_partsBetween]
  have := StrLaws.occ_length_le x y 0 x.length (x.length + 1)
  omega
theorem split_len (x y : Str) : (Txt.split x y).length ≤ x.length + 2 := by
  unfold Txt.split
  split
  · show 1 ≤ _; omega
  · split
    · show 1 ≤ _; omega
    · exact parts_le x y
/-! a row's text, read -/
def wordsM (z : Str) : List Str := if z = ("-" : Str) then [] else Txt.split z (" " : Str)
def goodM (z : Str) : Bool := (wordsM z).all fun w => numOk w.cps.toList
def intOf (w : Str) : Int := (intText? w).getD 0
def readM (z : Str) : List Int := (wordsM z).map intOf
theorem int_of {w : Str} (h : numOk w.cps.toList = true) : intText? w = some (intOf w) ∧ w.length ≤ 640 := by
  obtain ⟨⟨n, e⟩, hl⟩ := num_reads h
  refine ⟨?_, by omega⟩
  unfold intOf
  rw [e]; rfl
theorem words_len (z : Str) : (wordsM z).length ≤ z.length + 2 := by
  unfold wordsM
  split
  · exact Nat.zero_le _
  · exact split_len z _
theorem words_le {z w : Str} (h : w ∈ wordsM z) : w.length ≤ z.length := by
  unfold wordsM at h
  split at h
  · simp at h
  · exact split_le h
end My

set_option Elab.async false
set_option linter.all false
set_option maxRecDepth 100000
set_option maxHeartbeats 4000000
namespace Prf
open PySem L2
def top (i : Nat) : Stmt := PySem.Challenge.pw_unlikerow_k58_rows_written.main.body.getD i (.Pass ⟨0, 0, 0, 0⟩)
abbrev stare_figures : Stmt := top 10
abbrev stis_number : Stmt := top 11
abbrev stshow_row : Stmt := top 12
abbrev stread_row : Stmt := top 13
section
variable {P : Program} {w : World} {K : PySem.W.Frag} {mg : Str → Option Value} {base : Heap}
open My
theorem iteY {c A B : Prop} [Decidable c] (hc : c) (h : A) : if decide c = true then A else B := by
  rw [decide_eq_true hc]
  exact iteT h
theorem iteN {c A B : Prop} [Decidable c] (hc : ¬ c) (h : B) : if decide c = true then A else B := by
  rw [decide_eq_false hc]
  exact iteF h
theorem iteNN {c A B : Prop} [Decidable c] (hc : ¬ c) (h : A) : if (!decide c) = true then A else B := by
  rw [decide_eq_false hc]
  exact iteT h
theorem len_l (z : Str) : z.cps.toList.length = z.length := Array.length_toList
theorem zero_eq {z : Str} : V.str z = V.str "0" ↔ z.cps.toList = [48] := by
  constructor
  · intro e; injection e with e; rw [e]; decide +kernel
  · intro e; rw [str_eq.mpr e]; rfl
def spFig : Sp := fun vs H Q _ => ∃ (z : Str), vs = [.str z, .int 30] ∧ z.length ≤ 20000 ∧ ∀ H', Same H H' → Q (.bl (figOk z.cps.toList)) H'
theorem scare_figures : FnScope ["word", "most"] ["word", "most"] (defScope stare_figures) := ⟨rfl, rfl, rfl, by decide +kernel, rfl, by decide +kernel, by decide +kernel⟩
theorem ok_are_figures {f : Addr} {fd : FuncData} (B : Blt mg) (F : Fun K "are_figures" "are_figures" stare_figures f fd) : FnOk P w K mg base CX0 1 f fd ["word", "most"] spFig := by
  refine F.ok scare_figures (fun vs H Q E h => ?_) (fun cdv A outer s H vs Q E hr h => ?_)
  · obtain ⟨z, rfl, _⟩ := h
    rfl
  · obtain ⟨z, rfl, hz, q⟩ := h
    have hs : sizeLine = 16777216 := sizeLine_eq
    have hl := len_l z
    refine ⟨_, (pss_cons (ps_if (PW.pt (pw_or (pt_not (pt_chain op_le op_le pe_int (pe_callB call_len_str (by rfl) B.len PySem.boot_len (pa_cons (pv 0) pa_nil)) (pv 1))) (pw_or1 (pt_not (pt_val (pe_callB (allK (K := K) rfl rfl) (by rfl) B.all boot_all' (pa_cons (pe_lc (own := ["sign"]) (ix := []) (N := ["sign"]) rfl (LcOk.of (by rfl)) (pi_str (pv 0)) (fun _ _ _ _ _ => (pg_name (i := 0) (show (["sign"] : List Str).Nodup by decide +kernel) rfl (by first | exact Or.inl rfl | exact Or.inr rfl))) (fun _ _ _ _ _ => pts_nil) (fun _ _ _ _ _ => (pe_cmpR op_in_str (pv 0) pe_str rfl))) pa_nil)))))))
  (pss_one (ps_ret pe_bl))
  pss_nil)
  (pss_one (ps_ret (pe_or (pe_cmpR op_eq (pv 0) pe_str (nomark _)) (pe_one (pe_not (pe_bm PySem.F.plainAttrs_str PySem.F.slot_str_startswith PySem.F.type_str_startswith mt_startswith (pv 0) (pa_cons pe_str pa_nil)))))))), ?_⟩
    refine ⟨_, rfl, z, rfl, by omega, _, _, rfl, rfl, _, rfl, ?_⟩
    have no : figs z.cps.toList = false → Q (.bl false) H := fun e => by
      have := q H (Same.refl _)
      unfold figOk at this
      rw [e] at this
      exact this
    by_cases h1 : 1 ≤ z.length
    · refine iteY (by omega) ⟨_, rfl, _, _, rfl, rfl, _, rfl, ?_⟩
      by_cases h2 : z.length ≤ 30
      · refine iteNS (by omega) ⟨_, rfl, z, rfl, fun D hD => ?_⟩
        refine lc_str_ev (cap := []) (fun c => .bl (inDig c)) (by show z.length < _; omega) hD (fun c H' _ _ Q' kk => ⟨_, rfl, _, _, rfl, rfl, by rw [in_dig]; exact kk H' (Same.refl _)⟩) (fun H1 s1 e1 => ?_)
        refine ⟨D, z.cps.toList.map inDig, rfl, SqL.of (by rw [e1, List.map_map]; rfl), _, rfl, ?_⟩
        have ef : figs z.cps.toList = (z.cps.toList.map inDig).all id := by
          unfold figs
          rw [decide_eq_true (by omega), Bool.true_and, List.all_map]; rfl
        rw [← ef]
        cases hf : figs z.cps.toList with
        | false =>
          have := q H1 s1
          unfold figOk at this
          rw [hf] at this
          exact iteT this
        | true =>
          refine iteF ⟨_, rfl, rfl, _, rfl, ?_⟩
          have q' := fun H' s' => q H' s'
          unfold figOk at q'
          rw [hf, Bool.true_and] at q'
          by_cases z0 : z.cps.toList = [48]
          · refine iteY (zero_eq.mpr z0) ?_
            have := q' H1 s1
            rw [decide_eq_true z0] at this
            exact this
          · refine iteN (fun e => z0 (zero_eq.mp e)) ⟨_, rfl, rfl, z, _, rfl, rfl, _, rfl, ?_⟩
            have := q' H1 s1
            rw [decide_eq_false z0, Bool.false_or] at this
            rw [show Txt.startswith z "0" = decide (z.cps.toList.head? = some 48) from starts_one z 48]
            exact this
      · refine iteNN (by omega) ?_
        exact no (by unfold figs; rw [decide_eq_false (by omega)]; rfl)
    · refine iteN (by omega) ⟨_, rfl, iteT ?_⟩
      exact no (by unfold figs; rw [decide_eq_false (by omega)]; rfl)
def spWord : Sp := fun vs H Q _ => ∃ (z : Str), vs = [.str z] ∧ z.length ≤ 20000 ∧ ∀ H', Same H H' → Q (.bl (numOk z.cps.toList)) H'
theorem scis_number : FnScope ["word"] ["word"] (defScope stis_number) := ⟨rfl, rfl, rfl, by decide +kernel, rfl, by decide +kernel, by decide +kernel⟩
theorem ok_is_number {f : Addr} {fd : FuncData} {tN : Tok} (bNUMBER_FIGURES : mg "NUMBER_FIGURES" = some (.int 30 tN)) (F : Fun K "is_number" "is_number" stis_number f fd) (hare_figures : Has P w K mg base "are_figures" 1 ["word", "most"] spFig) : FnOk P w K mg base CX0 2 f fd ["word"] spWord := by
  refine F.ok scis_number (fun vs H Q E h => ?_) (fun cdv A outer s H vs Q E hr h => ?_)
  · obtain ⟨z, rfl, _⟩ := h
    rfl
  · obtain ⟨z, rfl, hz, q⟩ := h
    have hs : sizeLine = 16777216 := sizeLine_eq
    have hl := len_l z
    refine ⟨_, (pss_cons (ps_if (pt_val (pe_bm PySem.F.plainAttrs_str PySem.F.slot_str_startswith PySem.F.type_str_startswith mt_startswith (pv 0) (pa_cons pe_str pa_nil)))
  (pss_one (ps_ret (pe_and (pe_cmpR op_ne (pv 0) pe_str (nomark _)) (pe_one (pe_callH hare_figures (hr.mono (by decide)) (by rfl) (pa_cons (pe_slice sl_str (pv 0) (po_some pe_int) po_none) (pa_cons (pe_glob (v := (.int 30)) (by rfl) bNUMBER_FIGURES ⟨_, rfl⟩) pa_nil)))))))
  pss_nil)
  (pss_one (ps_ret (pe_callH hare_figures (hr.mono (by decide)) (by rfl) (pa_cons (pv 0) (pa_cons (pe_glob (v := (.int 30)) (by rfl) bNUMBER_FIGURES ⟨_, rfl⟩) pa_nil)))))), ?_⟩
    refine ⟨_, rfl, rfl, z, _, rfl, rfl, _, rfl, ?_⟩
    rw [show Txt.startswith z "-" = decide (z.cps.toList.head? = some 45) from starts_one z 45]
    unfold numOk at q
    by_cases h : z.cps.toList.head? = some 45
    · rw [if_pos h] at q
      refine iteY h ⟨_, rfl, rfl, _, rfl, ?_⟩
      have e0 : V.str z = V.str "-0" ↔ z.cps.toList = [45, 48] := by
        constructor
        · intro e; injection e with e; rw [e]; decide +kernel
        · intro e; rw [str_eq.mpr e]; rfl
      by_cases y : z.cps.toList = [45, 48]
      · rw [decide_eq_true (e0.mpr y)]
        have := q H (Same.refl _)
        rw [decide_eq_true y] at this
        exact iteF this
      · rw [decide_eq_false (fun e => y (e0.mp e))]
        refine iteT ⟨_, rfl, _, rfl, z, rfl, by omega, Txt.slice z (some 1) none, rfl, by have := Txt.slice_le z (some 1) none; omega, fun H' s' => ?_⟩
        have := q H' s'
        rw [decide_eq_false y, Bool.not_false, Bool.true_and, ← slice_from1] at this
        exact this
    · rw [if_neg h] at q
      exact iteN h ⟨_, rfl, z, rfl, hz, q⟩
def textM (ns : List Int) : Str := if ns = [] then "-" else Txt.join " " (ns.map fun n => (Str.ofString (toString n)))
theorem text_len {n : Int} (h : n.natAbs ≤ 10 ^ 20) : (Str.ofString (toString n)).length ≤ 22 := by
  have h1 : (10 : Nat) ^ 20 < 10 ^ 21 := by decide
  have := int_text_length_le10 (a := n) (k := 21) (by decide) (by omega)
  rw [ofString_length]; exact this
theorem log_ok {n : Int} (h : n.natAbs ≤ 10 ^ 20) : n.natAbs.log2 < 1920 := by
  by_cases z : n.natAbs = 0
  · rw [z]; decide
  · have h1 : n.natAbs < 2 ^ 100 := by have : (10 : Nat) ^ 20 < 2 ^ 100 := by decide
                                       omega
    have := (Nat.log2_lt z).mpr h1
    omega
end
section
variable {P : Program} {w : World} {K : PySem.W.Frag} {mg : Str → Option Value} {base : Heap} {r cNoRow : Addr} {ds : List Addr}
open My
theorem join_ok {ns : List Int} (h : ns.length ≤ 310) (hb : ∀ n ∈ ns, n.natAbs ≤ 10 ^ 20) : JoinOk " " (ns.map fun n => (Str.ofString (toString n))) = true := by
  unfold JoinOk
  rw [StrLaws.joinFits (B := 22) (fun y hy => by
    obtain ⟨n, hn, rfl⟩ := List.mem_map.mp hy
    exact text_len (hb n hn)) (by rw [List.length_map]; show _ * 22 + _ * 1 ≤ _; omega)]
  rfl
theorem text_le {ns : List Int} (h : ns.length ≤ 310) (hb : ∀ n ∈ ns, n.natAbs ≤ 10 ^ 20) : (textM ns).length ≤ 8000 := by
  unfold textM
  split
  · decide +kernel
  · show (Builtin.Str.glued " " _).length ≤ 8000
    rw [StrLaws.glued_eq_join]
    have h1 := StrLaws.join_length_le " " (ns.map fun n => (Str.ofString (toString n)))
    have h2 := StrLaws.sumLen_le (B := 22) (ns.map fun n => (Str.ofString (toString n))) (fun y hy => by
      obtain ⟨n, hn, rfl⟩ := List.mem_map.mp hy
      exact text_len (hb n hn))
    have h3 : Str.length (" " : Str) = 1 := rfl
    rw [List.length_map] at h1 h2
    rw [h3] at h1
    omega
def strV : V → V
  | .int n => .str (Str.ofString (toString n))
  | v => v
def spShow (K : PySem.W.Frag) : Sp := fun vs H Q _ => ∃ (a : Addr) (ns : List Int), vs = [.ref a] ∧ SqL K H a (ns.map V.int) ∧ ns.length ≤ 310 ∧ (∀ n ∈ ns, n.natAbs ≤ 10 ^ 20) ∧ ∀ H', Same H H' → Q (.str (textM ns)) H'
theorem str_heap {ns : List Int} : ((ns.map V.int).filter fun _ => true).map strV = (ns.map fun n => (Str.ofString (toString n))).map V.str := by
  rw [List.filter_eq_self.mpr (fun _ _ => rfl), List.map_map, List.map_map]; rfl
theorem scshow_row : FnScope ["row"] ["row"] (defScope stshow_row) := ⟨rfl, rfl, rfl, by decide +kernel, rfl, by decide +kernel, by decide +kernel⟩
theorem ok_show_row {f : Addr} {fd : FuncData} (B : Blt mg) (bstr : mg "str" = none) (F : Fun K "show_row" "show_row" stshow_row f fd) : FnOk P w K mg base CX0 1 f fd ["row"] (spShow K) := by
  refine F.ok scshow_row (fun vs H Q E h => ?_) (fun cdv A outer s H vs Q E hr h => ?_)
  · obtain ⟨a, ns, rfl, _⟩ := h
    rfl
  · obtain ⟨a, ns, rfl, hq, hn, hb, q⟩ := h
    have hs : sizeLine = 16777216 := sizeLine_eq
    refine ⟨_, (pss_cons (ps_if (pt_cmpR op_eq (pe_callB (lenK (K := K) rfl) (by rfl) B.len PySem.boot_len (pa_cons (pv 0) pa_nil)) pe_int (nomark _))
  (pss_one (ps_ret pe_str))
  pss_nil)
  (pss_one (ps_ret (pe_bm PySem.F.plainAttrs_str PySem.F.slot_str_join PySem.F.type_str_join (mt_join (K := K) rfl) pe_str (pa_cons (pe_lc (own := ["number"]) (ix := []) (N := ["number"]) rfl (LcOk.of (by rfl)) (piK (K := K) rfl (pv 0)) (fun _ _ _ _ _ => (pg_name (i := 0) (show (["number"] : List Str).Nodup by decide +kernel) rfl (by first | exact Or.inl rfl | exact Or.inr rfl))) (fun _ _ _ _ _ => pts_nil) (fun _ _ _ _ _ => (pe_callTy call_str_int (by rfl) bstr boot_str' (pa_cons (pv 0) pa_nil)))) pa_nil))))), ?_⟩
    refine ⟨_, rfl, a, _, rfl, .inl hq, rfl, _, rfl, ?_⟩
    rw [List.length_map]
    by_cases z : ns = []
    · refine iteY (by rw [z]; rfl) ?_
      have := q H (Same.refl _)
      unfold textM at this
      rw [if_pos z] at this
      exact this
    · refine iteN (fun e => z (List.length_eq_zero_iff.mp (by injection e with e; omega))) ?_
      refine ⟨rfl, _, rfl, a, rfl, ⟨_, hq⟩, fun D hD => ?_⟩
      refine lc_list_ev (cap := []) (xs := ns.map V.int) (fun _ => true) strV (small1000 (by rw [List.length_map]; omega)) hD hq (fun _ H' _ _ => evYes) (fun y H' hy _ s' Q' kk => ?_) (fun H1 s1 e1 => ?_)
      · obtain ⟨n, hn', rfl⟩ := List.mem_map.mp hy
        exact ⟨_, rfl, n, rfl, log_ok (hb n hn'), kk H' (Same.refl _)⟩
      rw [str_heap] at e1
      refine ⟨_, D, _, rfl, rfl, SqL.of e1, join_ok hn hb, ?_⟩
      have := q H1 s1
      unfold textM at this
      rw [if_neg z] at this
      exact this
def boolV : V → V
  | .str z => .bl (numOk z.cps.toList)
  | v => v
def intV : V → V
  | .str z => .int (intOf z)
  | v => v
theorem bool_heap {ws : List Str} : ((ws.map V.str).filter fun _ => true).map boolV = (ws.map fun w => numOk w.cps.toList).map V.bl := by
  rw [List.filter_eq_self.mpr (fun _ _ => rfl), List.map_map, List.map_map]; rfl
theorem int_heap {ws : List Str} : ((ws.map V.str).filter fun _ => true).map intV = (ws.map intOf).map V.int := by
  rw [List.filter_eq_self.mpr (fun _ _ => rfl), List.map_map, List.map_map]; rfl
theorem good_all {ws : List Str} : (ws.map fun w => numOk w.cps.toList).all id = ws.all fun w => numOk w.cps.toList := by rw [List.all_map]; rfl
def spRead : Sp := fun vs H Q _ => ∃ (z : Str), vs = [.str z] ∧ z.length ≤ 20000 ∧ goodM z = true ∧ ∀ (l : Addr) (H' : Hp), H l = none → Same H H' → H' l = some (.lst ((readM z).map V.int)) → Q (.ref l) H'
theorem scread_row : FnScope ["text", "words"] ["text"] (defScope stread_row) := ⟨rfl, rfl, rfl, by decide +kernel, rfl, by decide +kernel, by decide +kernel⟩
theorem ok_read_row {f : Addr} {fd : FuncData} (B : Blt mg) (F : Fun K "read_row" "read_row" stread_row f fd) (his_number : Has P w K mg base "is_number" 2 ["word"] spWord) : FnOk P w K mg base CX0 3 f fd ["text"] spRead := by
  refine F.ok scread_row (fun vs H Q E h => ?_) (fun cdv A outer s H vs Q E hr h => ?_)
  · obtain ⟨z, rfl, _⟩ := h
    rfl
  · obtain ⟨z, rfl, hz, hg, q⟩ := h
    have hs : sizeLine = 16777216 := sizeLine_eq
    refine ⟨_, (pss_cons (ps_if (pt_cmpR op_eq (pv 0) pe_str (nomark _))
  (pss_one (ps_ret (pe_lst pa_nil)))
  pss_nil)
  (pss_cons (ps_set (i := 1) scread_row.nd rfl (Or.inl rfl) (pe_bm PySem.F.plainAttrs_str PySem.F.slot_str_split PySem.F.type_str_split mt_split (pv 0) (pa_cons pe_str pa_nil)))
  (pss_cons (ps_if (pt_not (pt_val (pe_callB (allK (K := K) rfl rfl) (by rfl) B.all boot_all' (pa_cons (pe_lc (own := ["word"]) (ix := []) (N := ["word"]) rfl (LcOk.of (by rfl)) (piK (K := K) rfl (pv 1)) (fun _ _ _ _ _ => (pg_name (i := 0) (show (["word"] : List Str).Nodup by decide +kernel) rfl (by first | exact Or.inl rfl | exact Or.inr rfl))) (fun _ _ _ _ _ => pts_nil) (fun _ _ _ _ _ => (pe_callH his_number (hr.mono (by decide)) (by rfl) (pa_cons (pv 0) pa_nil)))) pa_nil))))
  (pss_one ps_never)
  pss_nil)
  (pss_one (ps_ret (pe_lc (own := ["word"]) (ix := []) (N := ["word"]) rfl (LcOk.of (by rfl)) (piK (K := K) rfl (pv 1)) (fun _ _ _ _ _ => (pg_name (i := 0) (show (["word"] : List Str).Nodup by decide +kernel) rfl (by first | exact Or.inl rfl | exact Or.inr rfl))) (fun _ _ _ _ _ => pts_nil) (fun _ _ _ _ _ => (pe_callTy call_int_text (by rfl) B.int boot_int' (pa_cons (pv 0) pa_nil))))))))), ?_⟩
    refine ⟨_, rfl, rfl, _, rfl, ?_⟩
    unfold goodM at hg
    unfold readM at q
    unfold wordsM at hg q
    by_cases y : z = "-"
    · rw [if_pos y] at q
      exact iteY (by rw [y]) ⟨by show 0 ≤ sizeLine; omega, fun l nl => q l _ nl (Same.new nl) upd_same⟩
    rw [if_neg y] at q hg
    have h1 := split_len z " "
    refine iteN (fun e => y (by injection e)) ⟨_, rfl, rfl, z, _, rfl, rfl, by omega, rfl, by have := parts_le z " "; omega, fun l nl => ?_⟩
    have s1 := Same.new (o := .lst ((Txt.split z " ").map V.str)) nl
    have el : upd H l (.lst ((Txt.split z " ").map V.str)) l = _ := upd_same
    have hw : ∀ x ∈ Txt.split z " ", x.length ≤ 20000 := fun x hx => Nat.le_trans (split_le hx) hz
    generalize Txt.split z " " = ws at *
    generalize upd H l (.lst (ws.map V.str)) = H1 at s1 el ⊢
    refine ⟨_, rfl, l, rfl, ⟨_, SqL.of el⟩, fun D hD => ?_⟩
    refine lc_list_ev (cap := []) (xs := ws.map V.str) (fun _ => true) boolV (by rw [List.length_map]; omega) hD (SqL.of el) (fun _ H' _ _ => evYes) (fun y' H' hy _ s' Q' kk => ?_) (fun H2 s2 e2 => ?_)
    · obtain ⟨x, hx, rfl⟩ := List.mem_map.mp hy
      exact ⟨_, rfl, x, rfl, hw x hx, fun H'' s'' => kk H'' s''⟩
    rw [bool_heap] at e2
    refine ⟨D, _, rfl, SqL.of e2, _, rfl, iteNB (by rw [good_all]; exact hg) ?_⟩
    have el2 := s2 _ _ el
    refine ⟨_, rfl, l, rfl, ⟨_, SqL.of el2⟩, fun D2 hD2 => ?_⟩
    refine lc_list_ev (cap := []) (xs := ws.map V.str) (fun _ => true) intV (by rw [List.length_map]; omega) hD2 (SqL.of el2) (fun _ H' _ _ => evYes) (fun y' H' hy _ s' Q' kk => ?_) (fun H3 s3 e3 => ?_)
    · obtain ⟨x, hx, rfl⟩ := List.mem_map.mp hy
      have hi := int_of (List.all_eq_true.mp hg x hx)
      exact ⟨_, rfl, x, _, rfl, hi.1, hi.2, kk H' (Same.refl _)⟩
    rw [int_heap] at e3
    exact q D2 _ ((s1.trans s2).free hD2) ((s1.trans s2).trans s3) e3
def spReadE (W : Addr) : Sp := fun vs H _ E => ∃ (z : Str), vs = [.str z] ∧ z.length ≤ 20000 ∧ goodM z = false ∧ ∀ H', Same H H' → E (.ref W) none H'
theorem ok_read_rowE {f : Addr} {fd : FuncData} (B : Blt mg) (xNoRow : XOwn K mg "NoRow" cNoRow r ds) (F : Fun K "read_row" "read_row" stread_row f fd) (his_number : Has P w K mg base "is_number" 2 ["word"] spWord) : FnOk P w K mg base (CXe P w) 3 f fd ["text"] (spReadE cNoRow) := by
  refine F.okE scread_row (fun vs H Q E h => ?_) (fun cdv A outer s H vs Q E hr h => ?_)
  · obtain ⟨z, rfl, _⟩ := h
    rfl
  · obtain ⟨z, rfl, hz, hg, e⟩ := h
    have hs : sizeLine = 16777216 := sizeLine_eq
    refine ⟨_, (pss_cons (PS.nox (ps_if (pt_cmpR op_eq (pv 0) pe_str (nomark _))
  (pss_one (ps_ret (pe_lst pa_nil)))
  pss_nil))
  (pss_cons (PS.nox (ps_set (i := 1) scread_row.nd rfl (Or.inl rfl) (pe_bm PySem.F.plainAttrs_str PySem.F.slot_str_split PySem.F.type_str_split mt_split (pv 0) (pa_cons pe_str pa_nil))))
  (pss_cons (ps_if (pt_not (pt_val (pe_callB (allK (K := K) rfl rfl) (by rfl) B.all boot_all' (pa_cons (pe_lc (own := ["word"]) (ix := []) (N := ["word"]) rfl (LcOk.of (by rfl)) (piK (K := K) rfl (pv 1)) (fun _ _ _ _ _ => (pg_name (i := 0) (show (["word"] : List Str).Nodup by decide +kernel) rfl (by first | exact Or.inl rfl | exact Or.inr rfl))) (fun _ _ _ _ _ => pts_nil) (fun _ _ _ _ _ => (pe_callH his_number (hr.mono (by decide)) (by rfl) (pa_cons (pv 0) pa_nil)))) pa_nil))))
  (pss_one (ps_raise xNoRow.cl (by rfl) (pa_cons pe_str pa_nil)))
  pss_nil)
  (pss_one (PS.nox (ps_ret (pe_lc (own := ["word"]) (ix := []) (N := ["word"]) rfl (LcOk.of (by rfl)) (piK (K := K) rfl (pv 1)) (fun _ _ _ _ _ => (pg_name (i := 0) (show (["word"] : List Str).Nodup by decide +kernel) rfl (by first | exact Or.inl rfl | exact Or.inr rfl))) (fun _ _ _ _ _ => pts_nil) (fun _ _ _ _ _ => (pe_callTy call_int_text (by rfl) B.int boot_int' (pa_cons (pv 0) pa_nil)))))))))), ?_⟩
    refine ⟨_, rfl, rfl, _, rfl, ?_⟩
    unfold goodM at hg
    unfold wordsM at hg
    by_cases y : z = "-"
    · rw [if_pos y] at hg; cases hg
    rw [if_neg y] at hg
    have h1 := split_len z " "
    refine iteN (fun e => y (by injection e)) ⟨_, rfl, rfl, z, _, rfl, rfl, by omega, rfl, by have := parts_le z " "; omega, fun l nl => ?_⟩
    have s1 := Same.new (o := .lst ((Txt.split z " ").map V.str)) nl
    have el : upd H l (.lst ((Txt.split z " ").map V.str)) l = _ := upd_same
    have hw : ∀ x ∈ Txt.split z " ", x.length ≤ 20000 := fun x hx => Nat.le_trans (split_le hx) hz
    generalize Txt.split z " " = ws at *
    generalize upd H l (.lst (ws.map V.str)) = H1 at s1 el ⊢
    refine ⟨_, rfl, l, rfl, ⟨_, SqL.of el⟩, fun D hD => ?_⟩
    refine lc_list_ev (cap := []) (xs := ws.map V.str) (fun _ => true) boolV (by rw [List.length_map]; omega) hD (SqL.of el) (fun _ H' _ _ => evYes) (fun y' H' hy _ s' Q' kk => ?_) (fun H2 s2 e2 => ?_)
    · obtain ⟨x, hx, rfl⟩ := List.mem_map.mp hy
      exact ⟨_, rfl, x, rfl, hw x hx, fun H'' s'' => kk H'' s''⟩
    rw [bool_heap] at e2
    refine ⟨D, _, rfl, SqL.of e2, _, rfl, ?_⟩
    rw [good_all, hg]
    exact iteT ⟨by show 1 ≤ sizeLine; decide, e _ (s1.trans s2)⟩
end
abbrev st_law_cell_at : Stmt := top 15
abbrev st_law_take : Stmt := top 16
abbrev st_law_deck : Stmt := top 17
abbrev st_law_number : Stmt := top 18
abbrev st_law_row_of : Stmt := top 19
section
variable {P : Program} {w : World} {K : PySem.W.Frag} {mg : Str → Option Value} {base : Heap}
open My
theorem sc_law_cell_at : FnScope ["script", "k"] ["script", "k"] (defScope st_law_cell_at) := ⟨rfl, rfl, rfl, by decide +kernel, rfl, by decide +kernel, by decide +kernel⟩
theorem ok_law_cell_at {f : Addr} {fd : FuncData} (B : Blt mg) (F : Fun K "_law_cell_at" "_law_cell_at" st_law_cell_at f fd) : FnOk P w K mg base CX0 1 f fd ["script", "k"] (spCellK K) := by
  refine F.ok sc_law_cell_at (fun vs H Q E h => ?_) (fun cdv A outer s H vs Q E hr h => ?_)
  · obtain ⟨a, ns, k, rfl, _⟩ := h
    rfl
  · obtain ⟨a, ns, k, rfl, hq, q⟩ := h
    refine ⟨_, (pss_cons (ps_if (pt_cmpR op_lt (pv 1) (pe_callB (lenK (K := K) rfl) (by rfl) B.len PySem.boot_len (pa_cons (pv 0) pa_nil)) (nomark _))
  (pss_one (ps_ret (pe_ix (ixK (K := K) rfl) (pv 0) (pv 1) (fun _ _ => rfl))))
  pss_nil)
  (pss_one (ps_ret pe_int))), ?_⟩
    refine ⟨_, rfl, _, rfl, a, _, rfl, .inl hq, _, _, rfl, rfl, _, rfl, ?_⟩
    rw [len_int]
    refine ite2 (fun z => ?_) (fun z => ?_)
    · have hk : k < ns.length := by have := of_decide_eq_true z; omega
      exact ⟨_, rfl, _, rfl, a, _, _, _, rfl, rfl, hq, atI_at hk, q⟩
    · have hk : ns.length ≤ k := by
        have : ¬ ((k : Int) < (ns.length : Int)) := fun y => z (decide_eq_true y)
        omega
      rw [List.getD_eq_getElem?_getD, List.getElem?_eq_none hk] at q
      exact q
theorem sc_law_take : FnScope ["deck", "many", "come", "number"] ["deck", "many"] (defScope st_law_take) := ⟨rfl, rfl, rfl, by decide +kernel, rfl, by decide +kernel, by decide +kernel⟩
theorem ok_law_take {f : Addr} {fd : FuncData} (F : Fun K "_law_take" "_law_take" st_law_take f fd) : FnOk P w K mg base CX0 1 f fd ["deck", "many"] spTakeK := by
  refine F.ok sc_law_take (fun vs H Q E h => ?_) (fun cdv A outer s H vs Q E hr h => ?_)
  · obtain ⟨d, n, m, rfl, _⟩ := h
    rfl
  · obtain ⟨d, n, m, rfl, ⟨c, o, k, e, hk⟩, hn, hm1, hm2, q⟩ := h
    refine ⟨_, (pss_cons (ps_if (pt_cmpR op_eq (pe_ix (ixK (K := K) rfl) (pv 0) pe_int (fun _ _ => rfl)) pe_int (nomark _))
  (pss_cons (ps_set (i := 2) sc_law_take.nd rfl (Or.inl rfl) (pe_op op_mod (pe_ix (ixK (K := K) rfl) (pv 0) pe_int (fun _ _ => rfl)) (pv 1)))
  (pss_cons (ps_asg (pe_op op_fdiv (pe_ix (ixK (K := K) rfl) (pv 0) pe_int (fun _ _ => rfl)) (pv 1)) (pg_sub (pv 0) pe_int set_list))
  (pss_one (ps_ret (pv 2)))))
  pss_nil)
  (pss_cons (ps_asg (pe_op op_add (pe_ix (ixK (K := K) rfl) (pv 0) pe_int (fun _ _ => rfl)) pe_int) (pg_sub (pv 0) pe_int set_list))
  (pss_cons (ps_set (i := 3) sc_law_take.nd rfl (Or.inl rfl) (pe_op op_mul (pe_op op_mod (pe_ix (ixK (K := K) rfl) (pv 0) pe_int (fun _ _ => rfl)) pe_int) (pe_op op_add (pe_op op_mul (pe_ix (ixK (K := K) rfl) (pv 0) pe_int (fun _ _ => rfl)) (pe_ix (ixK (K := K) rfl) (pv 0) pe_int (fun _ _ => rfl))) pe_int)))
  (pss_cons (ps_set (i := 3) sc_law_take.nd rfl (Or.inl rfl) (pe_op op_mod (pe_op op_add (pe_op op_add (pv 3) (pe_ix (ixK (K := K) rfl) (pv 0) pe_int (fun _ _ => rfl))) pe_int) pe_int))
  (pss_cons (ps_set (i := 3) sc_law_take.nd rfl (Or.inl rfl) (pe_op op_mod (pe_op op_mul (pv 3) (pv 3)) pe_int))
  (pss_one (ps_ret (pe_op op_mod (pe_op op_fdiv (pe_op op_mod (pe_op op_mul (pv 3) pe_int) pe_int) pe_int) (pv 1))))))))), ?_⟩
    refine ⟨_, rfl, d, _, _, _, rfl, rfl, SqL.of e, rfl, rfl, _, rfl, ite2 (fun z => ?_) (fun z => ?_)⟩
    · refine ⟨_, rfl, d, _, _, _, rfl, rfl, SqL.of e, rfl, _, rfl, _, _, rfl, rfl, (show (0 : Int) < (m : Int) by omega), ?_⟩
      have m0 := Int.emod_nonneg c (show (m : Int) ≠ 0 by omega)
      have m1 := Int.emod_lt_of_pos c (show (0 : Int) < (m : Int) by omega)
      refine ⟨_, rfl, d, _, _, _, rfl, rfl, SqL.of e, rfl, _, rfl, _, _, rfl, rfl, ⟨(show (0 : Int) < (m : Int) by omega), (show (m : Int) < 1073741824 by omega)⟩, _, rfl, d, _, _, 0, rfl, rfl, e, rfl, ?_⟩
      refine ⟨_, rfl, ?_⟩
      dsimp only [List.set, L2.start]
      generalize c % (m : Int) = r at m0 m1
      obtain ⟨r, rfl⟩ : ∃ r' : Nat, r = (r' : Int) := ⟨r.toNat, by omega⟩
      exact q r _ (by omega) ⟨_, _, k, upd_same, by omega⟩ SameX.of_upd
    refine ⟨_, rfl, d, _, _, _, rfl, rfl, SqL.of e, rfl, _, _, rfl, rfl, _, rfl, d, _, _, 2, rfl, rfl, e, rfl, ?_⟩
    dsimp only [List.set, L2.start]
    have e1 := upd_same (H := H) (a := d) (o := .lst [V.int c, V.int o, V.int ((k : Int) + 1)])
    have sx := SameX.of_upd (h := d) (H := H) (o := .lst [V.int c, V.int o, V.int ((k : Int) + 1)])
    generalize upd H d (.lst [V.int c, V.int o, V.int ((k : Int) + 1)]) = H1 at e1 sx ⊢
    have c0 := Int.emod_nonneg c (show (2147483647 : Int) ≠ 0 by decide)
    have c1 := Int.emod_lt_of_pos c (show (0 : Int) < 2147483647 by decide)
    refine ⟨_, rfl, d, _, _, _, rfl, rfl, SqL.of e1, rfl, _, _, rfl, rfl, (show (0 : Int) < 2147483647 by decide), _, rfl, d, _, _, _, rfl, rfl, SqL.of e1, rfl, _, rfl, d, _, _, _, rfl, rfl, SqL.of e1, rfl, _, _, rfl, rfl, .inl ⟨(show -(2 ^ 64) < (k : Int) + 1 by omega), (show (k : Int) + 1 < 2 ^ 64 by omega)⟩, _, _, rfl, rfl, _, _, rfl, rfl, .inl ⟨by omega, by omega⟩, ?_⟩
    dsimp only [List.set]
    generalize c % 2147483647 * (((k : Int) + 1) * ((k : Int) + 1) + 48271) = n1
    refine ⟨_, rfl, _, rfl, d, _, _, _, rfl, rfl, SqL.of e1, rfl, _, _, rfl, rfl, _, _, rfl, rfl, _, _, rfl, rfl, (show (0 : Int) < 2147483629 by decide), ?_⟩
    have b0 := Int.emod_nonneg (n1 + ((k : Int) + 1) + 7) (show (2147483629 : Int) ≠ 0 by decide)
    have b1 := Int.emod_lt_of_pos (n1 + ((k : Int) + 1) + 7) (show (0 : Int) < 2147483629 by decide)
    dsimp only [List.set]
    generalize (n1 + ((k : Int) + 1) + 7) % 2147483629 = n2 at b0 b1
    refine ⟨_, rfl, _, rfl, _, _, rfl, rfl, .inl ⟨by omega, by omega⟩, _, _, rfl, rfl, (show (0 : Int) < 2147483587 by decide), ?_⟩
    have a0 := Int.emod_nonneg (n2 * n2) (show (2147483587 : Int) ≠ 0 by decide)
    have a1 := Int.emod_lt_of_pos (n2 * n2) (show (0 : Int) < 2147483587 by decide)
    dsimp only [List.set]
    generalize n2 * n2 % 2147483587 = n3 at a0 a1
    refine ⟨_, rfl, _, _, rfl, rfl, .inl ⟨by omega, by omega⟩, _, _, rfl, rfl, (show (0 : Int) < 2147483563 by decide), _, _, rfl, rfl, ⟨by decide, by decide⟩, _, rfl, _, _, rfl, rfl, (show (0 : Int) < (m : Int) by omega), ?_⟩
    have m0 := Int.emod_nonneg (n3 * 69621 % 2147483563 / 8) (show (m : Int) ≠ 0 by omega)
    have m1 := Int.emod_lt_of_pos (n3 * 69621 % 2147483563 / 8) (show (0 : Int) < (m : Int) by omega)
    dsimp only
    generalize n3 * 69621 % 2147483563 / 8 % (m : Int) = r at m0 m1
    obtain ⟨r, rfl⟩ : ∃ r' : Nat, r = (r' : Int) := ⟨r.toNat, by omega⟩
    exact q r _ (by omega) ⟨c, o, k + 1, e1, by omega⟩ sx
theorem sc_law_deck : FnScope ["cell", "k"] ["cell", "k"] (defScope st_law_deck) := ⟨rfl, rfl, rfl, by decide +kernel, rfl, by decide +kernel, by decide +kernel⟩
theorem ok_law_deck {f : Addr} {fd : FuncData} (F : Fun K "_law_deck" "_law_deck" st_law_deck f fd) : FnOk P w K mg base CX0 1 f fd ["cell", "k"] spDeckK := by
  refine F.ok sc_law_deck (fun vs H Q E h => ?_) (fun cdv A outer s H vs Q E hr h => ?_)
  · obtain ⟨c, k, rfl, _⟩ := h
    rfl
  · obtain ⟨c, k, rfl, q⟩ := h
    refine ⟨_, (pss_cons (ps_if (pt_cmpR op_ge (pv 0) (pe_op op_pow pe_int pe_int) (nomark _))
  (pss_one (ps_ret (pe_lst (pa_cons (pe_op op_sub (pv 0) (pe_op op_pow pe_int pe_int)) (pa_cons pe_int (pa_cons (pv 1) pa_nil))))))
  pss_nil)
  (pss_one (ps_ret (pe_lst (pa_cons (pv 0) (pa_cons pe_int (pa_cons (pv 1) pa_nil))))))), ?_⟩
    refine ⟨_, rfl, _, _, rfl, rfl, ⟨by decide, by decide, by decide⟩, _, _, rfl, rfl, _, rfl, ite2 (fun z => ?_) (fun z => ?_)⟩
    · refine ⟨_, rfl, _, _, rfl, rfl, ⟨by decide, by decide, by decide⟩, _, _, rfl, rfl, _, rfl, by show 3 ≤ sizeLine; decide, fun d nd => q d _ nd (Same.new nd) ⟨_, _, k, upd_same, Nat.le_refl _⟩⟩
    · exact ⟨_, rfl, _, rfl, by show 3 ≤ sizeLine; decide, fun d nd => q d _ nd (Same.new nd) ⟨_, _, k, upd_same, Nat.le_refl _⟩⟩
def spNumB : Sp := fun vs H Q _ => ∃ (d : Addr) (n : Nat), vs = [.ref d] ∧ DkAt H d n ∧ n ≤ 90000 ∧ ∀ (r : Int) (H' : Hp), r.natAbs ≤ 10 ^ 20 → DkAt H' d (n + 3) → SameX d H H' → Q (.int r) H'
theorem sc_law_number : FnScope ["deck", "way", "far"] ["deck"] (defScope st_law_number) := ⟨rfl, rfl, rfl, by decide +kernel, rfl, by decide +kernel, by decide +kernel⟩
theorem ok_law_number {f : Addr} {fd : FuncData} (F : Fun K "_law_number" "_law_number" st_law_number f fd) (h_law_take : Has P w K mg base "_law_take" 1 ["deck", "many"] spTakeK) : FnOk P w K mg base CX0 2 f fd ["deck"] spNumB := by
  refine F.ok sc_law_number (fun vs H Q E h => ?_) (fun cdv A outer s H vs Q E hr h => ?_)
  · obtain ⟨d, n, rfl, _⟩ := h
    rfl
  · obtain ⟨d, n, rfl, hd, hn, q⟩ := h
    refine ⟨_, (pss_cons (ps_set (i := 1) sc_law_number.nd rfl (Or.inl rfl) (pe_callH h_law_take (hr.mono (by decide)) (by rfl) (pa_cons (pv 0) (pa_cons pe_int pa_nil))))
  (pss_cons (ps_if (pt_cmpR op_lt (pv 1) pe_int (nomark _))
  (pss_one (ps_ret (pe_op op_sub (pe_callH h_law_take (hr.mono (by decide)) (by rfl) (pa_cons (pv 0) (pa_cons (pe_ix (ixK (K := K) rfl) (pe_lst (pa_cons pe_int (pa_cons pe_int (pa_cons pe_int (pa_cons pe_int pa_nil))))) (pv 1) (fun _ _ => rfl)) pa_nil))) (pv 1))))
  pss_nil)
  (pss_cons (ps_set (i := 2) sc_law_number.nd rfl (Or.inl rfl) (pe_ix (ixK (K := K) rfl) (QE.un (qe_lst (qa_cons (pe_op op_pow pe_int pe_int) (qa_cons (pe_un un_neg (pe_op op_pow pe_int pe_int)) (qa_cons (pe_op op_add (pe_op op_pow pe_int pe_int) pe_int) (qa_cons (pe_un un_neg pe_int) (qa_cons pe_int (qa_cons pe_int qa_nil)))))))) (pe_callH h_law_take (hr.mono (by decide)) (by rfl) (pa_cons (pv 0) (pa_cons pe_int pa_nil))) (fun _ _ => rfl)))
  (pss_one (ps_ret (pe_ix (ixK (K := K) rfl) (pe_lst (pa_cons (pv 2) (pa_cons (pe_op op_sub (pe_callH h_law_take (hr.mono (by decide)) (by rfl) (pa_cons (pv 0) (pa_cons pe_int pa_nil))) pe_int) pa_nil))) (pe_op op_sub (pv 1) pe_int) (fun _ _ => rfl))))))), ?_⟩
    refine ⟨_, rfl, d, n, 6, rfl, hd, by omega, by decide, by decide, fun r1 H1 hr1 hd1 sx1 => ?_⟩
    refine ⟨_, rfl, _, _, rfl, rfl, _, rfl, ite2 (fun z => ?_) (fun z => ?_)⟩
    · have hr4 : r1 < 4 := by have := of_decide_eq_true z; omega
      refine ⟨_, rfl, by show 4 ≤ sizeLine; decide, fun p np => ?_⟩
      have nd := hd1.ne np
      refine ⟨_, rfl, p, _, _, _, rfl, rfl, SqL.of upd_same, atI_at (ns := [2, 4, 9, 30]) hr4, ?_⟩
      obtain ⟨m, hm, hm1, hm2⟩ : ∃ m : Nat, ([2, 4, 9, 30] : List Int).getD r1 0 = (m : Int) ∧ 1 ≤ m ∧ m ≤ 30 := by
        match r1, hr4 with
        | 0, _ => exact ⟨2, rfl, by decide, by decide⟩
        | 1, _ => exact ⟨4, rfl, by decide, by decide⟩
        | 2, _ => exact ⟨9, rfl, by decide, by decide⟩
        | 3, _ => exact ⟨30, rfl, by decide, by decide⟩
      rw [hm]
      refine ⟨d, n + 1, m, rfl, hd1.same (Same.new np), by omega, hm1, by omega, fun r2 H2 hr2 hd2 sx2 => ⟨_, rfl, _, _, rfl, rfl, ?_⟩⟩
      obtain ⟨c, o, k, e, hk⟩ := hd2
      exact q _ _ (by omega) ⟨c, o, k, e, by omega⟩ (sx1.trans ((Same.new np).x.trans sx2))
    have hr4 : 4 ≤ r1 := by
      have : ¬ ((r1 : Int) < 4) := fun y => z (decide_eq_true y)
      omega
    refine ⟨_, _, rfl, rfl, ⟨by decide, by decide, by decide⟩, _, _, rfl, rfl, ⟨by decide, by decide, by decide⟩, _, rfl, _, _, rfl, rfl, ⟨by decide, by decide, by decide⟩, _, _, rfl, rfl, _, rfl, by show 6 ≤ sizeLine; decide, fun p np => ?_⟩
    refine ⟨_, rfl, d, n + 1, 6, rfl, hd1.same (Same.new np), by omega, by decide, by decide, fun r2 H2 hr2 hd2 sx2 => ?_⟩
    have nd := hd1.ne np
    refine ⟨p, _, _, _, rfl, rfl, SqL.of (sx2 _ _ nd upd_same), atI_at (ns := [_, _, _, _, _, _]) hr2, ?_⟩
    dsimp only [List.set, L2.start]
    generalize hfe : ([_, _, _, _, _, _] : List Int).getD r2 0 = far
    have hfar : far.natAbs ≤ 10 ^ 20 := by
      rw [← hfe]
      refine getD_all (R := fun x : Int => x.natAbs ≤ 10 ^ 20) (fun x hx => ?_) hr2
      simp only [List.mem_cons, List.not_mem_nil, or_false] at hx
      rcases hx with rfl | rfl | rfl | rfl | rfl | rfl <;> decide
    refine ⟨_, rfl, _, rfl, d, n + 2, 1000, rfl, hd2, by omega, by decide, by decide, fun r3 H3 hr3 hd3 sx3 => ⟨_, _, rfl, rfl, by show 2 ≤ sizeLine; decide, fun p2 np2 => ?_⟩⟩
    refine ⟨_, rfl, _, _, rfl, rfl, p2, _, _, _, rfl, rfl, SqL.of upd_same, atI_int (ns := [far, (r3 : Int) - 500]) (by omega) (by show (r1 : Int) - 4 < 2; omega), ?_⟩
    exact q _ _ (getD_all (R := fun x : Int => x.natAbs ≤ 10 ^ 20) (l := [far, (r3 : Int) - 500]) (fun x hx => by
      simp only [List.mem_cons, List.not_mem_nil, or_false] at hx
      rcases hx with rfl | rfl <;> omega) (by show ((r1 : Int) - 4).toNat < 2; omega)) (hd3.same (Same.new np2)) (sx1.trans ((Same.new np).x.trans (sx2.trans (sx3.trans (Same.new np2).x))))
end
section
variable {P : Program} {w : World} {K : PySem.W.Frag} {mg : Str → Option Value} {base : Heap}
open My
def Sm (ns : List Int) : Prop := ∀ n ∈ ns, n.natAbs ≤ 10 ^ 20
theorem Sm.snoc {ns : List Int} {x : Int} (h : Sm ns) (hx : x.natAbs ≤ 10 ^ 20) : Sm (ns ++ [x]) := fun n hn => by
  rcases List.mem_append.mp hn with h' | h'
  · exact h n h'
  · rw [List.mem_singleton.mp h']; exact hx
theorem Sm.take {ns : List Int} (h : Sm ns) (k : Nat) : Sm (ns.take k) := fun n hn => h n (List.mem_of_mem_take hn)
theorem Sm.at {ns : List Int} (h : Sm ns) {k : Nat} (hk : k < ns.length) : (ns.getD k 0).natAbs ≤ 10 ^ 20 := getD_all (R := fun x : Int => x.natAbs ≤ 10 ^ 20) h hk
def spRowB (K : PySem.W.Frag) : Sp := fun vs H Q _ => ∃ (a : Addr) (ns : List Int) (m : Nat), vs = [.ref a, .int m] ∧ SqL K H a (ns.map V.int) ∧ ns.length ≤ 63 ∧ m ≤ 300 ∧ ∀ (l : Addr) (ms : List Int) (H' : Hp), H l = none → Same H H' → H' l = some (.lst (ms.map V.int)) → ms.length ≤ m → Sm ms → Q (.ref l) H'
theorem sc_law_row_of : FnScope ["script", "most", "head", "row", "deck", "elder"] ["script", "most"] (defScope st_law_row_of) := ⟨rfl, rfl, rfl, by decide +kernel, rfl, by decide +kernel, by decide +kernel⟩
theorem ok_law_row_of {f : Addr} {fd : FuncData} (B : Blt mg) (F : Fun K "_law_row_of" "_law_row_of" st_law_row_of f fd) (h_law_cell_at : Has P w K mg base "_law_cell_at" 1 ["script", "k"] (spCellK K)) (h_law_take : Has P w K mg base "_law_take" 1 ["deck", "many"] spTakeK)
    (h_law_deck : Has P w K mg base "_law_deck" 1 ["cell", "k"] spDeckK) (h_law_number : Has P w K mg base "_law_number" 2 ["deck"] spNumB) : FnOk P w K mg base CX0 3 f fd ["script", "most"] (spRowB K) := by
  refine F.ok sc_law_row_of (fun vs H Q E h => ?_) (fun cdv A outer s H vs Q E hr h => ?_)
  · obtain ⟨a, ns, m, rfl, _⟩ := h
    rfl
  · obtain ⟨a, ns, m, rfl, hq, hn, hm, q⟩ := h
    have hu := hr.units0
    have hs : sizeLine = 16777216 := sizeLine_eq
    refine ⟨_, (pss_cons (ps_set (i := 2) sc_law_row_of.nd rfl (Or.inl rfl) (pe_callH h_law_cell_at (hr.mono (by decide)) (by rfl) (pa_cons (pv 0) (pa_cons pe_int pa_nil))))
  (pss_cons (ps_set (i := 3) sc_law_row_of.nd rfl (Or.inl rfl) (pe_slice (slK (K := K) rfl) (pe_lc (own := ["k"]) (ix := [0]) (N := ["k", "script"]) rfl (LcOk.of (by rfl)) (pi_range2 (by rfl) B.range (pa_cons pe_int (pa_cons (pe_callB (lenK (K := K) rfl) (by rfl) B.len PySem.boot_len (pa_cons (pv 0) pa_nil)) pa_nil))) (fun _ _ _ _ _ => (pg_name (i := 0) (show (["k", "script"] : List Str).Nodup by decide +kernel) rfl (by first | exact Or.inl rfl | exact Or.inr rfl))) (fun _ _ _ _ _ => pts_nil) (fun _ _ _ _ _ => (pe_callH h_law_number (hr.mono (by decide)) (by rfl) (pa_cons (pe_callH h_law_deck (hr.mono (by decide)) (by rfl) (pa_cons (pe_ix (ixK (K := K) rfl) (pv 1) (pv 0) (fun _ _ => rfl)) (pa_cons pe_int pa_nil))) pa_nil)))) po_none (po_some pe_int)))
  (pss_cons (ps_if (PW.pt (pw_and (pt_cmpR op_eq (pe_op op_mod (pv 2) pe_int) pe_int (nomark _)) (pw_and1 (pt_cmpR (neLK (K := K) rfl hu) (pv 3) (pe_lst pa_nil) (nomark _)))))
  (pss_cons (ps_set (i := 4) sc_law_row_of.nd rfl (Or.inl rfl) (pe_callH h_law_deck (hr.mono (by decide)) (by rfl) (pa_cons (pv 2) (pa_cons pe_int pa_nil))))
  (pss_one (ps_while PassesOwn.never (pt_cmpR op_lt (pe_callB (lenK (K := K) rfl) (by rfl) B.len PySem.boot_len (pa_cons (pv 3) pa_nil)) (pv 1) (nomark _))
  (pss_cons (ps_set (i := 5) sc_law_row_of.nd rfl (Or.inl rfl) (pe_ix (ixK (K := K) rfl) (pv 3) (pe_callH h_law_take (hr.mono (by decide)) (by rfl) (pa_cons (pv 4) (pa_cons (pe_callB (lenK (K := K) rfl) (by rfl) B.len PySem.boot_len (pa_cons (pv 3) pa_nil)) pa_nil))) (fun _ _ => rfl)))
  (pss_one (ps_expr (pe_bm PySem.F.plainAttrs_list PySem.F.slot_list_append PySem.F.type_list_append mt_append (pv 3) (pa_cons (pe_op op_add (pv 5) (pe_callTy call_int1 (by rfl) B.int boot_int' (pa_cons (pe_and (pe_cmpR op_eq (pe_callH h_law_take (hr.mono (by decide)) (by rfl) (pa_cons (pv 4) (pa_cons pe_int pa_nil))) pe_int (nomark _)) (pe_one (pe_cmpR op_lt (pv 5) (pe_op op_pow pe_int pe_int) (nomark _)))) pa_nil))) pa_nil))))))))
  pss_nil)
  (pss_one (ps_ret (pe_slice (slK (K := K) rfl) (pv 3) po_none (po_some (pv 1)))))))), ?_⟩
    refine ⟨_, rfl, a, ns, 0, rfl, hq, ?_⟩
    refine ⟨_, rfl, a, _, rfl, .inl hq, 1, (ns.length : Int), by rw [len_int], ⟨by decide, by decide, by omega, by omega⟩, fun D hD => ?_⟩
    refine lc_range (fun i σ Hc => ∃ (v0 : Option V) (ms : List Int), σ = [v0, some (.ref a)] ∧ Hc D = some (.lst (ms.map V.int)) ∧ ms.length = i ∧ Sm ms ∧ Same H Hc) ⟨none, [], rfl, upd_same, rfl, (fun n h => by simp at h), Same.new hD⟩ ?_ ?_
    · rintro i σ Hc hi ⟨v0, ms, rfl, eD, hml, hsm, sc⟩
      have hi' : 1 + i < ns.length := by omega
      have hat : atI (ns.map V.int) ((1 : Int) + (i : Int)) = some (.int (ns.getD (1 + i) 0)) := by rw [show (1 : Int) + (i : Int) = ((1 + i : Nat) : Int) by omega]; exact atI_at hi'
      refine ⟨_, rfl, _, rfl, a, _, _, _, rfl, rfl, sc.seq hq, hat, _, 3, rfl, fun d H1 nd s1 hd => ⟨d, 3, rfl, hd, by decide, fun r H2 hrb hd2 sx2 => ?_⟩⟩
      have ndD : D ≠ d := ne_of_none eD nd
      refine ⟨_, sx2 _ _ ndD (s1 _ _ eD), small1000 (by rw [len_int]; omega), _, ms ++ [r], rfl, by rw [upd_same, List.map_append]; rfl, by rw [List.length_append, hml]; rfl, hsm.snoc hrb, fun b o e => ?_⟩
      rw [upd_ne (ne_of_none e hD)]
      exact sx2 _ _ (ne_of_none (sc _ _ e) nd) (s1 _ _ (sc _ _ e))
    rintro σ Hc ⟨v0, ms, rfl, eD, hml, hsm, sc⟩
    refine ⟨62, rfl, D, _, rfl, SqL.of eD, fun r nr => ?_⟩
    rw [show (62 : Int) = ((62 : Nat) : Int) from rfl, cutV_take, ← List.map_take]
    have nrH : H r = none := sc.free nr
    have s1 := sc.trans (Same.new (o := .lst ((ms.take 62).map V.int)) nr)
    have er := upd_same (H := Hc) (a := r) (o := .lst ((ms.take 62).map V.int))
    have hsl := hsm.take 62
    have hl : (ms.take 62).length ≤ 62 := by rw [List.length_take]; omega
    generalize upd Hc r (.lst ((ms.take 62).map V.int)) = H1 at s1 er ⊢
    generalize ms.take 62 = ls at er hl hsl
    dsimp only [List.set, L2.start]
    have fin : ∀ (xs : List Int) (H' : Hp), Sm xs → Same H H' → H' r = some (.lst (xs.map V.int)) → ∀ l, H' l = none → Q (.ref l) (upd H' l (.lst (cutV (xs.map V.int) none (some (m : Int))))) := fun xs H' hx s' e l nl => by
      rw [cutV_take, ← List.map_take]
      exact q l _ _ (s'.free nl) (s'.trans (Same.new nl)) upd_same (by rw [List.length_take]; omega) (hx.take m)
    refine ⟨_, rfl, _, _, rfl, rfl, (show (0 : Int) < 8 by decide), rfl, _, rfl, ite2 (fun z => ?_) (fun z => iteF ?_)⟩
    rotate_left
    · exact ⟨_, rfl, _, rfl, (m : Int), rfl, r, _, rfl, SqL.of er, fun l nl => fin ls H1 hsl s1 er l nl⟩
    refine ⟨_, rfl, by show 0 ≤ sizeLine; decide, fun pe hpe => neNil (SqL.of (Same.new hpe _ _ er)) (SqL.of upd_same) ⟨_, rfl, ite2 (fun z2 => ?_) (fun z2 => ?_)⟩⟩
    rotate_left
    · exact ⟨_, rfl, _, rfl, (m : Int), rfl, r, _, rfl, SqL.of (Same.new hpe _ _ er), fun l nl => fin ls _ hsl (s1.trans (Same.new hpe)) (Same.new hpe _ _ er) l nl⟩
    have hls : 0 < ls.length := by
      cases ls with
      | nil => exact absurd z2 (by decide)
      | cons x r => exact Nat.succ_pos _
    have s2 := s1.trans (Same.new (o := .lst []) hpe)
    have er2 := Same.new (o := .lst []) hpe _ _ er
    generalize upd H1 pe (.lst []) = H2 at s2 er2 ⊢
    clear z z2 hpe s1 er
    refine ⟨_, rfl, _, 41, rfl, fun d H3 nd s3 hd => ?_⟩
    have ndr : r ≠ d := ne_of_none er2 nd
    have ndH : H d = none := s2.free nd
    dsimp only [List.set]
    refine ⟨fun k σ Hc => ∃ (v5 : Option V) (xs : List Int), σ = [some (.ref a), some (.int (m : Int)), some (.int (ns.getD 0 0)), some (.ref r), some (.ref d), v5] ∧ k = 400 - xs.length ∧ 1 ≤ xs.length ∧ xs.length ≤ 362 ∧ (xs.length ≤ 62 ∨ xs.length ≤ m) ∧ Hc r = some (.lst (xs.map V.int)) ∧ DkAt Hc d (41 + 2 * xs.length) ∧ Sm xs ∧ Same H Hc,
      ⟨_, none, ls, rfl, rfl, hls, by omega, .inl hl, s3 _ _ er2, let ⟨c, o, k, e, hk⟩ := hd; ⟨c, o, k, e, by omega⟩, hsl, s2.trans s3⟩, ?_⟩
    rintro k σ Hc ⟨v5, xs, rfl, hk, hx1, hx2, hx3, erc, hdc, hxs, sc'⟩
    refine ⟨_, rfl, r, _, rfl, .inl (SqL.of erc), _, rfl, _, _, rfl, rfl, _, rfl, ?_⟩
    rw [len_int]
    refine ite2 (fun z => ?_) (fun z => ?_)
    · have hlt : xs.length < m := by have := of_decide_eq_true z; omega
      refine ⟨_, fun _ _ h => h, ?_⟩
      refine ⟨_, rfl, _, rfl, _, rfl, r, _, rfl, .inl (SqL.of erc), d, _, xs.length, (by rw [len_int]; rfl), hdc, by omega, hx1, by omega, fun t1 H4 ht1 hd4 sx4 => ?_⟩
      have er4 := sx4 _ _ ndr erc
      refine ⟨r, _, _, _, rfl, rfl, SqL.of er4, atI_at ht1, ?_⟩
      dsimp only [List.set]
      have hel := hxs.at ht1
      generalize xs.getD t1 0 = el at hel ⊢
      refine ⟨_, rfl, .inl ⟨rfl, _, SqL.of er4⟩, _, rfl, _, rfl, d, _, 9, rfl, hd4, by omega, by decide, by decide, fun t2 H5 ht2 hd5 sx5 => ⟨rfl, ?_⟩⟩
      have er5 := sx5 _ _ ndr er4
      have sc5 : ∀ b o, H b = some o → H5 b = some o := fun b o e => sx5 _ _ (ne_of_none e ndH) (sx4 _ _ (ne_of_none e ndH) (sc' _ _ e))
      have fin2 : ∀ y : Int, y.natAbs ≤ 10 ^ 20 → (∃ (v5 : Option V) (zs : List Int), [some (V.ref a), some (.int (m : Int)), some (.int (ns.getD 0 0)), some (.ref r), some (.ref d), some (.int el)] = [some (.ref a), some (.int (m : Int)), some (.int (ns.getD 0 0)), some (.ref r), some (.ref d), v5] ∧ 400 - (xs.length + 1) = 400 - zs.length ∧ 1 ≤ zs.length ∧ zs.length ≤ 362 ∧ (zs.length ≤ 62 ∨ zs.length ≤ m) ∧ upd H5 r (.lst (xs.map V.int ++ [.int y])) r = some (.lst (zs.map V.int)) ∧ DkAt (upd H5 r (.lst (xs.map V.int ++ [.int y]))) d (41 + 2 * zs.length) ∧ Sm zs ∧ Same H (upd H5 r (.lst (xs.map V.int ++ [.int y])))) := fun y hy => by
        refine ⟨_, xs ++ [y], rfl, by rw [List.length_append]; rfl, by rw [List.length_append]; show 1 ≤ _ + 1; omega, by rw [List.length_append]; show _ + 1 ≤ _; omega, .inr (by rw [List.length_append]; show _ + 1 ≤ _; omega), by rw [upd_same, List.map_append]; rfl, ?_, hxs.snoc hy, fun b o e => ?_⟩
        · obtain ⟨c, o, k, e, hk'⟩ := hd5
          exact ⟨c, o, k, by rw [upd_ne ndr.symm]; exact e, by rw [List.length_append]; show k ≤ 41 + 2 * (_ + 1); omega⟩
        · rw [upd_ne (ne_of_none e nrH)]; exact sc5 b o e
      refine ⟨_, rfl, ite2 (fun z => ?_) (fun z => ?_)⟩
      · exact ⟨_, rfl, _, _, rfl, rfl, ⟨by decide, by decide, by decide⟩, _, _, rfl, rfl, .inr ⟨_, rfl, _, _, rfl, rfl, r, _, _, rfl, rfl, er5, small1000 (by rw [len_int]; omega), _, by omega, fin2 _ (by split <;> rename_i h <;> (try have h := of_decide_eq_true h) <;> (try rw [show ((10 : Int) ^ (18 : Int).toNat) = 10 ^ 18 from rfl] at h) <;> omega)⟩⟩
      · exact .inr ⟨_, rfl, _, _, rfl, rfl, r, _, _, rfl, rfl, er5, small1000 (by rw [len_int]; omega), _, by omega, fin2 _ (by rw [if_neg Bool.false_ne_true]; omega)⟩
    · exact ⟨_, rfl, _, rfl, (m : Int), rfl, r, _, rfl, SqL.of erc, fun l nl => fin xs Hc hxs sc' erc l nl⟩
end
abbrev st_law_is_word : Stmt := top 23
abbrev st_law_written : Stmt := top 20
section
variable {P : Program} {w : World} {K : PySem.W.Frag} {mg : Str → Option Value} {base : Heap}
open My
theorem sc_law_is_word : FnScope ["word", "figures"] ["word"] (defScope st_law_is_word) := ⟨rfl, rfl, rfl, by decide +kernel, rfl, by decide +kernel, by decide +kernel⟩
theorem ok_law_is_word {f : Addr} {fd : FuncData} (B : Blt mg) (F : Fun K "_law_is_word" "_law_is_word" st_law_is_word f fd) : FnOk P w K mg base CX0 1 f fd ["word"] spWord := by
  refine F.ok sc_law_is_word (fun vs H Q E h => ?_) (fun cdv A outer s H vs Q E hr h => ?_)
  · obtain ⟨z, rfl, _⟩ := h
    rfl
  · obtain ⟨z, rfl, hz, q⟩ := h
    have hs : sizeLine = 16777216 := sizeLine_eq
    have hl := len_l z
    refine ⟨_, (pss_cons (ps_set (i := 1) sc_law_is_word.nd rfl (Or.inl rfl) (pe_ifExp (pt_cmpR op_eq (pe_slice sl_str (pv 0) po_none (po_some pe_int)) pe_str (nomark _)) (pe_slice sl_str (pv 0) (po_some pe_int) po_none) (pv 0)))
  (pss_cons (ps_if (PW.pt (pw_or (pt_not (pt_chain op_le op_le pe_int (pe_callB call_len_str (by rfl) B.len PySem.boot_len (pa_cons (pv 1) pa_nil)) pe_int)) (pw_or1 (pt_not (pt_val (pe_callB (allK (K := K) rfl rfl) (by rfl) B.all boot_all' (pa_cons (pe_lc (own := ["figure"]) (ix := []) (N := ["figure"]) rfl (LcOk.of (by rfl)) (pi_str (pv 1)) (fun _ _ _ _ _ => (pg_name (i := 0) (show (["figure"] : List Str).Nodup by decide +kernel) rfl (by first | exact Or.inl rfl | exact Or.inr rfl))) (fun _ _ _ _ _ => pts_nil) (fun _ _ _ _ _ => (pe_cmpR op_in_str (pv 0) pe_str rfl))) pa_nil)))))))
  (pss_one (ps_ret pe_bl))
  pss_nil)
  (pss_one (ps_ret (pe_or (pe_cmpR op_eq (pv 0) pe_str (nomark _)) (pe_one (pe_cmpR op_ne (pe_ix ix_str (pv 1) pe_int (fun _ _ => rfl)) pe_str (nomark _)))))))), ?_⟩
    have hd : V.str (Txt.slice z none (some 1)) = V.str "-" ↔ z.cps.toList.head? = some 45 := by
      rw [← head_take, ← slice_to1]
      constructor
      · intro e; injection e with e; rw [e]; decide +kernel
      · intro e; rw [str_eq.mpr e]; rfl
    rw [num_law] at q
    -- the figures
    refine ⟨_, rfl, _, rfl, z, rfl, by omega, rfl, _, rfl, ?_⟩
    have rest : ∀ fz : Str, fz.length ≤ 20000 → (∀ H', Same H H' → Q (.bl (figs fz.cps.toList && (decide (z.cps.toList = [48]) || !decide (fz.cps.toList.head? = some 48)))) H') →
        tSeq (tIfS (tOr (tNot (tTest (tChain (rI0 fun i j => V.bl (decide (i ≤ j))) (rI0 fun i j => V.bl (decide (i ≤ j))) (tC (V.int 1)) (tCB (fun xs H Q => ∃ z, xs = [V.str z] ∧ z.length ≤ sizeLine ∧ Q (V.int (z.length : Nat)) H) (tCons (tVar 1) tNil)) (tC (V.int 30))))) (tNot (tB (tCB (fun xs H Q => ∃ a bs, xs = [V.ref a] ∧ SqL K H a (List.map V.bl bs) ∧ Q (V.bl (bs.all id)) H) (tCons (tLc ["figure"] [] (iStr (tVar 1)) (gName 0) tYes (tOp (fun x y H Q => ∃ i j, x = V.str i ∧ y = V.str j ∧ Q (V.bl !(Builtin.Str.occurrences j i 0 j.length 1).isEmpty) H) (tVar 0) (tC (V.str "0123456789")))) tNil))))) (tRet (tC (V.bl false))) tNext)
          (tRet (tOrV (tOp rEq (tVar 0) (tC (V.str "0"))) (tOp rNe (tOp rIxS (tVar 1) (tC (V.int 0))) (tC (V.str "0"))))) { nx := fun x H' => Q V.non H', rt := Q } [some (.str z), some (.str fz)] H := fun fz hfz q' => by
      have hl2 := len_l fz
      have no : figs fz.cps.toList = false → Q (.bl false) H := fun e => by
        have := q' H (Same.refl _)
        rw [e] at this
        exact this
      refine ⟨_, rfl, fz, rfl, by omega, _, _, rfl, rfl, _, rfl, ?_⟩
      by_cases h1 : 1 ≤ fz.length
      · refine iteY (by omega) ⟨_, _, rfl, rfl, _, rfl, ?_⟩
        by_cases h2 : fz.length ≤ 30
        · refine iteNS (by omega) ⟨_, rfl, fz, rfl, fun D hD => ?_⟩
          refine lc_str_ev (cap := []) (fun c => .bl (inDig c)) (by show fz.length < _; omega) hD (fun c H' _ _ Q' kk => ⟨_, rfl, _, _, rfl, rfl, by rw [in_dig]; exact kk H' (Same.refl _)⟩) (fun H1 s1 e1 => ?_)
          refine ⟨D, fz.cps.toList.map inDig, rfl, SqL.of (by rw [e1, List.map_map]; rfl), _, rfl, ?_⟩
          have ef : figs fz.cps.toList = (fz.cps.toList.map inDig).all id := by
            unfold figs
            rw [decide_eq_true (by omega), Bool.true_and, List.all_map]; rfl
          rw [← ef]
          cases hf : figs fz.cps.toList with
          | false =>
            have := q' H1 s1
            rw [hf] at this
            exact iteT this
          | true =>
            refine iteF ⟨_, rfl, rfl, _, rfl, ?_⟩
            rw [hf] at q'
            by_cases z0 : z.cps.toList = [48]
            · refine iteY (zero_eq.mpr z0) ?_
              have := q' H1 s1
              rw [decide_eq_true z0] at this
              exact this
            · refine iteN (fun e => z0 (zero_eq.mp e)) ?_
              have q2 := q' H1 s1
              rw [decide_eq_false z0] at q2
              obtain ⟨c, r, hcr⟩ : ∃ c r, fz.cps.toList = c :: r := by
                cases e : fz.cps.toList with
                | nil => rw [e] at hl2; exact absurd hl2 (by show ¬ (0 = _); omega)
                | cons c r => exact ⟨c, r, rfl⟩
              refine ⟨_, rfl, fz, 0, c, rfl, rfl, by omega, by rw [hcr]; exact atI_nat (xs := c :: r) (j := 0) (v := c) rfl, rfl, ?_⟩
              rw [hcr] at q2
              have e1 : decide (V.str ⟨#[c]⟩ = V.str "0") = decide ((c :: r).head? = some 48) := by
                congr 1
                refine propext ⟨fun e => ?_, fun e => ?_⟩
                · have := zero_eq.mp e
                  have : [c] = [48] := this
                  injection this with this
                  rw [this]; rfl
                · have e : c = 48 := Option.some.inj e
                  rw [e]; rfl
              show Q (.bl (!decide (V.str ⟨#[c]⟩ = V.str "0"))) _
              rw [e1]
              exact q2
        · refine iteNN (by omega) ?_
          exact no (by unfold figs; rw [decide_eq_false (by omega)]; rfl)
      · refine iteN (by omega) ⟨_, rfl, iteT ?_⟩
        exact no (by unfold figs; rw [decide_eq_false (by omega)]; rfl)
    by_cases h : z.cps.toList.head? = some 45
    · rw [if_pos h, ← slice_from1] at q
      exact iteY (hd.mpr h) ⟨_, rfl, _, rfl, z, rfl, by omega, rest _ (by have := Txt.slice_le z (some 1) none; omega) q⟩
    · rw [if_neg h] at q
      exact iteN (fun e => h (hd.mp e)) ⟨_, rfl, rest _ hz q⟩
theorem sc_law_written : FnScope ["row"] ["row"] (defScope st_law_written) := ⟨rfl, rfl, rfl, by decide +kernel, rfl, by decide +kernel, by decide +kernel⟩
theorem ok_law_written {f : Addr} {fd : FuncData} (B : Blt mg) (bstr : mg "str" = none) (F : Fun K "_law_written" "_law_written" st_law_written f fd) : FnOk P w K mg base CX0 1 f fd ["row"] (spShow K) := by
  refine F.ok sc_law_written (fun vs H Q E h => ?_) (fun cdv A outer s H vs Q E hr h => ?_)
  · obtain ⟨a, ns, rfl, _⟩ := h
    rfl
  · obtain ⟨a, ns, rfl, hq, hn, hb, q⟩ := h
    have hu := hr.units0
    have hs : sizeLine = 16777216 := sizeLine_eq
    refine ⟨_, (pss_one (ps_ret (pe_ifExp (pt_cmpR (eqLK (K := K) rfl hu) (pv 0) (pe_lst pa_nil) (nomark _)) pe_str (pe_bm PySem.F.plainAttrs_str PySem.F.slot_str_join PySem.F.type_str_join (mt_join (K := K) rfl) pe_str (pa_cons (pe_lc (own := ["number"]) (ix := []) (N := ["number"]) rfl (LcOk.of (by rfl)) (piK (K := K) rfl (pv 0)) (fun _ _ _ _ _ => (pg_name (i := 0) (show (["number"] : List Str).Nodup by decide +kernel) rfl (by first | exact Or.inl rfl | exact Or.inr rfl))) (fun _ _ _ _ _ => pts_nil) (fun _ _ _ _ _ => (pe_callTy call_str_int (by rfl) bstr boot_str' (pa_cons (pv 0) pa_nil)))) pa_nil))))), ?_⟩
    refine ⟨_, rfl, by show 0 ≤ sizeLine; omega, fun p np => eqI (ms := []) ((Same.new np).seq hq) (SqL.of upd_same) ⟨_, rfl, ?_⟩⟩
    have s0 := Same.new (o := .lst []) np
    generalize upd H p (.lst []) = H0 at s0 ⊢
    by_cases z : ns = []
    · refine iteY z ?_
      have := q H0 s0
      unfold textM at this
      rw [if_pos z] at this
      exact this
    · refine iteN z ?_
      refine ⟨rfl, _, rfl, a, rfl, ⟨_, s0.seq hq⟩, fun D hD => ?_⟩
      refine lc_list_ev (cap := []) (xs := ns.map V.int) (fun _ => true) strV (small1000 (by rw [List.length_map]; omega)) hD (s0.seq hq) (fun _ H' _ _ => evYes) (fun y H' hy _ s' Q' kk => ?_) (fun H1 s1 e1 => ?_)
      · obtain ⟨n, hn', rfl⟩ := List.mem_map.mp hy
        exact ⟨_, rfl, n, rfl, log_ok (hb n hn'), kk H' (Same.refl _)⟩
      rw [str_heap] at e1
      refine ⟨_, D, _, rfl, rfl, SqL.of e1, join_ok hn hb, ?_⟩
      have := q H1 (s0.trans s1)
      unfold textM at this
      rw [if_neg z] at this
      exact this
end
abbrev st_law_bad : Stmt := top 21
abbrev st_law_spoilt : Stmt := top 22
section
variable {P : Program} {w : World} {K : PySem.W.Frag} {mg : Str → Option Value} {base : Heap}
open My
def Tx (v : V) : Prop := ∃ x : Str, v = .str x ∧ x.length ≤ 6000
theorem tx_nil : ∀ v ∈ ([] : List V), Tx v := fun v h => by simp at h
theorem tx_cons {x : Str} {xs : List V} (hx : x.length ≤ 6000) (h : ∀ v ∈ xs, Tx v) : ∀ v ∈ V.str x :: xs, Tx v := fun v hv => by
  rcases List.mem_cons.mp hv with e | hv
  · exact ⟨x, e, hx⟩
  · exact h v hv
theorem tx_app {xs ys : List V} (h : ∀ v ∈ xs, Tx v) (g : ∀ v ∈ ys, Tx v) : ∀ v ∈ xs ++ ys, Tx v := fun v hv => by
  rcases List.mem_append.mp hv with h' | h'
  · exact h v h'
  · exact g v h'
def spBad58 : Sp := fun vs H Q _ => ∃ (d : Addr) (n : Nat), vs = [.ref d] ∧ DkAt H d n ∧ n ≤ 90000 ∧ ∀ (x : Str) (H' : Hp), x.length ≤ 6000 → SameX d H H' → Q (.str x) H'
theorem sc_law_bad : FnScope ["deck", "some"] ["deck"] (defScope st_law_bad) := ⟨rfl, rfl, rfl, by decide +kernel, rfl, by decide +kernel, by decide +kernel⟩
theorem ok_law_bad {f : Addr} {fd : FuncData} (B : Blt mg) (F : Fun K "_law_bad" "_law_bad" st_law_bad f fd) (h_law_take : Has P w K mg base "_law_take" 1 ["deck", "many"] spTakeK) : FnOk P w K mg base CX0 2 f fd ["deck"] spBad58 := by
  refine F.ok sc_law_bad (fun vs H Q E h => ?_) (fun cdv A outer s H vs Q E hr h => ?_)
  · obtain ⟨d, n, rfl, _⟩ := h
    rfl
  · obtain ⟨d, n, rfl, hd, hn, q⟩ := h
    have hs : sizeLine = 16777216 := sizeLine_eq
    refine of_q (qss_cons (qs_set (i := 1) sc_law_bad.nd rfl (Or.inl rfl) (qe_lst (qa_cons pe_str (qa_cons pe_str (qa_cons pe_str (qa_cons pe_str (qa_cons pe_str (qa_cons pe_str (qa_cons pe_str (qa_cons pe_str (qa_cons pe_str (qa_cons pe_str (qa_cons pe_str (qa_cons pe_str (qa_cons pe_str qa_nil)))))))))))))))
  (qss_cons (qs_set (i := 1) sc_law_bad.nd rfl (Or.inl rfl) (qe_op op_cat (pv 1) (qe_lst (qa_cons pe_str (qa_cons pe_str (qa_cons pe_str (qa_cons pe_str (qa_cons pe_str (qa_cons pe_str (qa_cons pe_str (qa_cons pe_str (qa_cons pe_str (qa_cons pe_str (qa_cons (pe_op op_mul_str pe_str pe_int) qa_nil))))))))))))))
  (qss_cons (qs_set (i := 1) sc_law_bad.nd rfl (Or.inl rfl) (qe_op op_cat (pv 1) (qe_lst (qa_cons (pe_op op_add_str pe_str (pe_op op_mul_str pe_str pe_int)) (qa_cons (pe_op op_mul_str pe_str pe_int) (qa_cons (pe_op op_add_str pe_str (pe_op op_mul_str pe_str pe_int)) qa_nil))))))
  (QSs.mk (pss_one (ps_ret (pe_ix (ixK (K := K) rfl) (pv 1) (pe_callH h_law_take (hr.mono (by decide)) (by rfl) (pa_cons (pv 0) (pa_cons (pe_callB (lenK (K := K) rfl) (by rfl) B.len PySem.boot_len (pa_cons (pv 1) pa_nil)) pa_nil))) (fun _ _ => rfl)))))))) ?_
    refine ⟨by show 13 ≤ sizeLine; decide, fun p0 n0 => ?_⟩
    obtain ⟨xs0, hx0, hl0, hb0⟩ : ∃ xs : List V, xs = [V.str "", V.str " ", V.str "--", V.str "- 1", V.str "1 -", V.str "1  2", V.str " 1", V.str "1 ", V.str "01", V.str "-0", V.str "+1", V.str "1,2", V.str "1_0"] ∧ xs.length = 13 ∧ ∀ v ∈ xs, Tx v :=
      ⟨_, rfl, rfl, by repeat' (first | exact tx_nil | refine tx_cons (by decide +kernel) ?_)⟩
    have s0 : Same H (upd H p0 (.lst xs0)) := Same.new n0
    have e0 : upd H p0 (.lst xs0) p0 = some (.lst xs0) := upd_same
    show tSeq _ _ _ _ (upd H p0 (.lst [V.str "", V.str " ", V.str "--", V.str "- 1", V.str "1 -", V.str "1  2", V.str " 1", V.str "1 ", V.str "01", V.str "-0", V.str "+1", V.str "1,2", V.str "1_0"]))
    rw [← hx0]
    generalize upd H p0 (.lst xs0) = H0 at s0 e0 ⊢
    clear hx0 n0
    refine ⟨_, rfl, "9", 31, rfl, rfl, by decide, by decide, by decide +kernel, by decide +kernel, fun w1 h1 => ⟨by show 11 ≤ sizeLine; decide, fun p1 n1 => ?_⟩⟩
    have h1 : w1.length ≤ 6000 := by rw [h1]; decide +kernel
    obtain ⟨xs1, hx1, hl1, hb1⟩ : ∃ xs : List V, xs = [V.str "x", V.str "1.0", V.str "-01", V.str "00", V.str "1\n", V.str "~1", V.str "- -", V.str "-1-", V.str "1 2 3 ", V.str "0 00", V.str w1] ∧ xs.length = 11 ∧ ∀ v ∈ xs, Tx v :=
      ⟨_, rfl, rfl, by repeat' (first | exact tx_nil | refine tx_cons (by first | exact h1 | decide +kernel) ?_)⟩
    have s1 : Same H0 (upd H0 p1 (.lst xs1)) := Same.new n1
    have e1 : upd H0 p1 (.lst xs1) p1 = some (.lst xs1) := upd_same
    rw [← hx1]
    have e01 := s1 _ _ e0
    have S1 := s0.trans s1
    generalize upd H0 p1 (.lst xs1) = H1 at S1 e1 e01 ⊢
    clear hx1 n1 s1
    refine ⟨p0, p1, _, _, rfl, rfl, e01, e1, by rw [hl0, hl1]; decide, fun p2 n2 => ?_⟩
    have S2 := S1.trans (Same.new (o := .lst (xs0 ++ xs1)) n2)
    have e2 : upd H1 p2 (.lst (xs0 ++ xs1)) p2 = _ := upd_same
    have hb2 := tx_app hb0 hb1
    have hl2 : (xs0 ++ xs1).length = 24 := by rw [List.length_append, hl0, hl1]
    generalize upd H1 p2 (.lst (xs0 ++ xs1)) = H2 at S2 e2 ⊢
    generalize xs0 ++ xs1 = xs2 at e2 hb2 hl2
    clear n2 S1 e1 e01 e0 s0 hb0 hb1
    refine ⟨_, rfl, "9", 31, rfl, rfl, by decide, by decide, by decide +kernel, by decide +kernel, fun w2 h2 => ⟨"-", w2, rfl, rfl, by rw [h2]; decide +kernel, "9", 30, rfl, rfl, by decide, by decide, by decide +kernel, by decide +kernel, fun w3 h3 => ⟨"8", 5000, rfl, rfl, by decide, by decide, by decide +kernel, by decide +kernel, fun w4 h4 => ⟨"1 ", w4, rfl, rfl, by rw [h4]; decide +kernel, by show 3 ≤ sizeLine; decide, fun p3 n3 => ?_⟩⟩⟩⟩
    have h2 : (("-" : Str) ++ w2).length ≤ 6000 := by rw [Str.length_append, h2]; decide +kernel
    have h3 : w3.length ≤ 6000 := by rw [h3]; decide +kernel
    have h4 : (("1 " : Str) ++ w4).length ≤ 6000 := by rw [Str.length_append, h4]; decide +kernel
    have hb3 : ∀ v ∈ [V.str (("-" : Str) ++ w2), V.str w3, V.str (("1 " : Str) ++ w4)], Tx v := tx_cons h2 (tx_cons h3 (tx_cons h4 tx_nil))
    have S3 := S2.trans (Same.new (o := .lst [V.str (("-" : Str) ++ w2), V.str w3, V.str (("1 " : Str) ++ w4)]) n3)
    have e23 := Same.new (o := .lst [V.str (("-" : Str) ++ w2), V.str w3, V.str (("1 " : Str) ++ w4)]) n3 _ _ e2
    refine ⟨p2, p3, _, _, rfl, rfl, e23, upd_same, by rw [hl2]; show 24 + 3 ≤ _; omega, fun p4 n4 => ?_⟩
    have hb4 := tx_app hb2 hb3
    have hl4 : (xs2 ++ [V.str (("-" : Str) ++ w2), V.str w3, V.str (("1 " : Str) ++ w4)]).length = 27 := by rw [List.length_append, hl2]; rfl
    have S4 := S3.trans (Same.new (o := .lst (xs2 ++ [V.str (("-" : Str) ++ w2), V.str w3, V.str (("1 " : Str) ++ w4)])) n4)
    have e4 : upd (upd H2 p3 (.lst [V.str (("-" : Str) ++ w2), V.str w3, V.str (("1 " : Str) ++ w4)])) p4 (.lst (xs2 ++ [V.str (("-" : Str) ++ w2), V.str w3, V.str (("1 " : Str) ++ w4)])) p4 = _ := upd_same
    generalize upd (upd H2 p3 (.lst [V.str (("-" : Str) ++ w2), V.str w3, V.str (("1 " : Str) ++ w4)])) p4 (.lst (xs2 ++ [V.str (("-" : Str) ++ w2), V.str w3, V.str (("1 " : Str) ++ w4)])) = H4 at S4 e4 ⊢
    generalize xs2 ++ [V.str (("-" : Str) ++ w2), V.str w3, V.str (("1 " : Str) ++ w4)] = xs4 at e4 hb4 hl4
    have hd4 := hd.same S4
    have np4 : p4 ≠ d := fun z => by
      obtain ⟨c, o, k, e, _⟩ := hd4
      rw [← z, e4] at e
      injection e with e
      injection e with e
      rw [e] at hl4; exact absurd (show 3 = 27 from hl4) (by decide)
    refine ⟨_, rfl, _, rfl, _, rfl, p4, _, rfl, .inl (SqL.of e4), d, n, xs4.length, rfl, hd4, by omega, by omega, by omega, fun r H5 hr' hd5 sx5 => ?_⟩
    obtain ⟨x, hx, hxl⟩ := hb4 _ (List.getElem_mem hr')
    refine ⟨p4, _, _, _, rfl, rfl, SqL.of (sx5 _ _ np4 e4), atV (i := r) (List.getElem?_eq_getElem hr'), ?_⟩
    rw [hx]
    exact q x _ hxl (S4.x.trans sx5)
def spSpoilt : Sp := fun vs H Q _ => ∃ (d : Addr) (n : Nat) (z : Str), vs = [.ref d, .str z] ∧ DkAt H d n ∧ n ≤ 50000 ∧ z.length ≤ 9000 ∧ ∀ (x : Str) (H' : Hp), x.length ≤ 20000 → SameX d H H' → Q (.str x) H'
theorem sc_law_spoilt : FnScope ["deck", "text", "way", "at", "sign"] ["deck", "text"] (defScope st_law_spoilt) := ⟨rfl, rfl, rfl, by decide +kernel, rfl, by decide +kernel, by decide +kernel⟩
theorem ok_law_spoilt {f : Addr} {fd : FuncData} (B : Blt mg) (F : Fun K "_law_spoilt" "_law_spoilt" st_law_spoilt f fd) (h_law_take : Has P w K mg base "_law_take" 1 ["deck", "many"] spTakeK) (h_law_bad : Has P w K mg base "_law_bad" 2 ["deck"] spBad58) : FnOk P w K mg base CX0 3 f fd ["deck", "text"] spSpoilt := by
  refine F.ok sc_law_spoilt (fun vs H Q E h => ?_) (fun cdv A outer s H vs Q E hr h => ?_)
  · obtain ⟨d, n, z, rfl, _⟩ := h
    rfl
  · obtain ⟨d, n, z, rfl, hd, hn, hz, q⟩ := h
    have hs : sizeLine = 16777216 := sizeLine_eq
    refine ⟨_, (pss_cons (ps_set (i := 2) sc_law_spoilt.nd rfl (Or.inl rfl) (pe_callH h_law_take (hr.mono (by decide)) (by rfl) (pa_cons (pv 0) (pa_cons pe_int pa_nil))))
  (pss_cons (ps_set (i := 3) sc_law_spoilt.nd rfl (Or.inl rfl) (pe_callH h_law_take (hr.mono (by decide)) (by rfl) (pa_cons (pv 0) (pa_cons (pe_op op_add (pe_callB call_len_str (by rfl) B.len PySem.boot_len (pa_cons (pv 1) pa_nil)) pe_int) pa_nil))))
  (pss_cons (ps_set (i := 4) sc_law_spoilt.nd rfl (Or.inl rfl) (pe_ix ix_str pe_str (pe_callH h_law_take (hr.mono (by decide)) (by rfl) (pa_cons (pv 0) (pa_cons pe_int pa_nil))) (fun _ _ => rfl)))
  (pss_cons (ps_if (pt_cmpR op_eq (pv 2) pe_int (nomark _))
  (pss_one (ps_ret (pe_op op_add_str (pe_slice sl_str (pv 1) po_none (po_some (pv 3))) (pe_slice sl_str (pv 1) (po_some (pe_op op_add (pv 3) pe_int)) po_none))))
  pss_nil)
  (pss_cons (ps_if (pt_cmpR op_lt (pv 2) pe_int (nomark _))
  (pss_one (ps_ret (pe_op op_add_str (pe_op op_add_str (pe_slice sl_str (pv 1) po_none (po_some (pv 3))) (pv 4)) (pe_slice sl_str (pv 1) (po_some (pe_op op_sub (pe_op op_add (pv 3) (pv 2)) pe_int)) po_none))))
  pss_nil)
  (pss_one (ps_ret (pe_callH h_law_bad (hr.mono (by decide)) (by rfl) (pa_cons (pv 0) pa_nil))))))))), ?_⟩
    refine ⟨_, rfl, d, n, 4, rfl, hd, by omega, by decide, by decide, fun r1 H1 hr1 hd1 sx1 => ?_⟩
    refine ⟨_, rfl, _, rfl, z, rfl, by omega, _, _, rfl, rfl, d, n + 1, z.length + 1, rfl, hd1, by omega, by omega, by omega, fun r2 H2 hr2 hd2 sx2 => ?_⟩
    refine ⟨_, rfl, d, n + 2, 8, rfl, hd2, by omega, by decide, by decide, fun r3 H3 hr3 hd3 sx3 => ?_⟩
    obtain ⟨c, hc⟩ : ∃ c, (" 019-+x\n" : Str).cps.toList[r3]? = some c := ⟨_, List.getElem?_eq_getElem (by show r3 < 8; exact hr3)⟩
    refine ⟨_, _, c, rfl, rfl, by decide +kernel, atI_nat hc, ?_⟩
    have sX := (sx1.trans sx2).trans sx3
    refine ⟨_, rfl, rfl, _, rfl, ite2 (fun y => ?_) (fun y => ?_)⟩
    · have l1 := Txt.slice_le z none (some (r2 : Int))
      have l2 := Txt.slice_le z (some ((r2 : Int) + 1)) none
      exact ⟨_, rfl, _, rfl, _, rfl, z, rfl, by omega, _, rfl, _, rfl, _, _, rfl, rfl, _, rfl, z, rfl, by omega, Txt.slice z none (some (r2 : Int)), Txt.slice z (some ((r2 : Int) + 1)) none, rfl, rfl, by omega, q _ _ (by rw [Str.length_append]; omega) sX⟩
    refine ⟨_, rfl, _, _, rfl, rfl, _, rfl, ite2 (fun y => ?_) (fun y => ?_)⟩
    · have l1 := Txt.slice_le z none (some (r2 : Int))
      have l2 := Txt.slice_le z (some ((r2 : Int) + (r1 : Int) - 1)) none
      have l3 : (⟨#[c]⟩ : Str).length = 1 := rfl
      exact ⟨_, rfl, _, rfl, _, rfl, z, rfl, by omega, _, rfl, Txt.slice z none (some (r2 : Int)), ⟨#[c]⟩, rfl, rfl, by omega, _, rfl, _, rfl, _, rfl, _, _, rfl, rfl, _, _, rfl, rfl, _, rfl, z, rfl, by omega, Txt.slice z none (some (r2 : Int)) ++ ⟨#[c]⟩, Txt.slice z (some ((r2 : Int) + (r1 : Int) - 1)) none, rfl, rfl, by rw [Str.length_append]; omega, q _ _ (by rw [Str.length_append, Str.length_append]; omega) sX⟩
    · exact ⟨_, rfl, d, n + 3, rfl, hd3, by omega, fun x H4 hx sx4 => q x _ (by omega) (sX.trans sx4)⟩
end
abbrev st_law_right : Stmt := top 24
section
variable {P : Program} {w : World} {K : PySem.W.Frag} {mg : Str → Option Value} {base : Heap} {r cNoWindow cNoCommand cNoNeeds cNoPlace cNoRow cNoTable : Addr}
open My
def spRight58 : Sp := fun vs H Q _ => ∃ (z : Str), vs = [.str z] ∧ z.length ≤ 20000 ∧ ∀ H', Same H H' → Q (.bl true) H'
theorem ints_no_bool {ns : List Int} : ((ns.map V.int).filter fun _ => false).map (fun v => v) = ([] : List Int).map V.int := by
  rw [List.filter_eq_nil_iff.mpr (fun _ _ => by simp)]; rfl
theorem sc_law_right : FnScope ["text", "found", "kinds", "e", "words", "due"] ["text"] (defScope st_law_right) := ⟨rfl, rfl, rfl, by decide +kernel, rfl, by decide +kernel, by decide +kernel⟩
theorem ok_law_right {f : Addr} {fd : FuncData} (B : Blt mg) (xRowError : XCl K mg "RowError" r) (xNoRow : XOwn K mg "NoRow" cNoRow r [cNoCommand, cNoNeeds, cNoPlace, cNoTable, cNoWindow]) (bNoCommand : mg "NoCommand" = some (.ref cNoCommand)) (bNoNeeds : mg "NoNeeds" = some (.ref cNoNeeds)) (bNoPlace : mg "NoPlace" = some (.ref cNoPlace))
    (bNoTable : mg "NoTable" = some (.ref cNoTable)) (bNoWindow : mg "NoWindow" = some (.ref cNoWindow)) (bValueError : mg "ValueError" = none) (F : Fun K "_law_right" "_law_right" st_law_right f fd) (h_law_is_word : Has P w K mg base "_law_is_word" 1 ["word"] spWord) (hread_row : Has P w K mg base "read_row" 3 ["text"] spRead) (hEread_row : HasE P w K mg base "read_row" 3 ["text"] (spOr spRead (spReadE cNoRow))) : FnOk P w K mg base CX0 4 f fd ["text"] spRight58 := by
  refine F.ok sc_law_right (fun vs H Q E h => ?_) (fun cdv A outer s H vs Q E hr h => ?_)
  · obtain ⟨z, rfl, _⟩ := h
    rfl
  · obtain ⟨z, rfl, hz, q⟩ := h
    have hu := hr.units0
    have hu1 := hu_of hr
    have hs : sizeLine = 16777216 := sizeLine_eq
    have bNoRow := xNoRow.cl.bound
    refine ⟨_, (pss_cons (ps_set (i := 1) sc_law_right.nd rfl (Or.inl rfl) pe_non)
  (pss_cons (ps_set (i := 2) sc_law_right.nd rfl (Or.inl rfl) (pe_lst pa_nil))
  (pss_cons (ps_tryN (i := 3) xRowError (by rfl) rfl rfl sc_law_right.nd rfl rfl rfl (fun _ _ _ _ hx => (pss_one (ps_set (i := 1) sc_law_right.nd rfl (Or.inl rfl) (pe_callER hEread_row hx (hr.mono (by decide)) (by rfl) (pa_cons (pv 0) pa_nil))))) (fun _ => (pss_cons (ps_set (i := 2) sc_law_right.nd rfl (Or.inl rfl) (pe_lst (pa_cons (pe_callB (isiX (K := K) rfl) (by rfl) B.isinstance boot_isinst' (pa_cons (pv 3) (pa_cons (pe_glob (v := .ref cNoRow) (by rfl) bNoRow rfl) pa_nil))) (pa_cons (pe_callB (isiX (K := K) rfl) (by rfl) B.isinstance boot_isinst' (pa_cons (pv 3) (pa_cons (pe_bltn (v := .ty "ValueError") (by rfl) bValueError boot_ValueError' (by rfl)) pa_nil))) pa_nil))))
  (pss_one (ps_expr (pe_bmK (K := K) rfl PySem.F.plainAttrs_list PySem.F.slot_list_append PySem.F.type_list_append mt_append (pv 2) (pa_cons (pe_callB (isiX (K := K) rfl) (by rfl) B.isinstance boot_isinst' (pa_cons (pv 3) (pa_cons (pe_tup (pa_cons (pe_glob (v := .ref cNoCommand) (by rfl) bNoCommand rfl) (pa_cons (pe_glob (v := .ref cNoNeeds) (by rfl) bNoNeeds rfl) (pa_cons (pe_glob (v := .ref cNoPlace) (by rfl) bNoPlace rfl) (pa_cons (pe_glob (v := .ref cNoTable) (by rfl) bNoTable rfl) (pa_cons (pe_glob (v := .ref cNoWindow) (by rfl) bNoWindow rfl) pa_nil)))))) pa_nil))) pa_nil)))))))
  (pss_cons (ps_set (i := 4) sc_law_right.nd rfl (Or.inl rfl) (pe_ifExp (pt_cmpR op_eq (pv 0) pe_str (nomark _)) (pe_lst pa_nil) (pe_bm PySem.F.plainAttrs_str PySem.F.slot_str_split PySem.F.type_str_split mt_split (pv 0) (pa_cons pe_str pa_nil))))
  (pss_cons (ps_if (pt_not (pt_val (pe_callB (allK (K := K) rfl rfl) (by rfl) B.all boot_all' (pa_cons (pe_lc (own := ["word"]) (ix := []) (N := ["word"]) rfl (LcOk.of (by rfl)) (piK (K := K) rfl (pv 4)) (fun _ _ _ _ _ => (pg_name (i := 0) (show (["word"] : List Str).Nodup by decide +kernel) rfl (by first | exact Or.inl rfl | exact Or.inr rfl))) (fun _ _ _ _ _ => pts_nil) (fun _ _ _ _ _ => (pe_callH h_law_is_word (hr.mono (by decide)) (by rfl) (pa_cons (pv 0) pa_nil)))) pa_nil))))
  (pss_one (ps_ret (pe_cmpR (eqLK (K := K) rfl hu) (pv 2) (pe_lst (pa_cons pe_bl (pa_cons pe_bl (pa_cons pe_bl pa_nil)))) (nomark _))))
  pss_nil)
  (pss_cons (ps_if (PW.pt (pw_or (pt_not (pt_val (pe_callB (isiK (K := K) rfl) (by rfl) B.isinstance boot_isinst' (pa_cons (pv 1) (pa_cons (pe_bltn (v := .ty "list") (by rfl) B.list boot_list' (by rfl)) pa_nil))))) (pw_or1 (pt_cmpR (neLK (K := K) rfl hu) (pe_lc (own := ["one"]) (ix := []) (N := ["one"]) rfl (LcOk.of (by rfl)) (piK (K := K) rfl (pv 1)) (fun _ _ _ _ _ => (pg_name (i := 0) (show (["one"] : List Str).Nodup by decide +kernel) rfl (by first | exact Or.inl rfl | exact Or.inr rfl))) (fun _ _ _ _ _ => (pts_one (pt_val (pe_callB (isiK (K := K) rfl) (by rfl) B.isinstance boot_isinst' (pa_cons (pv 0) (pa_cons (pe_bltn (v := .ty "bool") (by rfl) B.bool boot_bool' (by rfl)) pa_nil)))))) (fun _ _ _ _ _ => (pv 0))) (pe_lst pa_nil) (nomark _)))))
  (pss_one (ps_ret pe_bl))
  pss_nil)
  (pss_cons (ps_setLc (i := 5) (own := ["word"]) (ix := []) (N := ["word"]) rfl sc_law_right.nd rfl rfl (LcOk.of (by rfl)) (piK (K := K) rfl (pv 4)) (fun _ _ _ _ _ => (pg_name (i := 0) (show (["word"] : List Str).Nodup by decide +kernel) rfl (by first | exact Or.inl rfl | exact Or.inr rfl))) (fun _ _ _ _ _ => pts_nil) (fun _ _ _ _ _ => (pe_callTy call_int_text (by rfl) B.int boot_int' (pa_cons (pv 0) pa_nil))))
  (pss_cons (ps_if (pt_cmpR (neLK (K := K) rfl hu) (pv 1) (pv 5) (nomark _))
  (pss_one (ps_ret pe_bl))
  pss_nil)
  (pss_cons (ps_expr (pe_bm PySem.F.plainAttrs_list PySem.F.slot_list_append PySem.F.type_list_append mt_append (pv 1) (pa_cons pe_int pa_nil)))
  (pss_one (ps_ret (pe_cmpR (eqLK (K := K) rfl hu) (pe_callH hread_row (hr.mono (by decide)) (by rfl) (pa_cons (pv 0) pa_nil)) (pv 5) (nomark _))))))))))))), ?_⟩
    refine ⟨by show 0 ≤ sizeLine; decide, fun k0 nk0 => ?_⟩
    have s0 := Same.new (o := .lst []) nk0
    generalize upd H k0 (.lst []) = H0 at s0 ⊢
    have hwl := words_len z
    have hwb : ∀ x ∈ wordsM z, x.length ≤ 20000 := fun x hx => Nat.le_trans (words_le hx) hz
    by_cases hg : goodM z = true
    · refine ⟨rfl, _, rfl, .inl ⟨z, rfl, hz, hg, fun l H1 nl s1 el => ?_⟩⟩
      have S1 := s0.trans s1
      refine ⟨_, rfl, rfl, _, rfl, ?_⟩
      by_cases y : z = "-"
      case' pos =>
        refine iteY (by rw [y]) ⟨by show 0 ≤ sizeLine; omega, fun wl nwl => ?_⟩
        have ew : upd H1 wl (.lst []) wl = some (.lst ((wordsM z).map V.str)) := by rw [upd_same]; unfold wordsM; rw [if_pos y]; rfl
        have sw := Same.new (o := .lst []) nwl
        generalize upd H1 wl (.lst []) = Hw at ew sw ⊢
      case' neg =>
        refine iteN (fun e => y (by injection e)) ⟨_, rfl, rfl, z, _, rfl, rfl, by omega, rfl, by have := parts_le z " "; omega, fun wl nwl => ?_⟩
        have ew : upd H1 wl (.lst ((Txt.split z " ").map V.str)) wl = some (.lst ((wordsM z).map V.str)) := by rw [upd_same]; unfold wordsM; rw [if_neg y]
        have sw := Same.new (o := .lst ((Txt.split z " ").map V.str)) nwl
        generalize upd H1 wl (.lst ((Txt.split z " ").map V.str)) = Hw at ew sw ⊢
      all_goals (
        have hg' := hg
        unfold goodM at hg'
        refine ⟨_, rfl, wl, rfl, ⟨_, SqL.of ew⟩, fun D hD => ?_⟩
        refine lc_list_ev (cap := []) (xs := (wordsM z).map V.str) (fun _ => true) boolV (by rw [List.length_map]; omega) hD (SqL.of ew) (fun _ H' _ _ => evYes) (fun y' H' hy _ s' Q' kk => ?_) (fun H2 s2 e2 => ?_)
        · obtain ⟨x, hx, rfl⟩ := List.mem_map.mp hy
          exact ⟨_, rfl, x, rfl, hwb x hx, fun H'' s'' => kk H'' s''⟩
        rw [bool_heap] at e2
        refine ⟨D, _, rfl, SqL.of e2, _, rfl, iteNB (by rw [good_all]; exact hg') ?_⟩
        have el2 := (sw.trans s2) _ _ el
        have ew2 := s2 _ _ ew
        have S2 := (S1.trans sw).trans s2
        refine ⟨_, rfl, _, "list", _, _, rfl, .lst el2, kit_same, _, rfl, iteNB rfl ?_⟩
        refine ⟨_, rfl, l, rfl, ⟨_, SqL.of el2⟩, fun D2 hD2 => ?_⟩
        refine lc_list_ev (cap := []) (xs := (readM z).map V.int) (fun _ => false) (fun v => v) (by rw [List.length_map]; unfold readM; rw [List.length_map]; omega) hD2 (SqL.of el2) (fun y' H' hy s' Q' kk => ?_) (fun y' H' hy z' => by cases z') (fun H3 s3 e3 => ?_)
        · obtain ⟨x, hx, rfl⟩ := List.mem_map.mp hy
          exact ⟨_, rfl, _, "bool", _, _, rfl, .int _, kit_int_bool, _, rfl, kk H' (Same.refl _)⟩
        rw [ints_no_bool] at e3
        refine ⟨by show 0 ≤ sizeLine; omega, fun pe npe => neI (ns := []) (ms := []) (SqL.of (Same.new npe _ _ e3)) (SqL.of upd_same) ⟨_, rfl, iteNS rfl ?_⟩⟩
        have s4 := s3.trans (Same.new (o := .lst []) npe)
        generalize upd H3 pe (.lst []) = H4 at s4 ⊢
        have el4 := s4 _ _ el2
        have ew4 := s4 _ _ ew2
        have S4 := S2.trans s4
        refine ⟨_, rfl, wl, rfl, ⟨_, SqL.of ew4⟩, fun D3 hD3 => ?_⟩
        refine lc_list_ev (cap := []) (xs := (wordsM z).map V.str) (fun _ => true) intV (by rw [List.length_map]; omega) hD3 (SqL.of ew4) (fun _ H' _ _ => evYes) (fun y' H' hy _ s' Q' kk => ?_) (fun H5 s5 e5 => ?_)
        · obtain ⟨x, hx, rfl⟩ := List.mem_map.mp hy
          have hi := int_of (List.all_eq_true.mp hg' x hx)
          exact ⟨_, rfl, x, _, rfl, hi.1, hi.2, kk H' (Same.refl _)⟩
        rw [int_heap] at e5
        have e5 : H5 D3 = some (.lst ((readM z).map V.int)) := e5
        have el5 := s5 _ _ el4
        have S5 := S4.trans s5
        have nlD : l ≠ D3 := ne_of_none el4 hD3
        refine ⟨_, rfl, _, rfl, neI (SqL.of el5) (SqL.of e5) ⟨_, rfl, iteNS rfl ?_⟩⟩
        refine ⟨_, rfl, .inl ⟨rfl, _, SqL.of el5⟩, l, _, _, rfl, rfl, el5, by rw [List.length_map]; unfold readM; rw [List.length_map]; omega, ?_⟩
        have s6 : Same H (upd H5 l (.lst ((readM z).map V.int ++ [.int 1]))) := fun b o e => by rw [upd_ne (ne_of_none (s0 _ _ e) nl)]; exact S5 _ _ e
        have e6 : upd H5 l (.lst ((readM z).map V.int ++ [.int 1])) D3 = some (.lst ((readM z).map V.int)) := by rw [upd_ne nlD.symm]; exact e5
        refine ⟨_, rfl, z, rfl, hz, hg, fun l2 H7 nl2 s7 e7 => ⟨_, rfl, eqI (SqL.of e7) (SqL.of (s7 _ _ e6)) ?_⟩⟩
        rw [decide_eq_true rfl]
        exact q _ (s6.trans s7))
    · have hg : goodM z = false := by simpa using hg
      have y : z ≠ "-" := fun e => by rw [e] at hg; unfold goodM wordsM at hg; rw [if_pos rfl] at hg; cases hg
      refine ⟨rfl, _, rfl, .inr ⟨z, rfl, hz, hg, fun H1 s1 => ⟨cNoRow, rfl, xNoRow.cl.exc, xNoRow.up, fun ea he => ?_⟩⟩⟩
      have S1 := (s0.trans s1).trans (Same.new (o := excO ea cNoRow) he)
      refine ⟨_, rfl, ea, cNoRow, _, true, rfl, upd_same, xNoRow.at_, .inl ⟨_, rfl, xNoRow.self⟩, ?_⟩
      refine ⟨_, rfl, ea, cNoRow, _, true, rfl, upd_same, xNoRow.at_, .inr (.inl ⟨_, rfl, xNoRow.val⟩), by show 2 ≤ sizeLine; decide, fun kd nkd => ?_⟩
      have s2 := Same.new (o := .lst [.bl true, .bl true]) nkd
      refine ⟨_, rfl, .inl ⟨rfl, _, SqL.of upd_same⟩, _, rfl, by show 5 ≤ sizeLine; decide, fun tp ntp => ?_⟩
      have s3 := Same.new (o := .tup ([cNoCommand, cNoNeeds, cNoPlace, cNoTable, cNoWindow].map V.ref)) ntp
      have ekd := s3 _ _ (upd_same (H := upd H1 ea (excO ea cNoRow)) (a := kd) (o := .lst [.bl true, .bl true]))
      refine ⟨ea, cNoRow, _, false, rfl, s3 _ _ (s2 _ _ upd_same), xNoRow.at_, .inr (.inr ⟨tp, _, rfl, upd_same, xNoRow.any fun d h => h⟩), ?_⟩
      refine ⟨kd, _, _, rfl, rfl, ekd, by show 2 < sizeLine; decide, ?_⟩
      generalize hH : upd (upd (upd (upd H1 ea _) kd _) tp _) kd _ = H3
      have S3 : ∀ b o, H b = some o → H3 b = some o := fun b o e => by
        have hbk : b ≠ kd := ne_of_none (S1 _ _ e) nkd
        rw [← hH, upd_ne hbk]; exact s3 _ _ (s2 _ _ (S1 _ _ e))
      have ek : H3 kd = some (.lst [.bl true, .bl true, .bl false]) := by rw [← hH]; exact upd_same
      clear hH
      refine ⟨_, rfl, rfl, _, rfl, ?_⟩
      refine iteN (fun e => y (by injection e)) ⟨_, rfl, rfl, z, _, rfl, rfl, by omega, rfl, by have := parts_le z " "; omega, fun wl nwl => ?_⟩
      have ew : upd H3 wl (.lst ((Txt.split z " ").map V.str)) wl = some (.lst ((wordsM z).map V.str)) := by rw [upd_same]; unfold wordsM; rw [if_neg y]
      have sw := Same.new (o := .lst ((Txt.split z " ").map V.str)) nwl
      generalize upd H3 wl (.lst ((Txt.split z " ").map V.str)) = Hw at ew sw ⊢
      unfold goodM at hg
      refine ⟨_, rfl, wl, rfl, ⟨_, SqL.of ew⟩, fun D hD => ?_⟩
      refine lc_list_ev (cap := []) (xs := (wordsM z).map V.str) (fun _ => true) boolV (by rw [List.length_map]; omega) hD (SqL.of ew) (fun _ H' _ _ => evYes) (fun y' H' hy _ s' Q' kk => ?_) (fun H4 s4 e4 => ?_)
      · obtain ⟨x, hx, rfl⟩ := List.mem_map.mp hy
        exact ⟨_, rfl, x, rfl, hwb x hx, fun H'' s'' => kk H'' s''⟩
      rw [bool_heap] at e4
      refine ⟨D, _, rfl, SqL.of e4, _, rfl, ?_⟩
      rw [good_all, hg]
      have ek4 := (sw.trans s4) _ _ ek
      refine iteT ⟨_, rfl, by show 3 ≤ sizeLine; decide, fun pl npl => ?_⟩
      have s5 := Same.new (o := .lst [.bl true, .bl true, .bl false]) npl
      refine ⟨kd, pl, _, _, rfl, rfl, SqL.of (s5 _ _ ek4), SqL.of upd_same, fun _ => ⟨rfl, rfl⟩, ?_⟩
      exact q _ fun b o e => s5 _ _ ((sw.trans s4) _ _ (S3 b o e))
end
abbrev stlaw : Stmt := top 25
section
variable {P : Program} {w : World} {K : PySem.W.Frag} {mg : Str → Option Value} {base : Heap}
open My
def spLaw (K : PySem.W.Frag) : Sp := fun vs H Q _ => ∃ (a : Addr) (ns : List Int), vs = [.ref a] ∧ SqL K H a (ns.map V.int) ∧ ns.length ≤ 63 ∧ ∀ H', Q (.bl true) H'
theorem cut_take {ns : List Int} (k : Nat) : cutV (ns.map V.int) none (some (k : Int)) = (ns.take k).map V.int := by rw [cutV_take, List.map_take]
theorem Sm.rev {ns : List Int} (h : Sm ns) : Sm ns.reverse := fun n hn => h n (List.mem_reverse.mp hn)
theorem sclaw : FnScope ["script", "row", "some", "handed", "told", "text", "cell"] ["script"] (defScope stlaw) := ⟨rfl, rfl, rfl, by decide +kernel, rfl, by decide +kernel, by decide +kernel⟩
theorem ok_law {f : Addr} {fd : FuncData} (B : Blt mg) (bstr : mg "str" = none) (F : Fun K "law" "law" stlaw f fd) (h_law_deck : Has P w K mg base "_law_deck" 1 ["cell", "k"] spDeckK) (h_law_row_of : Has P w K mg base "_law_row_of" 3 ["script", "most"] (spRowB K)) (hshow_row : Has P w K mg base "show_row" 1 ["row"] (spShow K)) (h_law_written : Has P w K mg base "_law_written" 1 ["row"] (spShow K))
    (h_law_spoilt : Has P w K mg base "_law_spoilt" 3 ["deck", "text"] spSpoilt) (h_law_right : Has P w K mg base "_law_right" 4 ["text"] spRight58) : FnOk P w K mg base CX0 5 f fd ["script"] (spLaw K) := by
  refine F.ok sclaw (fun vs H Q E h => ?_) (fun cdv A outer s H vs Q E hr h => ?_)
  · obtain ⟨a, ns, rfl, _⟩ := h
    rfl
  · obtain ⟨a, ss, rfl, hq, hlen, q⟩ := h
    have hu := hr.units0
    have hu1 := hu_of hr
    have hs : sizeLine = 16777216 := sizeLine_eq
    refine ⟨_, (pss_cons (ps_set (i := 1) sclaw.nd rfl (Or.inl rfl) (pe_callH h_law_row_of (hr.mono (by decide)) (by rfl) (pa_cons (pv 0) (pa_cons pe_int pa_nil))))
  (pss_cons (ps_for PassesOwn.never rfl (piK (K := K) rfl (pe_lst (pa_cons (pv 1) (pa_cons (pe_slice (slK (K := K) rfl) (pv 1) po_none (po_some pe_int)) (pa_cons (pe_sliceS (K := K) rfl (pv 1) (pe_un un_neg pe_int)) (pa_cons (pe_lst pa_nil) pa_nil)))))) (pg_name (i := 2) sclaw.nd rfl (Or.inl rfl))
  (pss_cons (ps_set (i := 3) sclaw.nd rfl (Or.inl rfl) (pe_callTy (listK (K := K) rfl) (by rfl) B.list boot_list' (pa_cons (pv 2) pa_nil)))
  (pss_cons (ps_set (i := 4) sclaw.nd rfl (Or.inl rfl) (pe_callH hshow_row (hr.mono (by decide)) (by rfl) (pa_cons (pv 3) pa_nil)))
  (pss_cons (ps_if (PW.pt (pw_or (pt_not (pt_val (pe_callB (isiK (K := K) rfl) (by rfl) B.isinstance boot_isinst' (pa_cons (pv 4) (pa_cons (pe_bltn (v := .ty "str") (by rfl) bstr boot_str' (by rfl)) pa_nil))))) (pw_or (pt_cmpR op_ne (pv 4) (pe_callH h_law_written (hr.mono (by decide)) (by rfl) (pa_cons (pv 2) pa_nil)) (nomark _)) (pw_or1 (pt_cmpR (neLK (K := K) rfl hu) (pv 3) (pv 2) (nomark _))))))
  (pss_one (ps_ret pe_bl))
  pss_nil)
  (pss_one (ps_if (pt_not (pt_val (pe_callH h_law_right (hr.mono (by decide)) (by rfl) (pa_cons (pv 4) pa_nil))))
  (pss_one (ps_ret pe_bl))
  pss_nil))))))
  (pss_cons (ps_set (i := 5) sclaw.nd rfl (Or.inl rfl) (pe_callH h_law_written (hr.mono (by decide)) (by rfl) (pa_cons (pe_slice (slK (K := K) rfl) (pv 1) po_none (po_some pe_int)) pa_nil)))
  (pss_cons (ps_for PassesOwn.never rfl (piK (K := K) rfl (pe_op op_cat (pe_slice (slK (K := K) rfl) (pv 0) po_none (po_some pe_int)) (pe_lst (pa_cons pe_int (pa_cons pe_int pa_nil))))) (pg_name (i := 6) sclaw.nd rfl (Or.inl rfl))
  (pss_one (ps_if (pt_not (pt_val (pe_callH h_law_right (hr.mono (by decide)) (by rfl) (pa_cons (pe_callH h_law_spoilt (hr.mono (by decide)) (by rfl) (pa_cons (pe_callH h_law_deck (hr.mono (by decide)) (by rfl) (pa_cons (pv 6) (pa_cons pe_int pa_nil))) (pa_cons (pv 5) pa_nil))) pa_nil))))
  (pss_one (ps_ret pe_bl))
  pss_nil)))
  (pss_one (ps_ret pe_bl)))))), ?_⟩
    refine ⟨_, rfl, a, ss, 300, rfl, hq, hlen, by decide, fun r ns H1 nr s1 er hn hsm => ?_⟩
    refine ⟨_, rfl, _, rfl, _, rfl, r, _, rfl, SqL.of er, fun l1 n1 => ?_⟩
    have c1 : cutV (ns.map V.int) none (some 1) = (ns.take 1).map V.int := cut_take 1
    rw [c1]
    have t1 := Same.new (o := .lst ((ns.take 1).map V.int)) n1
    have e1 : upd H1 l1 (.lst ((ns.take 1).map V.int)) l1 = _ := upd_same
    generalize upd H1 l1 (.lst ((ns.take 1).map V.int)) = H2 at t1 e1 ⊢
    refine ⟨_, rfl, _, rfl, _, r, _, rfl, by decide, rfl, SqL.of (t1 _ _ er), fun l2 n2 => ?_⟩
    rw [pickS_rev, ← List.map_reverse]
    have t2 := Same.new (o := .lst (ns.reverse.map V.int)) n2
    have e2 : upd H2 l2 (.lst (ns.reverse.map V.int)) l2 = _ := upd_same
    have e1 := t2 _ _ e1
    have S2 := t1.trans t2
    generalize upd H2 l2 (.lst (ns.reverse.map V.int)) = H3 at t2 e2 e1 S2 ⊢
    refine ⟨by show 0 ≤ sizeLine; decide, fun l3 n3 => ⟨by show 4 ≤ sizeLine; decide, fun pl npl => ?_⟩⟩
    have t3 := (Same.new (o := .lst []) n3).trans (Same.new (o := .lst [V.ref r, V.ref l1, V.ref l2, V.ref l3]) npl)
    have e3 : upd (upd H3 l3 (.lst [])) pl (.lst [V.ref r, V.ref l1, V.ref l2, V.ref l3]) l3 = some (.lst (([] : List Int).map V.int)) := Same.new npl _ _ upd_same
    have epl : upd (upd H3 l3 (.lst [])) pl (.lst [V.ref r, V.ref l1, V.ref l2, V.ref l3]) pl = _ := upd_same
    have e1 := t3 _ _ e1
    have e2 := t3 _ _ e2
    have S3 := S2.trans t3
    generalize upd (upd H3 l3 (.lst [])) pl (.lst [V.ref r, V.ref l1, V.ref l2, V.ref l3]) = H4 at e1 e2 e3 epl S3 ⊢
    have er4 := S3 _ _ er
    have four : ∀ v ∈ [V.ref r, V.ref l1, V.ref l2, V.ref l3], ∃ (b : Addr) (ms : List Int), v = .ref b ∧ H4 b = some (.lst (ms.map V.int)) ∧ ms.length ≤ 300 ∧ Sm ms := fun v hv => by
      simp only [List.mem_cons, List.not_mem_nil, or_false] at hv
      rcases hv with rfl | rfl | rfl | rfl
      · exact ⟨_, _, rfl, er4, hn, hsm⟩
      · exact ⟨_, _, rfl, e1, by rw [List.length_take]; omega, hsm.take 1⟩
      · exact ⟨_, _, rfl, e2, by rw [List.length_reverse]; exact hn, hsm.rev⟩
      · exact ⟨_, _, rfl, e3, by decide, fun n h => by simp at h⟩
    clear e1 e2 e3 t1 t2 t3 n1 n2 n3 npl S2
    refine ⟨pl, rfl, ⟨_, SqL.of epl⟩, for_list (K := K) (a := pl) (xs := [V.ref r, V.ref l1, V.ref l2, V.ref l3]) (fun i σ Hc => ∃ v2 v3 v4 : Option V, σ = [some (.ref a), some (.ref r), v2, v3, v4, none, none] ∧ Same H4 Hc) ⟨none, none, none, rfl, Same.refl _⟩ (fun i σ Hc _ ⟨_, _, _, _, sc⟩ => SqL.of (sc _ _ epl)) ?_ ?_⟩
    · rintro i v σ Hc hv ⟨v2, v3, v4, rfl, sc⟩
      obtain ⟨b, ms, rfl, eb, hms, hsb⟩ := four v (List.mem_of_getElem? hv)
      have ebc := sc _ _ eb
      refine ⟨_, rfl, b, _, rfl, .inl (SqL.of ebc), fun hd nhd => ?_⟩
      have u1 := Same.new (o := .lst (ms.map V.int)) nhd
      have eh : upd Hc hd (.lst (ms.map V.int)) hd = _ := upd_same
      have ebc := u1 _ _ ebc
      have sc := sc.trans u1
      generalize upd Hc hd (.lst (ms.map V.int)) = G1 at eh ebc sc ⊢
      refine ⟨_, rfl, hd, ms, rfl, SqL.of eh, by omega, hsb, fun G2 u2 => ?_⟩
      refine ⟨_, rfl, _, "str", _, _, rfl, .str _, kit_same, _, rfl, iteNB rfl ⟨_, rfl, _, rfl, b, ms, rfl, SqL.of (u2 _ _ ebc), by omega, hsb, fun G3 u3 => ⟨rfl, _, rfl, iteNS rfl ⟨_, rfl, _, rfl, neI (SqL.of ((u2.trans u3) _ _ eh)) (SqL.of ((u2.trans u3) _ _ ebc)) ⟨_, rfl, iteNS rfl ?_⟩⟩⟩⟩⟩
      refine ⟨_, rfl, _, rfl, by have := text_le (ns := ms) (by omega) hsb; omega, fun G4 u4 => ⟨_, rfl, iteNB rfl ⟨_, _, _, rfl, sc.trans ((u2.trans u3).trans u4)⟩⟩⟩
    rintro σ Hc ⟨v2, v3, v4, rfl, sc⟩
    have S4 := (s1.trans S3).trans sc
    refine ⟨_, rfl, _, rfl, r, _, rfl, SqL.of (sc _ _ er4), fun l4 n4 => ?_⟩
    have c2 : cutV (ns.map V.int) none (some 12) = (ns.take 12).map V.int := cut_take 12
    rw [c2]
    refine ⟨l4, ns.take 12, rfl, SqL.of upd_same, by rw [List.length_take]; omega, hsm.take 12, fun H5 s5 => ?_⟩
    have hz := text_le (ns := ns.take 12) (by rw [List.length_take]; omega) (hsm.take 12)
    have S5 := (S4.trans (Same.new (o := .lst ((ns.take 12).map V.int)) n4)).trans s5
    dsimp only [List.set]
    generalize textM (ns.take 12) = z at hz ⊢
    refine ⟨_, rfl, _, rfl, a, _, rfl, S5.seq hq, fun l5 n5 => ?_⟩
    have c3 : cutV (ss.map V.int) none (some 40) = (ss.take 40).map V.int := cut_take 40
    rw [c3]
    refine ⟨by show 2 ≤ sizeLine; decide, fun l6 n6 => ⟨l5, l6, _, _, rfl, rfl, Same.new n6 _ _ upd_same, upd_same, by rw [List.length_map, List.length_take]; show _ + 2 ≤ _; omega, fun l7 n7 => ?_⟩⟩
    have e7 : upd (upd (upd H5 l5 (.lst ((ss.take 40).map V.int))) l6 (.lst [.int 0, .int 1])) l7 (.lst ((ss.take 40).map V.int ++ [.int 0, .int 1])) l7 = some (.lst ((ss.take 40 ++ [0, 1]).map V.int)) := by rw [upd_same, List.map_append]; rfl
    generalize upd (upd (upd H5 l5 (.lst ((ss.take 40).map V.int))) l6 (.lst [.int 0, .int 1])) l7 (.lst ((ss.take 40).map V.int ++ [.int 0, .int 1])) = H7 at e7 ⊢
    refine ⟨l7, rfl, ⟨_, SqL.of e7⟩, for_list (K := K) (a := l7) (xs := (ss.take 40 ++ [0, 1]).map V.int) (fun i σ Hc => ∃ v6 : Option V, σ = [some (.ref a), some (.ref r), v2, v3, v4, some (.str z), v6] ∧ Same H7 Hc) ⟨none, rfl, Same.refl _⟩ (fun i σ Hc _ ⟨_, _, sc⟩ => SqL.of (sc _ _ e7)) ?_ ?_⟩
    · rintro i v σ Hc hv ⟨v6, rfl, sc⟩
      obtain ⟨hi, rfl⟩ := int_at hv
      refine ⟨_, rfl, _, 9, rfl, fun d G1 nd u1 hd => ⟨_, rfl, d, 9, z, rfl, hd, by decide, by omega, fun x G2 hx sx => ⟨x, rfl, hx, fun G3 u3 => ⟨_, rfl, iteNB rfl ⟨_, rfl, fun b o e => u3 _ _ (sx _ _ (ne_of_none (sc _ _ e) nd) (u1 _ _ (sc _ _ e)))⟩⟩⟩⟩⟩
    · rintro σ Hc ⟨v6, rfl, sc⟩
      exact q _
end
theorem all_mk {l : PySem.W.OpenLaw} {w : World} {K : PySem.W.Frag} {h : Heap} {mg : Str → Option Value} {fa : Addr} (X : K.In h) (G : h.Ns mainGlobals mg) (hfa : mg "law" = some (.ref fa))
    {cRowError : Addr}
    {cNoRow : Addr}
    {cNoCommand : Addr}
    {cNoNeeds : Addr}
    {cNoPlace : Addr}
    {cNoTable : Addr}
    {cNoWindow : Addr}
    {tNUMBER_FIGURES : Tok}
    {flaw_cell_at : Addr} {odlaw_cell_at anlaw_cell_at : Option Addr} {sllaw_cell_at : Array (Option Value)} {oclaw_cell_at kVlaw_cell_at dclaw_cell_at pmlaw_cell_at cdlaw_cell_at ctlaw_cell_at : Value}
    {flaw_take : Addr} {odlaw_take anlaw_take : Option Addr} {sllaw_take : Array (Option Value)} {oclaw_take kVlaw_take dclaw_take pmlaw_take cdlaw_take ctlaw_take : Value}
    {flaw_deck : Addr} {odlaw_deck anlaw_deck : Option Addr} {sllaw_deck : Array (Option Value)} {oclaw_deck kVlaw_deck dclaw_deck pmlaw_deck cdlaw_deck ctlaw_deck : Value}
    {flaw_number : Addr} {odlaw_number anlaw_number : Option Addr} {sllaw_number : Array (Option Value)} {oclaw_number kVlaw_number dclaw_number pmlaw_number cdlaw_number ctlaw_number : Value}
    {flaw_row_of : Addr} {odlaw_row_of anlaw_row_of : Option Addr} {sllaw_row_of : Array (Option Value)} {oclaw_row_of kVlaw_row_of dclaw_row_of pmlaw_row_of cdlaw_row_of ctlaw_row_of : Value}
    {fare_figures : Addr} {odare_figures anare_figures : Option Addr} {slare_figures : Array (Option Value)} {ocare_figures kVare_figures dcare_figures pmare_figures cdare_figures ctare_figures : Value}
    {fis_number : Addr} {odis_number anis_number : Option Addr} {slis_number : Array (Option Value)} {ocis_number kVis_number dcis_number pmis_number cdis_number ctis_number : Value}
    {fshow_row : Addr} {odshow_row anshow_row : Option Addr} {slshow_row : Array (Option Value)} {ocshow_row kVshow_row dcshow_row pmshow_row cdshow_row ctshow_row : Value}
    {fread_row : Addr} {odread_row anread_row : Option Addr} {slread_row : Array (Option Value)} {ocread_row kVread_row dcread_row pmread_row cdread_row ctread_row : Value}
    {flaw_is_word : Addr} {odlaw_is_word anlaw_is_word : Option Addr} {sllaw_is_word : Array (Option Value)} {oclaw_is_word kVlaw_is_word dclaw_is_word pmlaw_is_word cdlaw_is_word ctlaw_is_word : Value}
    {flaw_written : Addr} {odlaw_written anlaw_written : Option Addr} {sllaw_written : Array (Option Value)} {oclaw_written kVlaw_written dclaw_written pmlaw_written cdlaw_written ctlaw_written : Value}
    {flaw_bad : Addr} {odlaw_bad anlaw_bad : Option Addr} {sllaw_bad : Array (Option Value)} {oclaw_bad kVlaw_bad dclaw_bad pmlaw_bad cdlaw_bad ctlaw_bad : Value}
    {flaw_spoilt : Addr} {odlaw_spoilt anlaw_spoilt : Option Addr} {sllaw_spoilt : Array (Option Value)} {oclaw_spoilt kVlaw_spoilt dclaw_spoilt pmlaw_spoilt cdlaw_spoilt ctlaw_spoilt : Value}
    {flaw_right : Addr} {odlaw_right anlaw_right : Option Addr} {sllaw_right : Array (Option Value)} {oclaw_right kVlaw_right dclaw_right pmlaw_right cdlaw_right ctlaw_right : Value}
    {flaw : Addr} {odlaw anlaw : Option Addr} {sllaw : Array (Option Value)} {oclaw kVlaw dclaw pmlaw cdlaw ctlaw : Value}
    (aRowError : PySem.W.nsIn K mainGlobals "RowError" = some (some (.ref cRowError)))
    (aNoRow : PySem.W.nsIn K mainGlobals "NoRow" = some (some (.ref cNoRow)))
    (aNoCommand : PySem.W.nsIn K mainGlobals "NoCommand" = some (some (.ref cNoCommand)))
    (aNoNeeds : PySem.W.nsIn K mainGlobals "NoNeeds" = some (some (.ref cNoNeeds)))
    (aNoPlace : PySem.W.nsIn K mainGlobals "NoPlace" = some (some (.ref cNoPlace)))
    (aNoTable : PySem.W.nsIn K mainGlobals "NoTable" = some (some (.ref cNoTable)))
    (aNoWindow : PySem.W.nsIn K mainGlobals "NoWindow" = some (some (.ref cNoWindow)))
    (eRowError : PySem.W.excIn K cRowError mroV "ValueError.__new__" = true)
    (eNoRow : PySem.W.excIn K cNoRow mroV "ValueError.__new__" = true)
    (gaNoRow : PySem.W.findIn K (.ref cNoRow) "__getattribute__" = some (some (.builtin "BaseException.__getattribute__"))) (gtNoRow : PySem.W.findIn K (.ref cNoRow) "__getattr__" = some none) (clNoRow : PySem.W.findIn K (.ref cNoRow) "__class__" = some (some (.builtin "object.__class__"))) (obNoRow : PySem.W.mroIn K cNoRow (.type "object") = some true) (beNoRow : PySem.W.mroIn K cNoRow (.type "BaseException") = some true) (upNoRow : PySem.W.mroIn K cNoRow (.ref cRowError) = some true) (meNoRow : PySem.W.mroIn K cNoRow (.ref cNoRow) = some true) (veNoRow : PySem.W.mroIn K cNoRow (.type "ValueError") = some true)
    (iNoRowNoCommand : PySem.W.isClsIn K cNoCommand = true) (tNoRowNoCommand : PySem.W.typeIn K (.ref cNoCommand) = some (.type "type")) (oNoRowNoCommand : PySem.W.mroIn K cNoRow (.ref cNoCommand) = some false)
    (iNoRowNoNeeds : PySem.W.isClsIn K cNoNeeds = true) (tNoRowNoNeeds : PySem.W.typeIn K (.ref cNoNeeds) = some (.type "type")) (oNoRowNoNeeds : PySem.W.mroIn K cNoRow (.ref cNoNeeds) = some false)
    (iNoRowNoPlace : PySem.W.isClsIn K cNoPlace = true) (tNoRowNoPlace : PySem.W.typeIn K (.ref cNoPlace) = some (.type "type")) (oNoRowNoPlace : PySem.W.mroIn K cNoRow (.ref cNoPlace) = some false)
    (iNoRowNoTable : PySem.W.isClsIn K cNoTable = true) (tNoRowNoTable : PySem.W.typeIn K (.ref cNoTable) = some (.type "type")) (oNoRowNoTable : PySem.W.mroIn K cNoRow (.ref cNoTable) = some false)
    (iNoRowNoWindow : PySem.W.isClsIn K cNoWindow = true) (tNoRowNoWindow : PySem.W.typeIn K (.ref cNoWindow) = some (.type "type")) (oNoRowNoWindow : PySem.W.mroIn K cNoRow (.ref cNoWindow) = some false)
    (zValueError : PySem.W.nsIn K mainGlobals "ValueError" = some none)
    (zstr : PySem.W.nsIn K mainGlobals "str" = some none)
    (gNUMBER_FIGURES : PySem.W.nsIn K mainGlobals "NUMBER_FIGURES" = some (some (.int 30 tNUMBER_FIGURES)))
    (alaw_cell_at : PySem.W.nsIn K mainGlobals "_law_cell_at" = some (some (.ref flaw_cell_at)))
    (llaw_cell_at : K.lookup flaw_cell_at = some ⟨oclaw_cell_at, odlaw_cell_at, .func (PySem.W.fnOf "_law_cell_at" "_law_cell_at" (defArgs st_law_cell_at) (defBody st_law_cell_at) (defScope st_law_cell_at) .none kVlaw_cell_at dclaw_cell_at pmlaw_cell_at anlaw_cell_at cdlaw_cell_at ctlaw_cell_at), sllaw_cell_at⟩) (claw_cell_at : PySem.W.codeIn K cdlaw_cell_at "_law_cell_at" = true) (klaw_cell_at : PySem.W.keepIn K (.ref flaw_cell_at) = true)
    (alaw_take : PySem.W.nsIn K mainGlobals "_law_take" = some (some (.ref flaw_take)))
    (llaw_take : K.lookup flaw_take = some ⟨oclaw_take, odlaw_take, .func (PySem.W.fnOf "_law_take" "_law_take" (defArgs st_law_take) (defBody st_law_take) (defScope st_law_take) .none kVlaw_take dclaw_take pmlaw_take anlaw_take cdlaw_take ctlaw_take), sllaw_take⟩) (claw_take : PySem.W.codeIn K cdlaw_take "_law_take" = true) (klaw_take : PySem.W.keepIn K (.ref flaw_take) = true)
    (alaw_deck : PySem.W.nsIn K mainGlobals "_law_deck" = some (some (.ref flaw_deck)))
    (llaw_deck : K.lookup flaw_deck = some ⟨oclaw_deck, odlaw_deck, .func (PySem.W.fnOf "_law_deck" "_law_deck" (defArgs st_law_deck) (defBody st_law_deck) (defScope st_law_deck) .none kVlaw_deck dclaw_deck pmlaw_deck anlaw_deck cdlaw_deck ctlaw_deck), sllaw_deck⟩) (claw_deck : PySem.W.codeIn K cdlaw_deck "_law_deck" = true) (klaw_deck : PySem.W.keepIn K (.ref flaw_deck) = true)
    (alaw_number : PySem.W.nsIn K mainGlobals "_law_number" = some (some (.ref flaw_number)))
    (llaw_number : K.lookup flaw_number = some ⟨oclaw_number, odlaw_number, .func (PySem.W.fnOf "_law_number" "_law_number" (defArgs st_law_number) (defBody st_law_number) (defScope st_law_number) .none kVlaw_number dclaw_number pmlaw_number anlaw_number cdlaw_number ctlaw_number), sllaw_number⟩) (claw_number : PySem.W.codeIn K cdlaw_number "_law_number" = true) (klaw_number : PySem.W.keepIn K (.ref flaw_number) = true)
    (alaw_row_of : PySem.W.nsIn K mainGlobals "_law_row_of" = some (some (.ref flaw_row_of)))
    (llaw_row_of : K.lookup flaw_row_of = some ⟨oclaw_row_of, odlaw_row_of, .func (PySem.W.fnOf "_law_row_of" "_law_row_of" (defArgs st_law_row_of) (defBody st_law_row_of) (defScope st_law_row_of) .none kVlaw_row_of dclaw_row_of pmlaw_row_of anlaw_row_of cdlaw_row_of ctlaw_row_of), sllaw_row_of⟩) (claw_row_of : PySem.W.codeIn K cdlaw_row_of "_law_row_of" = true) (klaw_row_of : PySem.W.keepIn K (.ref flaw_row_of) = true)
    (aare_figures : PySem.W.nsIn K mainGlobals "are_figures" = some (some (.ref fare_figures)))
    (lare_figures : K.lookup fare_figures = some ⟨ocare_figures, odare_figures, .func (PySem.W.fnOf "are_figures" "are_figures" (defArgs stare_figures) (defBody stare_figures) (defScope stare_figures) .none kVare_figures dcare_figures pmare_figures anare_figures cdare_figures ctare_figures), slare_figures⟩) (care_figures : PySem.W.codeIn K cdare_figures "are_figures" = true) (kare_figures : PySem.W.keepIn K (.ref fare_figures) = true)
    (ais_number : PySem.W.nsIn K mainGlobals "is_number" = some (some (.ref fis_number)))
    (lis_number : K.lookup fis_number = some ⟨ocis_number, odis_number, .func (PySem.W.fnOf "is_number" "is_number" (defArgs stis_number) (defBody stis_number) (defScope stis_number) .none kVis_number dcis_number pmis_number anis_number cdis_number ctis_number), slis_number⟩) (cis_number : PySem.W.codeIn K cdis_number "is_number" = true) (kis_number : PySem.W.keepIn K (.ref fis_number) = true)
    (ashow_row : PySem.W.nsIn K mainGlobals "show_row" = some (some (.ref fshow_row)))
    (lshow_row : K.lookup fshow_row = some ⟨ocshow_row, odshow_row, .func (PySem.W.fnOf "show_row" "show_row" (defArgs stshow_row) (defBody stshow_row) (defScope stshow_row) .none kVshow_row dcshow_row pmshow_row anshow_row cdshow_row ctshow_row), slshow_row⟩) (cshow_row : PySem.W.codeIn K cdshow_row "show_row" = true) (kshow_row : PySem.W.keepIn K (.ref fshow_row) = true)
    (aread_row : PySem.W.nsIn K mainGlobals "read_row" = some (some (.ref fread_row)))
    (lread_row : K.lookup fread_row = some ⟨ocread_row, odread_row, .func (PySem.W.fnOf "read_row" "read_row" (defArgs stread_row) (defBody stread_row) (defScope stread_row) .none kVread_row dcread_row pmread_row anread_row cdread_row ctread_row), slread_row⟩) (cread_row : PySem.W.codeIn K cdread_row "read_row" = true) (kread_row : PySem.W.keepIn K (.ref fread_row) = true)
    (alaw_is_word : PySem.W.nsIn K mainGlobals "_law_is_word" = some (some (.ref flaw_is_word)))
    (llaw_is_word : K.lookup flaw_is_word = some ⟨oclaw_is_word, odlaw_is_word, .func (PySem.W.fnOf "_law_is_word" "_law_is_word" (defArgs st_law_is_word) (defBody st_law_is_word) (defScope st_law_is_word) .none kVlaw_is_word dclaw_is_word pmlaw_is_word anlaw_is_word cdlaw_is_word ctlaw_is_word), sllaw_is_word⟩) (claw_is_word : PySem.W.codeIn K cdlaw_is_word "_law_is_word" = true) (klaw_is_word : PySem.W.keepIn K (.ref flaw_is_word) = true)
    (alaw_written : PySem.W.nsIn K mainGlobals "_law_written" = some (some (.ref flaw_written)))
    (llaw_written : K.lookup flaw_written = some ⟨oclaw_written, odlaw_written, .func (PySem.W.fnOf "_law_written" "_law_written" (defArgs st_law_written) (defBody st_law_written) (defScope st_law_written) .none kVlaw_written dclaw_written pmlaw_written anlaw_written cdlaw_written ctlaw_written), sllaw_written⟩) (claw_written : PySem.W.codeIn K cdlaw_written "_law_written" = true) (klaw_written : PySem.W.keepIn K (.ref flaw_written) = true)
    (alaw_bad : PySem.W.nsIn K mainGlobals "_law_bad" = some (some (.ref flaw_bad)))
    (llaw_bad : K.lookup flaw_bad = some ⟨oclaw_bad, odlaw_bad, .func (PySem.W.fnOf "_law_bad" "_law_bad" (defArgs st_law_bad) (defBody st_law_bad) (defScope st_law_bad) .none kVlaw_bad dclaw_bad pmlaw_bad anlaw_bad cdlaw_bad ctlaw_bad), sllaw_bad⟩) (claw_bad : PySem.W.codeIn K cdlaw_bad "_law_bad" = true) (klaw_bad : PySem.W.keepIn K (.ref flaw_bad) = true)
    (alaw_spoilt : PySem.W.nsIn K mainGlobals "_law_spoilt" = some (some (.ref flaw_spoilt)))
    (llaw_spoilt : K.lookup flaw_spoilt = some ⟨oclaw_spoilt, odlaw_spoilt, .func (PySem.W.fnOf "_law_spoilt" "_law_spoilt" (defArgs st_law_spoilt) (defBody st_law_spoilt) (defScope st_law_spoilt) .none kVlaw_spoilt dclaw_spoilt pmlaw_spoilt anlaw_spoilt cdlaw_spoilt ctlaw_spoilt), sllaw_spoilt⟩) (claw_spoilt : PySem.W.codeIn K cdlaw_spoilt "_law_spoilt" = true) (klaw_spoilt : PySem.W.keepIn K (.ref flaw_spoilt) = true)
    (alaw_right : PySem.W.nsIn K mainGlobals "_law_right" = some (some (.ref flaw_right)))
    (llaw_right : K.lookup flaw_right = some ⟨oclaw_right, odlaw_right, .func (PySem.W.fnOf "_law_right" "_law_right" (defArgs st_law_right) (defBody st_law_right) (defScope st_law_right) .none kVlaw_right dclaw_right pmlaw_right anlaw_right cdlaw_right ctlaw_right), sllaw_right⟩) (claw_right : PySem.W.codeIn K cdlaw_right "_law_right" = true) (klaw_right : PySem.W.keepIn K (.ref flaw_right) = true)
    (alaw : PySem.W.nsIn K mainGlobals "law" = some (some (.ref flaw)))
    (llaw : K.lookup flaw = some ⟨oclaw, odlaw, .func (PySem.W.fnOf "law" "law" (defArgs stlaw) (defBody stlaw) (defScope stlaw) .none kVlaw dclaw pmlaw anlaw cdlaw ctlaw), sllaw⟩) (claw : PySem.W.codeIn K cdlaw "law" = true) (klaw : PySem.W.keepIn K (.ref flaw) = true)
    (zlen : PySem.W.nsIn K mainGlobals "len" = some none) (zrange : PySem.W.nsIn K mainGlobals "range" = some none) (zenumerate : PySem.W.nsIn K mainGlobals "enumerate" = some none) (zlist : PySem.W.nsIn K mainGlobals "list" = some none) (zint : PySem.W.nsIn K mainGlobals "int" = some none) (zbool : PySem.W.nsIn K mainGlobals "bool" = some none) (zsum : PySem.W.nsIn K mainGlobals "sum" = some none) (zmax : PySem.W.nsIn K mainGlobals "max" = some none) (zmin : PySem.W.nsIn K mainGlobals "min" = some none) (zisinstance : PySem.W.nsIn K mainGlobals "isinstance" = some none) (zset : PySem.W.nsIn K mainGlobals "set" = some none) (zsorted : PySem.W.nsIn K mainGlobals "sorted" = some none) (ztuple : PySem.W.nsIn K mainGlobals "tuple" = some none) (zdict : PySem.W.nsIn K mainGlobals "dict" = some none) (zabs : PySem.W.nsIn K mainGlobals "abs" = some none) (zreversed : PySem.W.nsIn K mainGlobals "reversed" = some none) (zrepr : PySem.W.nsIn K mainGlobals "repr" = some none) (zall : PySem.W.nsIn K mainGlobals "all" = some none) (zany : PySem.W.nsIn K mainGlobals "any" = some none) (zzip : PySem.W.nsIn K mainGlobals "zip" = some none) :
    ∃ fd : FuncData, (∀ (s : Shared) (v : Value), BindsTo s fd ⟨[v], []⟩ [("script", v)]) ∧ ∀ base : Heap, K.In base → base.Ns mainGlobals mg → FnOk l.prog w K mg base CX0 5 fa fd ["script"] (spLaw K) := by
  have e := hfa.symm.trans (PySem.W.mg_of X G alaw)
  cases e
  have B : Blt mg := ⟨PySem.W.mg_none_of X G zlen, PySem.W.mg_none_of X G zrange, PySem.W.mg_none_of X G zenumerate, PySem.W.mg_none_of X G zlist, PySem.W.mg_none_of X G zint, PySem.W.mg_none_of X G zbool, PySem.W.mg_none_of X G zsum, PySem.W.mg_none_of X G zmax, PySem.W.mg_none_of X G zmin, PySem.W.mg_none_of X G zisinstance, PySem.W.mg_none_of X G zset, PySem.W.mg_none_of X G zsorted, PySem.W.mg_none_of X G ztuple, PySem.W.mg_none_of X G zdict, PySem.W.mg_none_of X G zabs, PySem.W.mg_none_of X G zreversed, PySem.W.mg_none_of X G zrepr, PySem.W.mg_none_of X G zall, PySem.W.mg_none_of X G zany, PySem.W.mg_none_of X G zzip⟩
  have bRowError := PySem.W.mg_of X G aRowError
  have bNoRow := PySem.W.mg_of X G aNoRow
  have bNoCommand := PySem.W.mg_of X G aNoCommand
  have bNoNeeds := PySem.W.mg_of X G aNoNeeds
  have bNoPlace := PySem.W.mg_of X G aNoPlace
  have bNoTable := PySem.W.mg_of X G aNoTable
  have bNoWindow := PySem.W.mg_of X G aNoWindow
  have xRowError : XCl K mg "RowError" cRowError := ⟨bRowError, eRowError⟩
  have xNoRow : XOwn K mg "NoRow" cNoRow cRowError [cNoCommand, cNoNeeds, cNoPlace, cNoTable, cNoWindow] := ⟨⟨bNoRow, eNoRow⟩, ⟨gaNoRow, gtNoRow, clNoRow, obNoRow, beNoRow⟩, upNoRow, meNoRow, veNoRow, fun d hd => by
    simp only [List.mem_cons, List.not_mem_nil, or_false] at hd
    rcases hd with rfl | rfl | rfl | rfl | rfl
    · exact ⟨iNoRowNoCommand, tNoRowNoCommand, oNoRowNoCommand⟩
    · exact ⟨iNoRowNoNeeds, tNoRowNoNeeds, oNoRowNoNeeds⟩
    · exact ⟨iNoRowNoPlace, tNoRowNoPlace, oNoRowNoPlace⟩
    · exact ⟨iNoRowNoTable, tNoRowNoTable, oNoRowNoTable⟩
    · exact ⟨iNoRowNoWindow, tNoRowNoWindow, oNoRowNoWindow⟩⟩
  have bValueError := PySem.W.mg_none_of X G zValueError
  have bstr := PySem.W.mg_none_of X G zstr
  have bNUMBER_FIGURES := PySem.W.mg_of X G gNUMBER_FIGURES
  have h_law_cell_at : ∀ base : Heap, Has l.prog w K mg base "_law_cell_at" 1 ["script", "k"] (spCellK K) := fun base => ⟨_, _, ok_law_cell_at B (fun_mk (st := st_law_cell_at) llaw_cell_at claw_cell_at klaw_cell_at), PySem.W.mg_of X G alaw_cell_at, klaw_cell_at, (fun_mk (st := st_law_cell_at) llaw_cell_at claw_cell_at klaw_cell_at).binds (ps := ["script", "k"]) fun _ _ _ _ _ _ us hl => match us, hl with | [_, _], _ => rfl⟩
  have h_law_take : ∀ base : Heap, Has l.prog w K mg base "_law_take" 1 ["deck", "many"] spTakeK := fun base => ⟨_, _, ok_law_take (fun_mk (st := st_law_take) llaw_take claw_take klaw_take), PySem.W.mg_of X G alaw_take, klaw_take, (fun_mk (st := st_law_take) llaw_take claw_take klaw_take).binds (ps := ["deck", "many"]) fun _ _ _ _ _ _ us hl => match us, hl with | [_, _], _ => rfl⟩
  have h_law_deck : ∀ base : Heap, Has l.prog w K mg base "_law_deck" 1 ["cell", "k"] spDeckK := fun base => ⟨_, _, ok_law_deck (fun_mk (st := st_law_deck) llaw_deck claw_deck klaw_deck), PySem.W.mg_of X G alaw_deck, klaw_deck, (fun_mk (st := st_law_deck) llaw_deck claw_deck klaw_deck).binds (ps := ["cell", "k"]) fun _ _ _ _ _ _ us hl => match us, hl with | [_, _], _ => rfl⟩
  have h_law_number : ∀ base : Heap, Has l.prog w K mg base "_law_number" 2 ["deck"] spNumB := fun base => ⟨_, _, ok_law_number (fun_mk (st := st_law_number) llaw_number claw_number klaw_number) (h_law_take base), PySem.W.mg_of X G alaw_number, klaw_number, (fun_mk (st := st_law_number) llaw_number claw_number klaw_number).binds (ps := ["deck"]) fun _ _ _ _ _ _ us hl => match us, hl with | [_], _ => rfl⟩
  have h_law_row_of : ∀ base : Heap, Has l.prog w K mg base "_law_row_of" 3 ["script", "most"] (spRowB K) := fun base => ⟨_, _, ok_law_row_of B (fun_mk (st := st_law_row_of) llaw_row_of claw_row_of klaw_row_of) (h_law_cell_at base) (h_law_take base) (h_law_deck base) (h_law_number base), PySem.W.mg_of X G alaw_row_of, klaw_row_of, (fun_mk (st := st_law_row_of) llaw_row_of claw_row_of klaw_row_of).binds (ps := ["script", "most"]) fun _ _ _ _ _ _ us hl => match us, hl with | [_, _], _ => rfl⟩
  have hare_figures : ∀ base : Heap, Has l.prog w K mg base "are_figures" 1 ["word", "most"] spFig := fun base => ⟨_, _, ok_are_figures B (fun_mk (st := stare_figures) lare_figures care_figures kare_figures), PySem.W.mg_of X G aare_figures, kare_figures, (fun_mk (st := stare_figures) lare_figures care_figures kare_figures).binds (ps := ["word", "most"]) fun _ _ _ _ _ _ us hl => match us, hl with | [_, _], _ => rfl⟩
  have his_number : ∀ base : Heap, Has l.prog w K mg base "is_number" 2 ["word"] spWord := fun base => ⟨_, _, ok_is_number bNUMBER_FIGURES (fun_mk (st := stis_number) lis_number cis_number kis_number) (hare_figures base), PySem.W.mg_of X G ais_number, kis_number, (fun_mk (st := stis_number) lis_number cis_number kis_number).binds (ps := ["word"]) fun _ _ _ _ _ _ us hl => match us, hl with | [_], _ => rfl⟩
  have hshow_row : ∀ base : Heap, Has l.prog w K mg base "show_row" 1 ["row"] (spShow K) := fun base => ⟨_, _, ok_show_row B bstr (fun_mk (st := stshow_row) lshow_row cshow_row kshow_row), PySem.W.mg_of X G ashow_row, kshow_row, (fun_mk (st := stshow_row) lshow_row cshow_row kshow_row).binds (ps := ["row"]) fun _ _ _ _ _ _ us hl => match us, hl with | [_], _ => rfl⟩
  have hread_row : ∀ base : Heap, Has l.prog w K mg base "read_row" 3 ["text"] spRead := fun base => ⟨_, _, ok_read_row B (fun_mk (st := stread_row) lread_row cread_row kread_row) (his_number base), PySem.W.mg_of X G aread_row, kread_row, (fun_mk (st := stread_row) lread_row cread_row kread_row).binds (ps := ["text"]) fun _ _ _ _ _ _ us hl => match us, hl with | [_], _ => rfl⟩
  have hEread_row : ∀ base : Heap, HasE l.prog w K mg base "read_row" 3 ["text"] (spOr spRead (spReadE cNoRow)) := fun base => ⟨_, _, (ok_read_row B (fun_mk (st := stread_row) lread_row cread_row kread_row) (his_number base)).lift.or (ok_read_rowE B xNoRow (fun_mk (st := stread_row) lread_row cread_row kread_row) (his_number base)), PySem.W.mg_of X G aread_row, kread_row, (fun_mk (st := stread_row) lread_row cread_row kread_row).binds (ps := ["text"]) fun _ _ _ _ _ _ us hl => match us, hl with | [_], _ => rfl⟩
  have h_law_is_word : ∀ base : Heap, Has l.prog w K mg base "_law_is_word" 1 ["word"] spWord := fun base => ⟨_, _, ok_law_is_word B (fun_mk (st := st_law_is_word) llaw_is_word claw_is_word klaw_is_word), PySem.W.mg_of X G alaw_is_word, klaw_is_word, (fun_mk (st := st_law_is_word) llaw_is_word claw_is_word klaw_is_word).binds (ps := ["word"]) fun _ _ _ _ _ _ us hl => match us, hl with | [_], _ => rfl⟩
  have h_law_written : ∀ base : Heap, Has l.prog w K mg base "_law_written" 1 ["row"] (spShow K) := fun base => ⟨_, _, ok_law_written B bstr (fun_mk (st := st_law_written) llaw_written claw_written klaw_written), PySem.W.mg_of X G alaw_written, klaw_written, (fun_mk (st := st_law_written) llaw_written claw_written klaw_written).binds (ps := ["row"]) fun _ _ _ _ _ _ us hl => match us, hl with | [_], _ => rfl⟩
  have h_law_bad : ∀ base : Heap, Has l.prog w K mg base "_law_bad" 2 ["deck"] spBad58 := fun base => ⟨_, _, ok_law_bad B (fun_mk (st := st_law_bad) llaw_bad claw_bad klaw_bad) (h_law_take base), PySem.W.mg_of X G alaw_bad, klaw_bad, (fun_mk (st := st_law_bad) llaw_bad claw_bad klaw_bad).binds (ps := ["deck"]) fun _ _ _ _ _ _ us hl => match us, hl with | [_], _ => rfl⟩
  have h_law_spoilt : ∀ base : Heap, Has l.prog w K mg base "_law_spoilt" 3 ["deck", "text"] spSpoilt := fun base => ⟨_, _, ok_law_spoilt B (fun_mk (st := st_law_spoilt) llaw_spoilt claw_spoilt klaw_spoilt) (h_law_take base) (h_law_bad base), PySem.W.mg_of X G alaw_spoilt, klaw_spoilt, (fun_mk (st := st_law_spoilt) llaw_spoilt claw_spoilt klaw_spoilt).binds (ps := ["deck", "text"]) fun _ _ _ _ _ _ us hl => match us, hl with | [_, _], _ => rfl⟩
  have h_law_right : ∀ base : Heap, Has l.prog w K mg base "_law_right" 4 ["text"] spRight58 := fun base => ⟨_, _, ok_law_right B xRowError xNoRow bNoCommand bNoNeeds bNoPlace bNoTable bNoWindow bValueError (fun_mk (st := st_law_right) llaw_right claw_right klaw_right) (h_law_is_word base) (hread_row base) (hEread_row base), PySem.W.mg_of X G alaw_right, klaw_right, (fun_mk (st := st_law_right) llaw_right claw_right klaw_right).binds (ps := ["text"]) fun _ _ _ _ _ _ us hl => match us, hl with | [_], _ => rfl⟩
  exact ⟨PySem.W.fnOf "law" "law" (defArgs stlaw) (defBody stlaw) (defScope stlaw) .none kVlaw dclaw pmlaw anlaw cdlaw ctlaw, fun s v => .of_eq rfl, fun base _ _ => ok_law B bstr (fun_mk (st := stlaw) llaw claw klaw) (h_law_deck base) (h_law_row_of base) (hshow_row base) (h_law_written base) (h_law_spoilt base) (h_law_right base)⟩
theorem walk {l : PySem.W.OpenLaw} {q : Program} {loose : List Str} {XP : (Str → Option Value) → Heap → Prop} {YP : World → Heap → Prop} {d : DefRec} {K : Params → PySem.W.Frag} (hn : l.most = some 63) (hdf : d.params.defaults = [])
    (hY : ∀ (w : World) (h : Heap), YP w h → (K w.params).In h)
    (F : ∀ (w : World) (mg : Str → Option Value) (fa : Addr) (h : Heap), (K w.params).In h → h.Ns mainGlobals mg → mg d.name = some (.ref fa) →
      ∃ fd : FuncData, (∀ (s : Shared) (u : Value), BindsTo s fd ⟨[u], []⟩ [("script", u)]) ∧ ∀ base : Heap, (K w.params).In base → base.Ns mainGlobals mg → FnOk l.prog w (K w.params) mg base CX0 5 fa fd ["script"] (spLaw (K w.params))) :
    PySem.W.WalkO q loose XP YP l.row.toRowW d [] (fun f vs => PySem.call f vs) :=
  L2.walk_of (n := 63) (k := 5) (x := "script") (CX := fun _ => CX0) (sp := fun w => spLaw (K w.params)) hn (by decide) hdf ⟨rfl, by decide, by decide, rfl⟩ hY F (fun _ _ a ns hl _ hS => ⟨a, ns, rfl, hS, hl, fun _ => rfl⟩) fun _ _ _ _ _ z => z
end Prf
open PySem PySem.W PyProof.Rows
set_option maxRecDepth 100000 in
set_option maxHeartbeats 0 in
theorem PySem.Challenge.cw_unlikerow_k58_rows_written_holds : PySem.Challenge.rw_unlikerow_k58_rows_written.Holds := by
  w_on; o_law; k_head; (case hw => w_witness2)
  k_fill
  refine Prf.walk (l := PySem.Challenge.rw_unlikerow_k58_rows_written) rfl rfl (fun w h Y => PySem.W.kIn_of Y) ?F
  case F =>
    intro w mg fa h KX G hmg
    refine' Prf.all_mk KX G hmg ?aRowError ?aNoRow ?aNoCommand ?aNoNeeds ?aNoPlace ?aNoTable ?aNoWindow ?eRowError ?eNoRow ?gaNoRow ?gtNoRow ?clNoRow ?obNoRow ?beNoRow ?upNoRow ?meNoRow ?veNoRow ?iNoRowNoCommand ?tNoRowNoCommand ?oNoRowNoCommand ?iNoRowNoNeeds ?tNoRowNoNeeds ?oNoRowNoNeeds ?iNoRowNoPlace ?tNoRowNoPlace ?oNoRowNoPlace ?iNoRowNoTable ?tNoRowNoTable ?oNoRowNoTable ?iNoRowNoWindow ?tNoRowNoWindow ?oNoRowNoWindow ?zValueError ?zstr ?gNUMBER_FIGURES ?alaw_cell_at ?llaw_cell_at ?claw_cell_at ?klaw_cell_at ?alaw_take ?llaw_take ?claw_take ?klaw_take ?alaw_deck ?llaw_deck ?claw_deck ?klaw_deck ?alaw_number ?llaw_number ?claw_number ?klaw_number ?alaw_row_of ?llaw_row_of ?claw_row_of ?klaw_row_of ?aare_figures ?lare_figures ?care_figures ?kare_figures ?ais_number ?lis_number ?cis_number ?kis_number ?ashow_row ?lshow_row ?cshow_row ?kshow_row ?aread_row ?lread_row ?cread_row ?kread_row ?alaw_is_word ?llaw_is_word ?claw_is_word ?klaw_is_word ?alaw_written ?llaw_written ?claw_written ?klaw_written ?alaw_bad ?llaw_bad ?claw_bad ?klaw_bad ?alaw_spoilt ?llaw_spoilt ?claw_spoilt ?klaw_spoilt ?alaw_right ?llaw_right ?claw_right ?klaw_right ?alaw ?llaw ?claw ?klaw ?zlen ?zrange ?zenumerate ?zlist ?zint ?zbool ?zsum ?zmax ?zmin ?zisinstance ?zset ?zsorted ?ztuple ?zdict ?zabs ?zreversed ?zrepr ?zall ?zany ?zzip
    (case aRowError => k_is); (case aNoRow => k_is); (case aNoCommand => k_is); (case aNoNeeds => k_is); (case aNoPlace => k_is); (case aNoTable => k_is); (case aNoWindow => k_is); (case eRowError => k_exc)
    (case eNoRow => k_exc); (case gaNoRow => k_is); (case gtNoRow => k_is); (case clNoRow => k_is); (case obNoRow => k_is); (case beNoRow => k_is); (case upNoRow => k_is); (case meNoRow => k_is)
    (case veNoRow => k_is); (case iNoRowNoCommand => k_is); (case tNoRowNoCommand => k_is); (case oNoRowNoCommand => k_is); (case iNoRowNoNeeds => k_is); (case tNoRowNoNeeds => k_is); (case oNoRowNoNeeds => k_is); (case iNoRowNoPlace => k_is)
    (case tNoRowNoPlace => k_is); (case oNoRowNoPlace => k_is); (case iNoRowNoTable => k_is); (case tNoRowNoTable => k_is); (case oNoRowNoTable => k_is); (case iNoRowNoWindow => k_is); (case tNoRowNoWindow => k_is); (case oNoRowNoWindow => k_is)
    (case zValueError => k_is); (case zstr => k_is); (case gNUMBER_FIGURES => k_is); (case alaw_cell_at => k_is); (case llaw_cell_at => k_is); (case claw_cell_at => k_is); (case klaw_cell_at => k_is); (case alaw_take => k_is)
    (case llaw_take => k_is); (case claw_take => k_is); (case klaw_take => k_is); (case alaw_deck => k_is); (case llaw_deck => k_is); (case claw_deck => k_is); (case klaw_deck => k_is); (case alaw_number => k_is)
    (case llaw_number => k_is); (case claw_number => k_is); (case klaw_number => k_is); (case alaw_row_of => k_is); (case llaw_row_of => k_is); (case claw_row_of => k_is); (case klaw_row_of => k_is); (case aare_figures => k_is)
    (case lare_figures => k_is); (case care_figures => k_is); (case kare_figures => k_is); (case ais_number => k_is); (case lis_number => k_is); (case cis_number => k_is); (case kis_number => k_is); (case ashow_row => k_is)
    (case lshow_row => k_is); (case cshow_row => k_is); (case kshow_row => k_is); (case aread_row => k_is); (case lread_row => k_is); (case cread_row => k_is); (case kread_row => k_is); (case alaw_is_word => k_is)
    (case llaw_is_word => k_is); (case claw_is_word => k_is); (case klaw_is_word => k_is); (case alaw_written => k_is); (case llaw_written => k_is); (case claw_written => k_is); (case klaw_written => k_is); (case alaw_bad => k_is)
    (case llaw_bad => k_is); (case claw_bad => k_is); (case klaw_bad => k_is); (case alaw_spoilt => k_is); (case llaw_spoilt => k_is); (case claw_spoilt => k_is); (case klaw_spoilt => k_is); (case alaw_right => k_is)
    (case llaw_right => k_is); (case claw_right => k_is); (case klaw_right => k_is); (case alaw => k_is); (case llaw => k_is); (case claw => k_is); (case klaw => k_is); (case zlen => k_is)
    (case zrange => k_is); (case zenumerate => k_is); (case zlist => k_is); (case zint => k_is); (case zbool => k_is); (case zsum => k_is); (case zmax => k_is); (case zmin => k_is)
    (case zisinstance => k_is); (case zset => k_is); (case zsorted => k_is); (case ztuple => k_is); (case zdict => k_is); (case zabs => k_is); (case zreversed => k_is); (case zrepr => k_is)
    (case zall => k_is); (case zany => k_is); (case zzip => k_is)
#print axioms PySem.Challenge.cw_unlikerow_k58_rows_written_holds

