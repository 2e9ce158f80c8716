import PyProof.Rows.All
import Wide.All
import OpenK.AllK
import Wide.FinOn
import Lean
import PyProof.EqAt
import PyProof.EqKinds
import PyProof.TupleCall
import PyProof.ZipIter
import PyProof.NeKinds
import PyProof.Rows.CallKwBuiltin
import KE.KDictSum
import KE.KSortTup
import KE.KRevIter
import PyProof.Rows.Range3
import PyProof.Rows.FactsT2
import PyProof.DictTable
import PyProof.NsDelKeeps
import PySem.Challenge.RW_toldsums_k32_no_places_of_kept_rows
set_option Elab.async false
set_option linter.all false
set_option maxRecDepth 100000
set_option maxHeartbeats 4000000
/-! THE HAND LAYER, for ints, bools, texts, own classes, LISTS and tuples (index, slices, in, append, pop ..), calls, loops. Paste it whole ahead of your own text; what your proof does not reach may be deleted. -/
namespace L2
open PySem PySem.Spec PyProof.Rows

/-- a key: an int or a str -/
abbrev Key := Sum Int Str
def keyIs : Key → Value → Bool
  | .inl k, v => Value.isInt k v
  | .inr x, v => Value.isStrOf x v
def keyH (w : World) : Key → Int
  | .inl k => hashInt k
  | .inr x => hashStr w x
theorem keyIs_shape : ∀ {k : Key} {v : Value}, keyIs k v = true → (∃ i t, k = Sum.inl i ∧ v = Value.int i t) ∨ (∃ x t, k = Sum.inr x ∧ v = Value.str x t)
  | .inl i, v, h => by
    obtain ⟨t, e⟩ := Value.isInt_shape (k := i) (v := v) h
    exact .inl ⟨i, t, rfl, e⟩
  | .inr x, v, h => by
    obtain ⟨t, e⟩ := Value.isStrOf_shape (x := x) (v := v) h
    exact .inr ⟨x, t, rfl, e⟩
theorem key_ll (a b : Int) : decide ((Sum.inl a : Key) = Sum.inl b) = (a == b) := by
  by_cases e : a = b
  · subst e; simp
  · have h : ¬ (Sum.inl a : Key) = Sum.inl b := fun q => e (Sum.inl.inj q)
    rw [decide_eq_false h]
    exact (beq_eq_false_iff_ne.mpr e).symm
theorem key_rr (a b : Str) : decide ((Sum.inr a : Key) = Sum.inr b) = decide (a = b) := by
  by_cases e : a = b
  · subst e; simp
  · have h : ¬ (Sum.inr a : Key) = Sum.inr b := fun q => e (Sum.inr.inj q)
    rw [decide_eq_false h, decide_eq_false e]
theorem key_lr (a : Int) (b : Str) : decide ((Sum.inl a : Key) = Sum.inr b) = false := decide_eq_false (fun q => nomatch q)
theorem key_rl (a : Str) (b : Int) : decide ((Sum.inr a : Key) = Sum.inl b) = false := decide_eq_false (fun q => nomatch q)

def mixKind (prog : Program) (w : World) : PySem.KeyKind prog w Key where
  is := keyIs
  hash := keyH w
  inj := fun v a b ha hb => by
    rcases keyIs_shape ha with ⟨i, t, rfl, rfl⟩ | ⟨x, t, rfl, rfl⟩
    · rcases keyIs_shape hb with ⟨j, u, rfl, e⟩ | ⟨y, u, rfl, e⟩
      · injection e with e1 _; rw [e1]
      · exact nomatch e
    · rcases keyIs_shape hb with ⟨j, u, rfl, e⟩ | ⟨y, u, rfl, e⟩
      · exact nomatch e
      · injection e with e1 _; rw [e1]
  byValue := fun k v h => by
    rcases keyIs_shape h with ⟨i, t, rfl, rfl⟩ | ⟨x, t, rfl, rfl⟩ <;> rfl
  pyHash := fun hv h => by
    rcases keyIs_shape hv with ⟨i, t, rfl, rfl⟩ | ⟨x, t, rfl, rfl⟩
    · exact wpAny_pyHash_int h
    · exact wpAny_pyHash_str h
  eqBool := fun hu hv h => by
    rcases keyIs_shape hu with ⟨i, t, rfl, rfl⟩ | ⟨x, t, rfl, rfl⟩
    · rcases keyIs_shape hv with ⟨j, u, rfl, rfl⟩ | ⟨y, u, rfl, rfl⟩
      · rw [key_ll] at h; exact wpAny_eqBool_int h
      · rw [key_lr] at h; exact SeqAt.EqAt.int_str i t y u _ _ _ _ h
    · rcases keyIs_shape hv with ⟨j, u, rfl, rfl⟩ | ⟨y, u, rfl, rfl⟩
      · rw [key_rl] at h; exact SeqAt.EqAt.str_int x t j u _ _ _ _ h
      · rw [key_rr] at h; exact wpAny_eqBool_str h
  «strs» := fun k x t v h => by
    rcases keyIs_shape h with ⟨i, u, rfl, e⟩ | ⟨y, u, rfl, e⟩
    · exact nomatch e
    · injection e with e1 _
      subst e1
      cases v <;> rfl

end L2

namespace L2
open PySem PySem.Spec PyProof.Rows

/-- a value, without the heap -/
inductive V where
  | non | bl (b : Bool) | int (i : Int) | str (x : Str) | byt (b : Array UInt8) | flt (b : UInt64) | ref (a : Addr) | ty (n : String)
  deriving DecidableEq

def RelV : V → Value → Prop
  | .non, u => u = Value.none
  | .bl b, u => u = Value.bool b
  | .int i, u => ∃ t, u = Value.int i t
  | .str x, u => ∃ t, u = Value.str x t
  | .byt b, u => ∃ t, u = Value.bytes b t
  | .flt b, u => ∃ t, u = Value.float b t
  | .ref a, u => u = Value.ref a
  | .ty n, u => u = Value.type n

abbrev Vals : List V → List Value → Prop := Paired RelV
theorem Vals.length {xs : List V} {us : List Value} (r : Vals xs us) : xs.length = us.length := Paired.length r
theorem Vals.get : ∀ {xs : List V} {us : List Value} {i : Nat} {x : V}, Vals xs us → xs[i]? = some x → ∃ u, us[i]? = some u ∧ RelV x u
  | _, _, _, _, .nil, e => by simp at e
  | _, _, 0, _, .cons r _, e => by simp at e; subst e; exact ⟨_, rfl, r⟩
  | _, _, i + 1, x, .cons _ t, e => by
    obtain ⟨u, h1, h2⟩ := Vals.get (i := i) (x := x) t (by simpa using e)
    exact ⟨u, by simpa using h1, h2⟩
theorem Vals.set {x : V} {u : Value} (r : RelV x u) : ∀ {xs : List V} {us : List Value} (i : Nat), Vals xs us → Vals (xs.set i x) (us.set i u)
  | _, _, _, .nil => .nil
  | _, _, 0, .cons _ t => .cons r t
  | _, _, i + 1, .cons q t => .cons q (Vals.set r i t)
theorem Vals.append : ∀ {xs ys : List V} {us ws : List Value}, Vals xs us → Vals ys ws → Vals (xs ++ ys) (us ++ ws)
  | _, _, _, _, .nil, s => s
  | _, _, _, _, .cons r t, s => .cons r (Vals.append t s)
theorem Vals.take : ∀ {xs : List V} {us : List Value} (n : Nat), Vals xs us → Vals (xs.take n) (us.take n)
  | _, _, 0, _ => .nil
  | _, _, _ + 1, .nil => .nil
  | _, _, n + 1, .cons r t => .cons r (Vals.take n t)
theorem Vals.drop : ∀ {xs : List V} {us : List Value} (n : Nat), Vals xs us → Vals (xs.drop n) (us.drop n)
  | _, _, 0, r => r
  | _, _, _ + 1, .nil => .nil
  | _, _, n + 1, .cons _ t => Vals.drop n t
theorem Vals.none_of : ∀ {xs : List V} {us : List Value} {i : Nat}, Vals xs us → xs[i]? = none → us[i]? = none := fun {xs us i} r e => by
  have h1 := r.length
  have h2 : xs.length ≤ i := List.getElem?_eq_none_iff.mp e
  exact List.getElem?_eq_none_iff.mpr (by omega)

def RelO : Option V → Option Value → Prop
  | some v, some u => RelV v u
  | none, none => True
  | _, _ => False
def KV {κ : Type} : List (κ × V) → List (κ × Value) → Prop := Paired fun (p : κ × V) (q : κ × Value) => p.1 = q.1 ∧ RelV p.2 q.2

/-- a key of a dict (00_mix): an int or a text -/
def kV : Key → V
  | .inl i => .int i
  | .inr x => .str x

/-- what stands at a tracked address -/
inductive HO where
  /-- a list -/
  | lst (xs : List V)
  /-- a tuple (never changes) -/
  | tup (xs : List V)
  /-- a dict whose keys are ints and texts; one whose keys are tuples of ints and texts (the empty one is both) -/
  | dK (kvs : List (Key × V)) | dT (kvs : List (List Key × V))
  /-- a set of ints: its members, its size -/
  | set (S : Int → Bool) (n : Nat)
  /-- an instance of the class at C, its dict at dx, its attributes -/
  | ins (C dx : Addr) (fs : List (Str × V))
  /-- the dict of the instance at x -/
  | own (x : Addr)
  /-- the dict of an exception -/
  | xd (fs : List (Str × V))
  /-- a bound method, f of x -/
  | met (f x : Addr)
  /-- a range object lo, lo + 1, .. below hi -/
  | rng (lo hi : Int)
  /-- a thing that is known to the object (the script; a dict while a loop walks it): read, never written while it is so -/
  | frz (o : Obj) (u : HO)
  /-- a code object's table -/
  | tbl (ps : Array Value)
  /-- any other thing, by what is true of its one object (a def of one's own: SetO a S n := HO.ext fun h => ..) -/
  | ext (φ : Heap → Prop)

abbrev Hp := Addr → Option HO
def upd (H : Hp) (a : Addr) (o : HO) : Hp := fun b => if b = a then some o else H b
theorem upd_same {H : Hp} {a : Addr} {o : HO} : upd H a o a = some o := by unfold upd; rw [if_pos rfl]
theorem upd_ne {H : Hp} {a b : Addr} {o : HO} (h : b ≠ a) : upd H a o b = H b := by unfold upd; rw [if_neg h]
/-- two objects of different content stand apart -/
theorem ne_of {H : Hp} {a b : Addr} {o u : HO} (h : H a = some o) (h' : H b = some u) (d : o ≠ u) : a ≠ b := by
  intro e; subst e; rw [h] at h'; exact d (Option.some.inj h')
theorem ne_of_none {H : Hp} {a b : Addr} {o : HO} (h : H a = some o) (h' : H b = none) : a ≠ b := by
  intro e; subst e; rw [h] at h'; cases h'

section
variable (P : Program) (w : World)
def ObjOk (H : Hp) (h : Heap) (a : Addr) : HO → Prop
  | .lst xs => xs.length ≤ sizeLine ∧ ∃ (its : List Value) (n : Nat), Vals xs its ∧ h.get? a = some { cls := .type "list", data := .seq its.toArray n }
  | .tup xs => xs.length ≤ sizeLine ∧ ∃ its : List Value, Vals xs its ∧ IsTup h a its.toArray
  | .dK kvs => kvs.length ≤ sizeLine ∧ (a == sysModules) = false ∧ ∃ vs, KV kvs vs ∧ h.DictOf (mixKind P w) a vs
  | .dT kvs => kvs.length ≤ sizeLine ∧ (a == sysModules) = false ∧ ∃ xs : List (List Key × Addr × Value),
      Paired (fun (p : List Key × V) (q : List Key × Addr × Value) => p.1 = q.1 ∧ H q.2.1 = some (.tup (p.1.map kV)) ∧ RelV p.2 q.2.2) kvs xs ∧
      ∃ o es ep, h.get? a = some o ∧ o.ExactDict ∧ o.data = .dict es ep ∧ es.toList = xs.map (entryOfKey (tupleKind (mixKind P w))) ∧ (xs.map (·.1)).Nodup
  | .set S n => h.SetOf (intKind P w) a S n
  | .ins C dx fs => H dx = some (.own a) ∧ fs.length ≤ 1000 ∧ dx ≠ a ∧ h.get? a = some (PySem.W.instObj C dx) ∧
      ∃ mA, h.Ns1 dx mA ∧ (∀ f, RelO (fs.lookup f) (mA f)) ∧ PySem.Within mA (fs.map (·.1))
  | .own _ => ∃ o, h.get? a = some o
  | .xd fs => ∃ mA, h.Ns1 a mA ∧ ∀ f, RelO (fs.lookup f) (mA f)
  | .rng lo hi => ∃ t u v, h.get? a = some { cls := .type "range", data := .fields #[.int lo t, .int hi u, .int 1 v] }
  | .frz o u => h.get? a = some o ∧ ObjOk H h a u
  | .tbl ps => h.get? a = some { cls := .none, data := .fields ps }
  | .met f x => h.get? a = some (PySem.W.methodObj (.ref f) (.ref x))
  | .ext φ => φ h ∧ (∃ o, h.get? a = some o) ∧ ∀ h1 h2 : Heap, φ h1 → (∀ o, h1.get? a = some o → h2.get? a = some o) → φ h2
/-- the abstract heap is held -/
def HOk (H : Hp) (h : Heap) : Prop := ∀ a o, H a = some o → ObjOk P w H h a o
end

section
variable {P : Program} {w : World} {H H' : Hp} {h h' : Heap} {a : Addr} {o : HO}
theorem ObjOk.lt (x : ObjOk P w H h a o) : a < h.objs.size := by
  cases o with
  | lst xs => obtain ⟨_, _, _, _, e⟩ := x; exact Heap.lt_size e
  | tup xs => obtain ⟨_, _, _, p⟩ := x; exact p.lt
  | dK kvs => obtain ⟨_, _, _, _, o, _, _, e, _⟩ := x; exact Heap.lt_size e
  | dT kvs => obtain ⟨_, _, _, _, o, _, _, e, _⟩ := x; exact Heap.lt_size e
  | set S n => obtain ⟨o, _, _, _, e, _⟩ := x; exact Heap.lt_size e
  | ins C dx fs => obtain ⟨_, _, _, e, _⟩ := x; exact Heap.lt_size e
  | own y => obtain ⟨_, e⟩ := x; exact Heap.lt_size e
  | xd fs => obtain ⟨_, ⟨_, _, _, e, _⟩, _⟩ := x; exact Heap.lt_size e
  | rng lo hi => obtain ⟨_, _, _, e⟩ := x; exact Heap.lt_size e
  | frz ob u => obtain ⟨e, _⟩ := x; exact Heap.lt_size e
  | tbl ps => exact Heap.lt_size (show h.get? a = some _ from x)
  | met f y => exact Heap.lt_size (show h.get? a = some _ from x)
  | ext φ => obtain ⟨_, ⟨_, e⟩, _⟩ := x; exact Heap.lt_size e
theorem Paired.mapP {α β : Type} {F G : α → β → Prop} : ∀ {l₁ : List α} {l₂ : List β}, Paired F l₁ l₂ → (∀ a b, F a b → G a b) → Paired G l₁ l₂
  | _, _, .nil, _ => .nil
  | _, _, .cons r t, f => .cons (f _ _ r) (Paired.mapP t f)
/-- what an object's description leans on: its own object, its own dict, the tuples -/
theorem ObjOk.stay (x : ObjOk P w H h a o) (k : ∀ b u, (b = a ∨ H b = some (.own a)) → h.get? b = some u → h'.get? b = some u)
    (ho : ∀ b, H b = some (.own a) → H' b = some (.own a)) (ht : ∀ b xs, H b = some (.tup xs) → H' b = some (.tup xs)) : ObjOk P w H' h' a o := by
  induction o with
  | lst xs => obtain ⟨z, its, n, r, e⟩ := x; exact ⟨z, its, n, r, k _ _ (.inl rfl) e⟩
  | tup xs => obtain ⟨z, its, r, ob, e, c⟩ := x; exact ⟨z, its, r, ob, k _ _ (.inl rfl) e, c⟩
  | dK kvs => obtain ⟨z, y, vs, r, ob, es, ep, e, c⟩ := x; exact ⟨z, y, vs, r, ob, es, ep, k _ _ (.inl rfl) e, c⟩
  | dT kvs =>
    obtain ⟨z, y, xs, r, ob, es, ep, e, c⟩ := x
    exact ⟨z, y, xs, Paired.mapP r fun p q z => ⟨z.1, ht _ _ z.2.1, z.2.2⟩, ob, es, ep, k _ _ (.inl rfl) e, c⟩
  | set S n => obtain ⟨ob, es, ep, t, e, c⟩ := x; exact ⟨ob, es, ep, t, k _ _ (.inl rfl) e, c⟩
  | ins C dx fs =>
    obtain ⟨d, z, ne, e, mA, ⟨od, es, ep, e2, c⟩, r⟩ := x
    exact ⟨ho _ d, z, ne, k _ _ (.inl rfl) e, mA, ⟨od, es, ep, k _ _ (.inr d) e2, c⟩, r⟩
  | own y => obtain ⟨ob, e⟩ := x; exact ⟨ob, k _ _ (.inl rfl) e⟩
  | xd fs => obtain ⟨mA, ⟨od, es, ep, e, c⟩, r⟩ := x; exact ⟨mA, ⟨od, es, ep, k _ _ (.inl rfl) e, c⟩, r⟩
  | rng lo hi => obtain ⟨t, u, v, e⟩ := x; exact ⟨t, u, v, k _ _ (.inl rfl) e⟩
  | frz ob u ih => obtain ⟨e, q⟩ := x; exact ⟨k _ _ (.inl rfl) e, ih q⟩
  | tbl ps =>
    have e : h.get? a = some { cls := .none, data := .fields ps } := x
    show h'.get? a = some { cls := .none, data := .fields ps }
    exact k a _ (.inl rfl) e
  | met f y =>
    have e : h.get? a = some (PySem.W.methodObj (.ref f) (.ref y)) := x
    show h'.get? a = some (PySem.W.methodObj (.ref f) (.ref y))
    exact k a _ (.inl rfl) e
  | ext φ => obtain ⟨p, ⟨o, e⟩, st⟩ := x; exact ⟨st _ _ p fun o q => k _ _ (.inl rfl) q, ⟨o, k _ _ (.inl rfl) e⟩, st⟩
theorem HOk.lt (x : HOk P w H h) (e : H a = some o) : a < h.objs.size := (x a o e).lt
theorem HOk.fresh (x : HOk P w H h) (e : h.objs.size ≤ a) : H a = none := by
  cases q : H a with
  | none => rfl
  | some u => exact absurd (Nat.lt_of_lt_of_le (x.lt q) e) (Nat.lt_irrefl _)
/-- every object of the heap is kept -/
theorem HOk.kept (x : HOk P w H h) (k : ∀ b u, h.get? b = some u → h'.get? b = some u) : HOk P w H h' := fun a o e =>
  (x a o e).stay (fun b u _ q => k b u q) (fun _ q => q) fun _ _ q => q
/-- a new object is laid and tracked -/
theorem HOk.laid (x : HOk P w H h) (k : ∀ b u, h.get? b = some u → h'.get? b = some u) (hp : h.objs.size ≤ a) (new : ObjOk P w (upd H a o) h' a o) : HOk P w (upd H a o) h' := fun b u e => by
  have hn := x.fresh hp
  by_cases hb : b = a
  · subst hb; rw [upd_same] at e; cases e; exact new
  · rw [upd_ne hb] at e
    exact (x b u e).stay (fun c v _ q => k c v q) (fun c q => by rw [upd_ne (ne_of_none q hn)]; exact q) fun c xs q => by rw [upd_ne (ne_of_none q hn)]; exact q
end

/-- what may be read as u: it is u, or a known u -/
def Rd (H : Hp) (a : Addr) (u : HO) : Prop := H a = some u ∨ ∃ o, H a = some (.frz o u)
theorem Rd.of {H : Hp} {a : Addr} {u : HO} (h : H a = some u) : Rd H a u := .inl h
theorem Rd.ok {P : Program} {w : World} {H : Hp} {h : Heap} {a : Addr} {u : HO} (r : Rd H a u) (x : HOk P w H h) : ObjOk P w H h a u := by
  rcases r with r | ⟨o, r⟩
  · exact x a u r
  · obtain ⟨_, q⟩ := x a _ r
    exact q
/-- what may be written -/
def Mut : Option HO → Prop
  | some (.lst _) => True
  | some (.dK _) => True
  | some (.dT _) => True
  | some (.set _ _) => True
  | some (.ins _ _ _) => True
  | some (.ext _) => True
  | _ => False
section
variable {P : Program} {w : World} {H : Hp} {h h' : Heap} {x e : Addr} {o' : HO}
/-- the object at e is changed: x itself, or the dict of the instance x -/
theorem HOk.write (ok : HOk P w H h) (mu : Mut (H x)) (he : e = x ∨ H e = some (.own x)) (k : ∀ b u, b ≠ e → h.get? b = some u → h'.get? b = some u) (heo : ∃ u, h'.get? e = some u)
    (new : ObjOk P w (upd H x o') h' x o') : HOk P w (upd H x o') h' := fun b u q => by
  have nown : ∀ c y, H c = some (.own y) → c ≠ x := fun c y r z => by subst z; rw [r] at mu; exact mu
  have ntup : ∀ c xs, H c = some (.tup xs) → c ≠ x := fun c xs r z => by subst z; rw [r] at mu; exact mu
  by_cases hb : b = x
  · subst hb; rw [upd_same] at q; cases q; exact new
  · rw [upd_ne hb] at q
    by_cases hbe : b = e
    · have q' : H b = some (.own x) := by
        rcases he with z | z
        · exact absurd (hbe.trans z) hb
        · rw [hbe]; exact z
      rw [q] at q'; cases q'
      obtain ⟨v, hv⟩ := heo
      exact ⟨v, by rw [hbe]; exact hv⟩
    · refine (ok b u q).stay (fun c v hc r => k c v ?_ r) (fun c r => by rw [upd_ne (nown c b r)]; exact r) fun c xs r => by rw [upd_ne (ntup c xs r)]; exact r
      rcases hc with rfl | hc
      · exact hbe
      · rintro rfl
        rcases he with z | z
        · exact nown c b hc z
        · rw [hc] at z; cases z; exact hb rfl
end

/-! ### kept unless tracked; of the frames at fs (the callers') the slots may change (an exception that passes writes there); of the records at ex (iterators) nothing is said -/
structure Un (fs ex : List Addr) (H H' : Hp) (h h' : Heap) : Prop where
  keep : ∀ b o, h.get? b = some o → H b = none → b ∉ fs → b ∉ ex → h'.get? b = some o
  slot : ∀ b o, h.get? b = some o → H b = none → b ∈ fs → b ∉ ex → ∃ sl, h'.get? b = some { o with slots := sl }
  free : ∀ b o, h.get? b = some o → H b = none → b ∉ ex → H' b = none
  there : ∀ b o, h.get? b = some o → b ∉ ex → ∃ o', h'.get? b = some o'
  tups : ∀ b xs, H b = some (.tup xs) → H' b = some (.tup xs)
  frzs : ∀ b o u, H b = some (.frz o u) → H' b = some (.frz o u)
  tbls : ∀ b ps, H b = some (.tbl ps) → ∃ more, H' b = some (.tbl (ps ++ more))
section
variable {fs fs' ex ex' : List Addr} {H H1 H2 : Hp} {h h1 h2 h' : Heap} {a x e : Addr} {o : HO}
theorem Un.any (u : Un fs ex H H1 h h1) {b : Addr} {ob : Obj} (q : h.get? b = some ob) (n : H b = none) (hx : b ∉ ex) : ∃ sl, h1.get? b = some { ob with slots := sl } := by
  by_cases hb : b ∈ fs
  · exact u.slot b ob q n hb hx
  · exact ⟨ob.slots, u.keep b ob q n hb hx⟩
theorem Un.trans (a : Un fs ex H H1 h h1) (b : Un fs ex H1 H2 h1 h2) : Un fs ex H H2 h h2 where
  keep := fun c ob q n hc hx => b.keep c ob (a.keep c ob q n hc hx) (a.free c ob q n hx) hc hx
  slot := fun c ob q n hc hx => by
    obtain ⟨sl, e1⟩ := a.slot c ob q n hc hx
    obtain ⟨sl', e2⟩ := b.slot c _ e1 (a.free c ob q n hx) hc hx
    exact ⟨sl', e2⟩
  free := fun c ob q n hx => by
    obtain ⟨o', e1⟩ := a.there c ob q hx
    exact b.free c o' e1 (a.free c ob q n hx) hx
  there := fun c ob q hx => by
    obtain ⟨o', e1⟩ := a.there c ob q hx
    exact b.there c o' e1 hx
  tups := fun c xs q => b.tups c xs (a.tups c xs q)
  frzs := fun c ob xs q => b.frzs c ob xs (a.frzs c ob xs q)
  tbls := fun c ps q => by
    obtain ⟨m1, e1⟩ := a.tbls c ps q
    obtain ⟨m2, e2⟩ := b.tbls c _ e1
    exact ⟨m1 ++ m2, by rw [e2, Array.append_assoc]⟩
theorem Un.kept (k : ∀ b u, h.get? b = some u → h'.get? b = some u) : Un fs ex H H h h' :=
  ⟨fun b ob q _ _ _ => k b ob q, fun b ob q _ _ _ => ⟨ob.slots, k b ob q⟩, fun _ _ _ n _ => n, fun b ob q _ => ⟨ob, k b ob q⟩, fun _ _ q => q, fun _ _ _ q => q, fun _ ps q => ⟨#[], by rw [q]; simp⟩⟩
theorem Un.refl : Un fs ex H H h h := Un.kept fun _ _ q => q
theorem Un.laid (k : ∀ b u, h.get? b = some u → h'.get? b = some u) (hp : h.objs.size ≤ a) (hn : H a = none) : Un fs ex H (upd H a o) h h' where
  keep := fun b u q _ _ _ => k b u q
  slot := fun b u q _ _ _ => ⟨u.slots, k b u q⟩
  free := fun b u q n _ => by rw [upd_ne (Nat.ne_of_lt (Nat.lt_of_lt_of_le (Heap.lt_size q) hp))]; exact n
  there := fun b u q _ => ⟨u, k b u q⟩
  tups := fun b xs q => by rw [upd_ne (ne_of_none q hn)]; exact q
  frzs := fun b u xs q => by rw [upd_ne (ne_of_none q hn)]; exact q
  tbls := fun b ps q => ⟨#[], by rw [upd_ne (ne_of_none q hn), q]; simp⟩
theorem Un.write (mu : Mut (H x)) (he : e = x ∨ H e = some (.own x)) (k : ∀ b u, b ≠ e → h.get? b = some u → h'.get? b = some u) (heo : ∃ u, h'.get? e = some u) : Un fs ex H (upd H x o) h h' := by
  have hx : ∀ b, H b = none → b ≠ x := fun b n z => by subst z; rw [n] at mu; exact mu
  have hb : ∀ b, H b = none → b ≠ e := fun b n z => by
    subst z
    rcases he with r | r
    · exact hx b n r
    · rw [n] at r; cases r
  have hm : ∀ b u, H b = some u → ¬ Mut (some u) → b ≠ x := fun b u q nm z => by subst z; rw [q] at mu; exact nm mu
  refine ⟨fun b u q n _ _ => k b u (hb b n) q, fun b u q n _ _ => ⟨u.slots, k b u (hb b n) q⟩, fun b u q n _ => by rw [upd_ne (hx b n)]; exact n, fun b u q _ => ?_,
    fun b xs q => by rw [upd_ne (hm b _ q fun z => z)]; exact q, fun b u xs q => by rw [upd_ne (hm b _ q fun z => z)]; exact q, fun b ps q => ⟨#[], by rw [upd_ne (hm b _ q fun z => z), q]; simp⟩⟩
  by_cases hbe : b = e
  · subst hbe; exact heo
  · exact ⟨u, k b u hbe q⟩
theorem Un.mono (u : Un fs ex H H1 h h1) (hs : ∀ b ∈ fs, b ∈ fs') (hx : ∀ b ∈ ex, b ∈ ex') : Un fs' ex' H H1 h h1 :=
  ⟨fun b ob q n hb he => u.keep b ob q n (fun z => hb (hs b z)) fun z => he (hx b z), fun _ _ q n _ he => u.any q n fun z => he (hx _ z), fun b ob q n he => u.free b ob q n fun z => he (hx b z), fun b ob q he => u.there b ob q fun z => he (hx b z), u.tups, u.frzs, u.tbls⟩
end

/-! ### the heap without what is tracked -/
def trk (h : Heap) (H : Hp) : List Addr := (List.range h.objs.size).filter fun a => (H a).isSome
def hidT (h : Heap) (H : Hp) : Heap := PySem.W.hideAll h (trk h H)
theorem hidT_size (h : Heap) (H : Hp) : (hidT h H).objs.size = h.objs.size := PySem.W.hideAll_size _ _
theorem hidT_get {h : Heap} {H : Hp} {b : Addr} {o : Obj} (e : h.get? b = some o) (n : H b = none) : (hidT h H).get? b = some o :=
  PySem.W.hideAll_get _ e fun hm => by
    have q : (H b).isSome = true := (List.mem_filter.mp hm).2
    rw [n] at q; simp at q
theorem of_hidT {h : Heap} {H : Hp} {b : Addr} {o : Obj} (e : (hidT h H).get? b = some o) : h.get? b = some o ∧ H b = none := by
  have e' : h.get? b = some o := PySem.W.of_hideAll (trk h H) e
  refine ⟨e', ?_⟩
  cases q : H b with
  | none => rfl
  | some x =>
    have hm : b ∈ trk h H := List.mem_filter.mpr ⟨List.mem_range.mpr (Heap.lt_size e'), by simp [q]⟩
    have z : (hidT h H).get? b = none := PySem.W.hideAll_none (trk h H) hm
    rw [z] at e; cases e

/-! ### OpenK's ledger, filled with every new object but one -/
def allNews (g h : Heap) (L : Addr) : List (Addr × Obj) := (List.range h.objs.size).filterMap fun a => if a = L ∨ (g.get? a).isSome = true then none else (h.get? a).map fun o => (a, o)
def rest (g h : Heap) (L d : Addr) : List (Addr × Obj) := (allNews g h L).filter fun p => decide (p.1 ≠ d)
end L2

namespace L2
open PySem PySem.Spec PyProof.Rows

/-- the module's facts, over the base: the heap at the law's entry without what is tracked there -/
structure Mod (K : PySem.W.Frag) (mg : Str → Option Value) (base : Heap) : Prop where
  kin : K.In base
  glob : base.Ns mainGlobals mg
  blt : ∃ mb, base.Ns builtinsNs mb ∧ ∀ x : Str, x ≠ "__name__" → mb x = bootBuiltins x
  nolimit : base.NoLimit

/-- the context: a def's body (or a comprehension's block) running. base: fixed through the whole law; s₀, H₀: the entry; outer: the frames whose slots others may change (a def's callers); stack: all frames that run;
   ex: iterators that were made ahead of the entry and are walked here (a comprehension's); fn: the names whose cells were made at the entry (a def: all; a comprehension's block: its own); calm: not within an except suite; pn: pins that every state bears; xe: what is wanted of an exception that leaves the code -/
structure Cx where
  prog : Program
  w : World
  K : PySem.W.Frag
  mg : Str → Option Value
  base : Heap
  A : Around
  N : List Str
  s₀ : Shared
  H₀ : Hp
  env : Env
  outer : List Env
  stack : List Env
  ex : List Addr
  fn : Str → Bool
  calm : Bool
  pn : List (Addr × Obj)
  xe : Value → Shared → Prop
/-- the callers' frames -/
def frs (l : List Env) : List Addr := l.filterMap (·.frame)
abbrev Cx.fs (X : Cx) : List Addr := frs X.outer

def Vis (sc : Scope) (x : Str) : Prop := sc.names.lookup x = some .local ∨ sc.names.lookup x = some .cell ∨ sc.names.lookup x = some .free
def Loc (sc : Scope) (x : Str) : Prop := sc.names.lookup x = some .local ∨ sc.names.lookup x = some .cell
def Look (env : Env) (h : Heap) (m : Str → Option Value) (x : Str) (u : Value) : Prop :=
  (env.kindOf x = some .local ∧ m x = some u) ∨ ((env.kindOf x = some .cell ∨ env.kindOf x = some .free) ∧ ∃ c, env.cells.lookup x = some c ∧ h.IsCell c (some u))

structure Cx.Ok (X : Cx) : Prop where
  mod : Mod X.K X.mg X.base
  kind : X.env.scope.kind = .function
  glob : X.env.globals = mainGlobals
  blt : X.env.builtins = builtinsNs
  above : X.s₀.heap.objs.size ≤ X.env.locals
  inj : ∀ x y c, X.env.cells.lookup x = some c → X.env.cells.lookup y = some c → x = y
  has : ∀ x, (X.env.kindOf x = some .cell ∨ X.env.kindOf x = some .free) → ∃ c, X.env.cells.lookup x = some c
  cab : ∀ x c, X.fn x = true → X.env.cells.lookup x = some c → X.s₀.heap.objs.size ≤ c
  hd : X.calm = true → X.A.handled = none
  frames : X.A.frames = some X.stack
  stk : X.stack = X.outer ∨ (X.stack = X.env :: X.outer ∧ X.env.frame = some X.env.locals)
  exf : ∀ b ∈ X.ex, b ≠ X.env.locals ∧ ∀ x c, X.env.cells.lookup x = some c → c ≠ b
  bs : ∀ b o, X.base.get? b = some o → X.s₀.heap.get? b = some o ∧ X.H₀ b = none
  bsz : X.base.objs.size ≤ X.s₀.heap.objs.size
  noex : ∀ b o, X.base.get? b = some o → b ∉ X.ex
  exfs : ∀ b ∈ X.ex, b ∉ X.fs
  funs : X.s₀.heap.FunFrames X.base X.outer
  frf : ∀ b ∈ X.fs, X.H₀ b = none

structure Inv (X : Cx) (pins : List (Addr × Obj)) (σ : List (Option V)) (H : Hp) (s : Shared) : Prop where
  ok : X.Ok
  os : s.os = X.s₀.os
  bare : AllBare s.gens
  base : Un X.fs X.ex X.H₀ H X.s₀.heap s.heap
  loc : ∃ m, s.heap.Ns X.env.locals m ∧ ∀ (i : Nat) (x : Str) (v : V), X.N[i]? = some x → σ[i]? = some (some v) → Vis X.env.scope x → ∃ u, RelV v u ∧ Look X.env s.heap m x u
  cell : ∀ x c, X.env.cells.lookup x = some c → ∃ v, s.heap.IsCell c v
  free : H X.env.locals = none
  freeC : ∀ x c, X.env.cells.lookup x = some c → H c = none
  pin : ∀ p ∈ X.pn ++ pins, s.heap.get? p.1 = some p.2 ∧ H p.1 = none ∧ p.1 ≠ X.env.locals ∧ p.1 ∉ X.fs ∧ ∀ v, p.2.data ≠ .cell v
  hok : HOk X.prog X.w H s.heap
  len : σ.length = X.N.length

section
variable {X : Cx} {pins : List (Addr × Obj)} {σ : List (Option V)} {H H' : Hp} {s : Shared} {h' : Heap}

theorem Cx.Ok.nofr (ok : X.Ok) {b : Addr} {o : Obj} (e : X.base.get? b = some o) : b ∉ X.fs := fun hb => by
  have := (ok.funs.mem hb).1
  rw [e] at this; cases this
theorem Inv.bs (I : Inv X pins σ H s) : ∀ b o, X.base.get? b = some o → s.heap.get? b = some o ∧ H b = none := fun b o e =>
  ⟨I.base.keep b o (I.ok.bs b o e).1 (I.ok.bs b o e).2 (I.ok.nofr e) (I.ok.noex b o e), I.base.free b o (I.ok.bs b o e).1 (I.ok.bs b o e).2 (I.ok.noex b o e)⟩
theorem Inv.bk (I : Inv X pins σ H s) : ∀ b o, X.base.get? b = some o → s.heap.get? b = some o := fun b o e => (I.bs b o e).1
theorem Inv.mod (I : Inv X pins σ H s) : Mod X.K X.mg X.base := I.ok.mod
theorem Inv.kIn (I : Inv X pins σ H s) : X.K.In s.heap := I.ok.mod.kin.keeps I.bk
theorem Inv.nolimit (I : Inv X pins σ H s) : s.heap.NoLimit := I.ok.mod.nolimit.keeps I.bk
/-- the frame over the base: for OpenK's rules (K.In X.base is I.mod.kin) -/
theorem Inv.fr (I : Inv X pins σ H s) : ∃ m, Fr X.base X.env.locals s.heap m :=
  let ⟨m, hn, _⟩ := I.loc
  ⟨m, hn, I.bk, Nat.le_trans I.ok.bsz I.ok.above⟩
theorem Inv.lt (I : Inv X pins σ H s) : X.env.locals < s.heap.objs.size := let ⟨_, hn, _⟩ := I.loc; hn.lt
theorem Inv.sz (I : Inv X pins σ H s) : X.s₀.heap.objs.size ≤ s.heap.objs.size := Nat.le_trans I.ok.above (Nat.le_of_lt I.lt)
theorem Inv.nofs (I : Inv X pins σ H s) {a : Addr} (h : s.heap.objs.size ≤ a) : a ∉ X.fs := fun hb => by
  obtain ⟨_, o, ho, _⟩ := I.ok.funs.mem hb
  exact absurd (Nat.lt_of_lt_of_le (Heap.lt_size ho) (Nat.le_trans I.sz h)) (Nat.lt_irrefl _)
theorem Inv.cne (I : Inv X pins σ H s) : ∀ x c, X.env.cells.lookup x = some c → c ≠ X.env.locals := fun x c e z => by
  obtain ⟨v, o, ho, hd⟩ := I.cell x c e
  obtain ⟨m, ⟨o', es, ep, ho', hd', _⟩, _⟩ := I.loc
  rw [z, ho'] at ho; cases ho; rw [hd'] at hd; cases hd
theorem Inv.funs (I : Inv X pins σ H s) : s.heap.FunFrames X.base X.outer := by
  have all : ∀ (l : List Env), (∀ b ∈ frs l, b ∈ X.fs) → X.s₀.heap.FunFrames X.base l → s.heap.FunFrames X.base l := by
    intro l
    induction l with
    | nil => intro _ _; trivial
    | cons env r ih =>
      intro hs hl
      obtain ⟨hk, ⟨L, o, hf, hn, ho, hd⟩, hr⟩ := hl
      have hL : L ∈ X.fs := hs L (by unfold frs; rw [List.filterMap_cons, hf]; exact List.mem_cons_self)
      obtain ⟨sl, e⟩ := I.base.slot L o ho (I.ok.frf L hL) hL fun z => I.ok.exfs L z hL
      exact ⟨hk, ⟨L, _, hf, hn, e, hd⟩, ih (fun b hb => hs b (by unfold frs; rw [List.filterMap_cons, hf]; exact List.mem_cons_of_mem _ hb)) hr⟩
  exact all X.outer (fun _ hb => hb) I.ok.funs

/-- the frames that run, for a call -/
theorem Inv.stack (I : Inv X pins σ H s) : s.heap.FunFrames X.base X.stack := by
  rcases I.ok.stk with e | ⟨e, hf⟩
  · rw [e]; exact I.funs
  · rw [e]
    obtain ⟨m, hn, _⟩ := I.loc
    refine .cons (by rw [I.ok.kind]; decide) hf hn ?_ I.funs
    exact Heap.get?_none_of_le (Nat.le_trans I.ok.bsz I.ok.above)
theorem Inv.stkSub (I : Inv X pins σ H s) : ∀ b ∈ frs X.stack, b ∈ X.env.locals :: X.fs := fun b hb => by
  rcases I.ok.stk with e | ⟨e, hf⟩
  · rw [e] at hb; exact List.mem_cons_of_mem _ hb
  · rw [e] at hb
    unfold frs at hb
    rw [List.filterMap_cons, hf] at hb
    exact hb
theorem Inv.stkFree (I : Inv X pins σ H s) : ∀ b ∈ frs X.stack, H b = none := fun b hb => by
  rcases List.mem_cons.mp (I.stkSub b hb) with e | hb
  · rw [e]; exact I.free
  · obtain ⟨_, o, ho, _⟩ := I.ok.funs.mem hb
    exact I.base.free b o ho (I.ok.frf b hb) fun z => I.ok.exfs b z hb

/-- THE STEP: the untracked objects but the frame and the records at ch are kept (the callers' frames up to slots), the frame's map is kept, the new abstract heap is held -/
theorem Inv.step {g' : Array GenState} {t' : Nat} {d' : Drawn} {ch : List Addr} (I : Inv X pins σ H s)
    (hch : ∀ b ∈ ch, (b ∈ X.ex ∨ X.s₀.heap.objs.size ≤ b) ∧ b ≠ X.env.locals ∧ (∀ x c, X.env.cells.lookup x = some c → c ≠ b) ∧ ∀ p ∈ X.pn ++ pins, p.1 ≠ b)
    (keep : ∀ b o, b ≠ X.env.locals → b ∉ X.fs → b ∉ ch → s.heap.get? b = some o → H b = none → h'.get? b = some o)
    (slot : ∀ b o, b ≠ X.env.locals → b ∈ X.fs → b ∉ ch → s.heap.get? b = some o → H b = none → ∃ sl, h'.get? b = some { o with slots := sl }) (free : ∀ b o, b ∉ ch → s.heap.get? b = some o → H b = none → H' b = none)
    (there : ∀ b o, b ∉ ch → s.heap.get? b = some o → ∃ o', h'.get? b = some o')
    (tups : ∀ b xs, H b = some (.tup xs) → H' b = some (.tup xs)) (frzs : ∀ b o u, H b = some (.frz o u) → H' b = some (.frz o u)) (tbls : ∀ b ps, H b = some (.tbl ps) → ∃ more, H' b = some (.tbl (ps ++ more)))
    (ns : ∀ m, s.heap.Ns X.env.locals m → h'.Ns X.env.locals m) (hok : HOk X.prog X.w H' h') (hg : AllBare g') :
    Inv X pins σ H' { s with heap := h', gens := g', drawn := d', toks := t' } := by
  have neL : ∀ b o, X.s₀.heap.get? b = some o → b ≠ X.env.locals := fun b o e => Nat.ne_of_lt (Nat.lt_of_lt_of_le (Heap.lt_size e) I.ok.above)
  have neC : ∀ b o, X.s₀.heap.get? b = some o → b ∉ X.ex → b ∉ ch := fun b o e hx hb => by
    rcases (hch b hb).1 with z | z
    · exact hx z
    · exact absurd (Nat.lt_of_lt_of_le (Heap.lt_size e) z) (Nat.lt_irrefl _)
  have cellK : ∀ x c, X.env.cells.lookup x = some c → ∀ v, s.heap.IsCell c v → h'.IsCell c v := fun x c e v ⟨o, ho, hd⟩ => by
    have nch : c ∉ ch := fun z => (hch c z).2.2.1 x c e rfl
    by_cases hc : c ∈ X.fs
    · obtain ⟨sl, q⟩ := slot c o (I.cne x c e) hc nch ho (I.freeC x c e)
      exact ⟨_, q, hd⟩
    · exact ⟨o, keep c o (I.cne x c e) hc nch ho (I.freeC x c e), hd⟩
  refine ⟨I.ok, I.os, hg, ⟨fun b o e n hb hx => ?_, fun b o e n hb hx => ?_, fun b o e n hx => ?_, fun b o e hx => ?_, fun b xs e => tups b xs (I.base.tups b xs e), fun b o xs e => frzs b o xs (I.base.frzs b o xs e), fun b ps e => ?_⟩, ?_, fun x c e => ?_, ?_, fun x c e => ?_, fun p hp => ?_, hok, I.len⟩
  · exact keep b o (neL b o e) hb (neC b o e hx) (I.base.keep b o e n hb hx) (I.base.free b o e n hx)
  · obtain ⟨sl, e1⟩ := I.base.slot b o e n hb hx
    obtain ⟨sl', e2⟩ := slot b _ (neL b o e) hb (neC b o e hx) e1 (I.base.free b o e n hx)
    exact ⟨sl', e2⟩
  · obtain ⟨o', e1⟩ := I.base.there b o e hx
    exact free b o' (neC b o e hx) e1 (I.base.free b o e n hx)
  · obtain ⟨o', e1⟩ := I.base.there b o e hx
    exact there b o' (neC b o e hx) e1
  · obtain ⟨m1, e1⟩ := I.base.tbls b ps e
    obtain ⟨m2, e2⟩ := tbls b _ e1
    exact ⟨m1 ++ m2, by rw [e2, Array.append_assoc]⟩
  · obtain ⟨m, hn, hl⟩ := I.loc
    refine ⟨m, ns m hn, fun i x v e1 e2 e3 => ?_⟩
    obtain ⟨u, r, l⟩ := hl i x v e1 e2 e3
    refine ⟨u, r, ?_⟩
    rcases l with l | ⟨k, c, e, z⟩
    · exact .inl l
    · exact .inr ⟨k, c, e, cellK x c e _ z⟩
  · obtain ⟨v, z⟩ := I.cell x c e
    exact ⟨v, cellK x c e v z⟩
  · obtain ⟨m, ⟨o, _, _, ho, _⟩, _⟩ := I.loc
    exact free _ o (fun z => (hch _ z).2.1 rfl) ho I.free
  · obtain ⟨v, o, ho, hd⟩ := I.cell x c e
    exact free c o (fun z => (hch c z).2.2.1 x c e rfl) ho (I.freeC x c e)
  · obtain ⟨e, n, ne, nf, d⟩ := I.pin p hp
    have nch : p.1 ∉ ch := fun z => (hch p.1 z).2.2.2 p hp rfl
    exact ⟨keep p.1 p.2 ne nf nch e n, free p.1 p.2 nch e n, ne, nf, d⟩
/-- .. where the frame's own object is kept too -/
theorem Inv.un {t' : Nat} (I : Inv X pins σ H s) (u : Un X.fs [] H H' s.heap h') (hok : HOk X.prog X.w H' h') : Inv X pins σ H' { s with heap := h', toks := t' } := by
  obtain ⟨m, ⟨o, es, ep, ho, r⟩, _⟩ := id I.loc
  obtain ⟨sl, hL⟩ := u.any ho I.free (by simp)
  exact I.step (g' := s.gens) (d' := s.drawn) (ch := []) (fun _ z => nomatch z) (fun b o _ hb _ e n => u.keep b o e n hb (by simp)) (fun b o _ hb _ e n => u.slot b o e n hb (by simp)) (fun b o _ e n => u.free b o e n (by simp)) (fun b o _ e => u.there b o e (by simp)) u.tups u.frzs u.tbls (fun m' hm => by
    obtain ⟨o', es', ep', ho', r'⟩ := hm
    rw [ho] at ho'; cases ho'
    exact ⟨_, es', ep', hL, r'⟩) hok I.bare
/-- behind a call (or a comprehension's block): the slots of this frame may have changed too, the records at ch may have turned -/
theorem Inv.call {g' : Array GenState} {t' : Nat} {d' : Drawn} {ch : List Addr} (I : Inv X pins σ H s) (u : Un (frs X.stack) ch H H' s.heap h') (hok : HOk X.prog X.w H' h') (hg : AllBare g')
    (hch : ∀ b ∈ ch, (b ∈ X.ex ∨ X.s₀.heap.objs.size ≤ b) ∧ b ≠ X.env.locals ∧ (∀ x c, X.env.cells.lookup x = some c → c ≠ b) ∧ ∀ p ∈ X.pn ++ pins, p.1 ≠ b) :
    Inv X pins σ H' { s with heap := h', gens := g', drawn := d', toks := t' } := by
  obtain ⟨m, ⟨o, es, ep, ho, r⟩, _⟩ := id I.loc
  obtain ⟨sl, hL⟩ := u.any ho I.free fun z => (hch _ z).2.1 rfl
  exact I.step (ch := ch) hch (fun b o hL hb hc e n => u.keep b o e n (fun z => (List.mem_cons.mp (I.stkSub b z)).elim hL hb) hc) (fun b o _ _ hc e n => u.any e n hc) (fun b o hc e n => u.free b o e n hc) (fun b o hc e => u.there b o e hc) u.tups u.frzs u.tbls (fun m' hm => by
    obtain ⟨o', es', ep', ho', r'⟩ := hm
    rw [ho] at ho'; cases ho'
    exact ⟨_, es', ep', hL, r'⟩) hok hg
/-- an untracked record of ours (an iterator) has turned -/
theorem Inv.turned {t' : Nat} {it : Addr} (I : Inv X pins σ H s) (k : ∀ b o, b ≠ it → s.heap.get? b = some o → h'.get? b = some o) (hn : H it = none) (hL : it ≠ X.env.locals)
    (h1 : it ∈ X.ex ∨ X.s₀.heap.objs.size ≤ it) (h2 : ∀ x c, X.env.cells.lookup x = some c → c ≠ it) (h3 : ∀ p ∈ X.pn ++ pins, p.1 ≠ it) : Inv X pins σ H { s with heap := h', toks := t' } := by
  have nit : ∀ b u, H b = some u → b ≠ it := fun b u e z => by rw [z, hn] at e; cases e
  refine I.step (g' := s.gens) (d' := s.drawn) (ch := [it]) (fun b hb => ?_) (fun b o _ _ hc e _ => k b o (fun z => hc (by simp [z])) e) (fun b o _ _ hc e _ => ⟨o.slots, k b o (fun z => hc (by simp [z])) e⟩) (fun _ _ _ _ n => n)
    (fun b o hc e => ⟨o, k b o (fun z => hc (by simp [z])) e⟩) (fun _ _ e => e) (fun _ _ _ e => e) (fun b ps e => ⟨#[], by rw [e]; simp⟩) (fun m hm => ?_) (fun b u e => ?_) I.bare
  · have e : b = it := by simpa using hb
    subst e
    exact ⟨h1, hL, h2, h3⟩
  · obtain ⟨o, es, ep, ho, r⟩ := hm
    exact ⟨o, es, ep, k _ o (Ne.symm hL) ho, r⟩
  · refine (I.hok b u e).stay (fun c v hc q => k c v ?_ q) (fun _ q => q) fun _ _ q => q
    rcases hc with z | z
    · rw [z]; exact nit b u e
    · exact nit c _ z
theorem Inv.tok (I : Inv X pins σ H s) (t : Nat) : Inv X pins σ H { s with toks := t } := I.un (h' := s.heap) (t' := t) Un.refl I.hok
/-- all objects kept -/
theorem Inv.kept {t' : Nat} (I : Inv X pins σ H s) (k : ∀ b u, s.heap.get? b = some u → h'.get? b = some u) : Inv X pins σ H { s with heap := h', toks := t' } := I.un (Un.kept k) (I.hok.kept k)
/-- a new object laid and tracked -/
theorem Inv.laid {a : Addr} {o : HO} {t' : Nat} (I : Inv X pins σ H s) (k : ∀ b u, s.heap.get? b = some u → h'.get? b = some u) (hp : s.heap.objs.size ≤ a) (new : ObjOk X.prog X.w (upd H a o) h' a o) :
    Inv X pins σ (upd H a o) { s with heap := h', toks := t' } := I.un (Un.laid k hp (I.hok.fresh hp)) (I.hok.laid k hp new)
/-- an object written -/
theorem Inv.write {x e : Addr} {o : HO} {t' : Nat} (I : Inv X pins σ H s) (mu : Mut (H x)) (he : e = x ∨ H e = some (.own x)) (k : ∀ b u, b ≠ e → s.heap.get? b = some u → h'.get? b = some u) (heo : ∃ u, h'.get? e = some u)
    (new : ObjOk X.prog X.w (upd H x o) h' x o) : Inv X pins σ (upd H x o) { s with heap := h', toks := t' } := I.un (Un.write mu he k heo) (I.hok.write mu he k heo new)
/-- forgetting slots, pins -/
theorem Inv.weak {σ' : List (Option V)} (I : Inv X pins σ H s) (hl : σ'.length = σ.length) (w : ∀ (i : Nat) v, σ'[i]? = some (some v) → σ[i]? = some (some v)) : Inv X pins σ' H s :=
  ⟨I.ok, I.os, I.bare, I.base, let ⟨m, hn, hl'⟩ := I.loc; ⟨m, hn, fun i x v e1 e2 e3 => hl' i x v e1 (w i v e2) e3⟩, I.cell, I.free, I.freeC, I.pin, I.hok, hl.trans I.len⟩
theorem Inv.pins_of {pins' : List (Addr × Obj)} (I : Inv X pins σ H s) (h : ∀ p ∈ pins', s.heap.get? p.1 = some p.2 ∧ H p.1 = none ∧ p.1 ≠ X.env.locals ∧ p.1 ∉ X.fs ∧ ∀ v, p.2.data ≠ .cell v) : Inv X pins' σ H s :=
  ⟨I.ok, I.os, I.bare, I.base, I.loc, I.cell, I.free, I.freeC, fun p hp => (List.mem_append.mp hp).elim (fun z => I.pin p (List.mem_append_left _ z)) (h p), I.hok, I.len⟩

theorem nodup_ix {N : List Str} (hN : N.Nodup) {i j : Nat} {x : Str} (a : N[i]? = some x) (b : N[j]? = some x) : i = j := by
  obtain ⟨h1, e1⟩ := List.getElem?_eq_some_iff.mp a
  obtain ⟨h2, e2⟩ := List.getElem?_eq_some_iff.mp b
  exact (List.getElem_inj hN).mp (e1.trans e2.symm)

/-- a name is stored; what changed -/
theorem store_ok2 {M : Model} {A : Around} {E : Value → Shared → Prop} {i : Nat} {x : Str} {v : V} {u : Value} {Q : Unit → Shared → Prop} (I : Inv X pins σ H s) (hN : X.N.Nodup) (hi : X.N[i]? = some x) (hx : Loc X.env.scope x) (r : RelV v u)
    (h : ∀ s', Inv X pins (σ.set i (some v)) H s' → (∃ a, Heap.SameBut a s.heap s'.heap ∧ (a = X.env.locals ∨ X.env.cells.lookup x = some a)) → Q () s') (hf : X.fn x = true ∨ X.env.scope.names.lookup x = some .local := by first | exact .inl rfl | exact .inr rfl | assumption) : wpAny M A (storeName X.env x u) Q E s := by
  obtain ⟨m, hn, hl⟩ := id I.loc
  have hcls : (X.env.scope.kind == .class || (X.env.scope.kind == .module && X.env.locals != X.env.globals)) = false := by rw [I.ok.kind]; rfl
  have hiσ : i < σ.length := by rw [I.len]; exact (List.getElem?_eq_some_iff.mp hi).1
  have cne := I.cne
  have tracked : ∀ {a : Addr} {h' : Heap}, (∃ o, s.heap.get? a = some o ∧ H a = none) → Heap.SameBut a s.heap h' → HOk X.prog X.w H h' := fun {a h'} ha hs b ob e => by
    obtain ⟨_, _, hfree⟩ := ha
    refine (I.hok b ob e).stay (fun c w' hc q => (hs.2 c ?_).trans q) (fun _ q => q) fun _ _ q => q
    rintro rfl
    rcases hc with rfl | hc
    · rw [hfree] at e; cases e
    · rw [hfree] at hc; cases hc
  rcases hx with hk | hk
  · refine wpAny_storeName_local hk hn (fun h' hn' hs => ?_) hcls
    obtain ⟨oL, _, _, hoL, _⟩ := id hn
    refine h _ ⟨I.ok, I.os, I.bare, ⟨fun b o e n hb hx => ?_, fun b o e n hb hx => ?_, I.base.free, fun b o e hx => ?_, I.base.tups, I.base.frzs, I.base.tbls⟩, ⟨_, hn', fun j y v' e1 e2 e3 => ?_⟩, fun y c e => ?_, I.free, I.freeC, fun p hp => ?_, tracked ⟨oL, hoL, I.free⟩ hs, by simpa using I.len⟩ ⟨_, hs, .inl rfl⟩
    · exact (hs.2 b (Nat.ne_of_lt (Nat.lt_of_lt_of_le (Heap.lt_size e) I.ok.above))).trans (I.base.keep b o e n hb hx)
    · obtain ⟨sl, e1⟩ := I.base.slot b o e n hb hx
      exact ⟨sl, (hs.2 b (Nat.ne_of_lt (Nat.lt_of_lt_of_le (Heap.lt_size e) I.ok.above))).trans e1⟩
    · obtain ⟨o', e1⟩ := I.base.there b o e hx
      exact ⟨o', (hs.2 b (Nat.ne_of_lt (Nat.lt_of_lt_of_le (Heap.lt_size e) I.ok.above))).trans e1⟩
    · by_cases hj : j = i
      · subst hj
        rw [hi] at e1; cases e1
        rw [List.getElem?_set_self hiσ] at e2
        cases e2
        exact ⟨u, r, .inl ⟨hk, by simp⟩⟩
      · rw [List.getElem?_set_ne (Ne.symm hj)] at e2
        obtain ⟨u', r', q⟩ := hl j y v' e1 e2 e3
        refine ⟨u', r', ?_⟩
        rcases q with ⟨k, e⟩ | ⟨k, c, e, z⟩
        · refine .inl ⟨k, ?_⟩
          have : y ≠ x := fun e => hj (nodup_ix hN e1 (e ▸ hi))
          simp [this, e]
        · exact .inr ⟨k, c, e, z.sameBut hs (cne y c e)⟩
    · obtain ⟨w', z⟩ := I.cell y c e
      exact ⟨w', z.sameBut hs (cne y c e)⟩
    · obtain ⟨e, n, ne, nf, d⟩ := I.pin p hp
      exact ⟨(hs.2 p.1 ne).trans e, n, ne, nf, d⟩
  · have hfn : X.fn x = true := by
      rcases hf with z | z
      · exact z
      · rw [z] at hk; cases hk
    obtain ⟨c, hc⟩ := I.ok.has x (.inl hk)
    obtain ⟨w', z⟩ := I.cell x c hc
    refine wpAny_storeName_cell I.ok.kind hk hc z (fun h' hc' hs => ?_)
    obtain ⟨oc, hoc, hocd⟩ := id z
    refine h { s with heap := h' } ⟨I.ok, I.os, I.bare, ⟨fun b o e n hb hx => ?_, fun b o e n hb hx => ?_, I.base.free, fun b o e hx => ?_, I.base.tups, I.base.frzs, I.base.tbls⟩, ⟨m, hn.sameBut hs (Ne.symm (cne x c hc)), fun j y v' e1 e2 e3 => ?_⟩, fun y c' e => ?_, I.free, I.freeC, fun p hp => ?_, tracked ⟨oc, hoc, I.freeC x c hc⟩ hs, by simpa using I.len⟩ ⟨c, hs, .inr hc⟩
    · exact (hs.2 b (Nat.ne_of_lt (Nat.lt_of_lt_of_le (Heap.lt_size e) (I.ok.cab x c hfn hc)))).trans (I.base.keep b o e n hb hx)
    · obtain ⟨sl, e1⟩ := I.base.slot b o e n hb hx
      exact ⟨sl, (hs.2 b (Nat.ne_of_lt (Nat.lt_of_lt_of_le (Heap.lt_size e) (I.ok.cab x c hfn hc)))).trans e1⟩
    · obtain ⟨o', e1⟩ := I.base.there b o e hx
      exact ⟨o', (hs.2 b (Nat.ne_of_lt (Nat.lt_of_lt_of_le (Heap.lt_size e) (I.ok.cab x c hfn hc)))).trans e1⟩
    · by_cases hj : j = i
      · subst hj
        rw [hi] at e1; cases e1
        rw [List.getElem?_set_self hiσ] at e2
        cases e2
        exact ⟨u, r, .inr ⟨.inl hk, c, hc, hc'⟩⟩
      · rw [List.getElem?_set_ne (Ne.symm hj)] at e2
        obtain ⟨u', r', q⟩ := hl j y v' e1 e2 e3
        refine ⟨u', r', ?_⟩
        rcases q with q | ⟨k, c', e, z'⟩
        · exact .inl q
        · refine .inr ⟨k, c', e, z'.sameBut hs ?_⟩
          rintro rfl
          exact hj (nodup_ix hN e1 (I.ok.inj _ _ _ e hc ▸ hi))
    · by_cases hcc : c' = c
      · subst hcc; exact ⟨_, hc'⟩
      · obtain ⟨w2, z2⟩ := I.cell y c' e
        exact ⟨w2, z2.sameBut hs hcc⟩
    · obtain ⟨e, n, ne, nf, d⟩ := I.pin p hp
      refine ⟨(hs.2 p.1 ?_).trans e, n, ne, nf, d⟩
      intro q
      rw [q, hoc] at e
      have q' : oc = p.2 := Option.some.inj e
      exact d w' (by rw [← q']; exact hocd)
theorem store_ok {M : Model} {A : Around} {E : Value → Shared → Prop} {i : Nat} {x : Str} {v : V} {u : Value} {Q : Unit → Shared → Prop} (I : Inv X pins σ H s) (hN : X.N.Nodup) (hi : X.N[i]? = some x) (hx : Loc X.env.scope x) (r : RelV v u)
    (h : ∀ s', Inv X pins (σ.set i (some v)) H s' → Q () s') (hf : X.fn x = true ∨ X.env.scope.names.lookup x = some .local := by first | exact .inl rfl | exact .inr rfl | assumption) : wpAny M A (storeName X.env x u) Q E s :=
  store_ok2 I hN hi hx r (fun s' I' _ => h s' I') hf
/-- behind a call or a block, the state as it is -/
theorem Inv.call' {s' : Shared} {ch : List Addr} (I : Inv X pins σ H s) (ho : s'.os = s.os) (u : Un (frs X.stack) ch H H' s.heap s'.heap) (hok : HOk X.prog X.w H' s'.heap) (hg : AllBare s'.gens)
    (hch : ∀ b ∈ ch, (b ∈ X.ex ∨ X.s₀.heap.objs.size ≤ b) ∧ b ≠ X.env.locals ∧ (∀ x c, X.env.cells.lookup x = some c → c ≠ b) ∧ ∀ p ∈ X.pn ++ pins, p.1 ≠ b) : Inv X pins σ H' s' := by
  obtain ⟨h', g', d', t', o'⟩ := s'
  have e : o' = s.os := ho
  subst e
  exact I.call (g' := g') (t' := t') (d' := d') u hok hg hch
end

/-! ### the judgements -/
/-- an exception: its class, its own dict's address (where it has one), the abstract heap behind it -/
abbrev XK := Value → Option Addr → Hp → Prop
abbrev St := List (Option V)
abbrev VK := V → Hp → Prop
/-- an expression's reading; a test's; an argument list's -/
abbrev TE := St → Hp → VK → Prop
abbrev TT := St → Hp → (Bool → Hp → Prop) → Prop
abbrev TA := St → Hp → (List V → Hp → Prop) → Prop
/-- what is wanted behind a statement -/
structure Ends where
  nx : St → Hp → Prop
  rt : VK
  bk : St → Hp → Prop := fun _ _ => False
  ct : St → Hp → Prop := fun _ _ => False
abbrev TS := Ends → St → Hp → Prop

def EP (X : Cx) (pins : List (Addr × Obj)) (σ : St) (Q : VK) (u : Value) (s' : Shared) : Prop := ∃ v H', Inv X pins σ H' s' ∧ RelV v u ∧ Q v H'
def TP (X : Cx) (pins : List (Addr × Obj)) (σ : St) (Q : Bool → Hp → Prop) (b : Bool) (s' : Shared) : Prop := ∃ H', Inv X pins σ H' s' ∧ Q b H'
def AP (X : Cx) (pins : List (Addr × Obj)) (σ : St) (Q : List V → Hp → Prop) (us : List Value) (s' : Shared) : Prop := ∃ vs H', Inv X pins σ H' s' ∧ Vals vs us ∧ Q vs H'
def SP (X : Cx) (pins : List (Addr × Obj)) (D : Ends) (f : Flow) (s' : Shared) : Prop :=
  match f with
  | .next => ∃ σ' H', Inv X pins σ' H' s' ∧ D.nx σ' H'
  | .brk => ∃ σ' H', Inv X pins σ' H' s' ∧ D.bk σ' H'
  | .cont => ∃ σ' H', Inv X pins σ' H' s' ∧ D.ct σ' H'
  | .ret u => ∃ v σ' H', Inv X pins σ' H' s' ∧ RelV v u ∧ D.rt v H'

def PE (X : Cx) (e : Expr) (t : TE) : Prop :=
  ∀ (pins : List (Addr × Obj)) (s : Shared) (σ : St) (H : Hp) (Q : VK), Inv X pins σ H s → t σ H Q → wpAny (model X.prog X.w) X.A (eval e X.env) (EP X pins σ Q) X.xe s
def PT (X : Cx) (e : Expr) (t : TT) : Prop :=
  ∀ (pins : List (Addr × Obj)) (s : Shared) (σ : St) (H : Hp) (Q : Bool → Hp → Prop), Inv X pins σ H s → t σ H Q → wpAny (model X.prog X.w) X.A (isTrue e X.env (eval e X.env)) (TP X pins σ Q) X.xe s
/-- a test whatever its 'whole' is (and, or) -/
def PW (X : Cx) (e : Expr) (t : TT) : Prop :=
  ∀ (whole : Sem Value) (pins : List (Addr × Obj)) (s : Shared) (σ : St) (H : Hp) (Q : Bool → Hp → Prop), Inv X pins σ H s → t σ H Q → wpAny (model X.prog X.w) X.A (isTrue e X.env whole) (TP X pins σ Q) X.xe s
theorem PW.pt {X : Cx} {e : Expr} {t : TT} (h : PW X e t) : PT X e t := h _
/-- an argument list (no star), from the left -/
def PA (X : Cx) (es : List Expr) (t : TA) : Prop :=
  ∀ (pos : Pos) (pins : List (Addr × Obj)) (s : Shared) (σ : St) (H : Hp) (Q : List V → Hp → Prop), Inv X pins σ H s → t σ H Q → wpAny (model X.prog X.w) X.A (spliced (backTo pos (starEach es X.env))) (AP X pins σ Q) X.xe s
def PS (X : Cx) (st : Stmt) (t : TS) : Prop :=
  ∀ (pins : List (Addr × Obj)) (s : Shared) (σ : St) (H : Hp) (D : Ends), Inv X pins σ H s → t D σ H → wpAny (model X.prog X.w) X.A (exec st X.env) (SP X pins D) X.xe s
def PSs (X : Cx) (st : List Stmt) (t : TS) : Prop :=
  ∀ (pins : List (Addr × Obj)) (s : Shared) (σ : St) (H : Hp) (D : Ends), Inv X pins σ H s → t D σ H → wpAny (model X.prog X.w) X.A (execs st X.env) (SP X pins D) X.xe s
/-- weaken the end -/
theorem thn {α : Type} {t : Sem α} {Q Q' : α → Shared → Prop} {M : Model} {A : Around} {E : Value → Shared → Prop} {s : Shared} (h : wpAny M A t Q E s) (hQ : ∀ a s, Q a s → Q' a s) : wpAny M A t Q' E s := wpAny_mono h hQ fun _ _ x => x
end L2

namespace L2
open PySem PySem.Spec PyProof.Rows
section
variable {X : Cx}

/-! ### names and constants -/
def tVar (i : Nat) : TE := fun σ H Q => ∃ v, σ[i]? = some (some v) ∧ Q v H
def tC (v : V) : TE := fun _ H Q => Q v H
theorem pe_var {i : Nat} {x : Str} {pos : Pos} (hN : X.N[i]? = some x) (hv : Vis X.env.scope x) (hd : (x == ("__debug__" : Str)) = false := by decide) (hcd : (x == ("__classdict__" : Str)) = false := by decide) : PE X (.Name x pos) (tVar i) := by
  intro pins s σ H Q I h
  obtain ⟨v, e, h⟩ := h
  obtain ⟨m, hn, hl⟩ := I.loc
  obtain ⟨u, r, l⟩ := hl i x v hN e hv
  have fin : EP X pins σ Q u s := ⟨v, H, I, r, h⟩
  rcases l with ⟨hk, hm⟩ | ⟨hk, c, hc, hcell⟩
  · exact wpAny_Name (wpAny_loadName_local I.ok.kind hk hn hm fin) hd
  · rcases hk with hk | hk
    · exact wpAny_Name (wpAny_loadName_cell I.ok.kind hk hc hcell fin) hd
    · exact wpAny_Name (wpAny_loadName_free I.ok.kind hk hc hcell fin hcd) hd
theorem pe_int {i j pos} : PE X (.Constant (.int i) j pos) (tC (.int i)) := fun _ _ _ H _ I h => wpAny_Constant_int ⟨.int i, H, I.tok _, ⟨_, rfl⟩, h⟩
theorem pe_bl {b j pos} : PE X (.Constant (.bool b) j pos) (tC (.bl b)) := fun _ _ _ H _ I h => Constant_bool ⟨.bl b, H, I, rfl, h⟩
theorem pe_non {j pos} : PE X (.Constant .none j pos) (tC .non) := fun _ _ _ H _ I h => Constant_none ⟨.non, H, I, rfl, h⟩
theorem pe_str {x j pos} : PE X (.Constant (.str x) j pos) (tC (.str x)) := fun _ _ _ H _ I h => Calls.Constant_str ⟨.str x, H, I.tok _, ⟨_, rfl⟩, h⟩

/-- a global name of the def -/
def Gl (X : Cx) (x : Str) : Prop := X.env.kindOf x = some .globalImplicit
theorem ld_glob {E : Value → Shared → Prop} {pins : List (Addr × Obj)} {s : Shared} {σ : St} {H : Hp} {x : Str} {u : Value} {pos : Pos} {Q : Value → Shared → Prop} (I : Inv X pins σ H s) (hg : Gl X x) (hm : X.mg x = some u) (h : Q u s)
    (hd : (x == ("__debug__" : Str)) = false := by decide) : wpAny (model X.prog X.w) X.A (eval (.Name x pos) X.env) Q E s :=
  Calls.Name_function_global I.ok.kind hg (Calls.loadGlobal_global (by rw [I.ok.glob]; exact I.mod.glob.keeps I.bk) hm h) hd
theorem ld_blt {E : Value → Shared → Prop} {pins : List (Addr × Obj)} {s : Shared} {σ : St} {H : Hp} {x : Str} {u : Value} {pos : Pos} {Q : Value → Shared → Prop} (I : Inv X pins σ H s) (hg : Gl X x) (hm : X.mg x = none) (hv : bootBuiltins x = some u) (h : Q u s)
    (hn : x ≠ "__name__" := by decide) (hd : (x == ("__debug__" : Str)) = false := by decide) : wpAny (model X.prog X.w) X.A (eval (.Name x pos) X.env) Q E s := by
  obtain ⟨mb, h1, h2⟩ := I.mod.blt
  exact Calls.Name_function_global I.ok.kind hg (Calls.loadGlobal_builtin (by rw [I.ok.glob]; exact I.mod.glob.keeps I.bk) hm (by rw [I.ok.blt]; exact h1.keeps I.bk) ((h2 x hn).trans hv) h) hd
/-- a module's constant, a class, a function, as a value -/
theorem pe_glob {x : Str} {v : V} {u : Value} {pos : Pos} (hg : Gl X x) (hm : X.mg x = some u) (r : RelV v u) (hd : (x == ("__debug__" : Str)) = false := by decide) : PE X (.Name x pos) (tC v) :=
  fun _ _ _ H _ I h => ld_glob I hg hm ⟨v, H, I, r, h⟩ hd
theorem pe_bltn {x : Str} {v : V} {u : Value} {pos : Pos} (hg : Gl X x) (hm : X.mg x = none) (hv : bootBuiltins x = some u) (r : RelV v u) (hn : x ≠ "__name__" := by decide) (hd : (x == ("__debug__" : Str)) = false := by decide) : PE X (.Name x pos) (tC v) :=
  fun _ _ _ H _ I h => ld_blt I hg hm hv ⟨v, H, I, r, h⟩ hn hd

/-! ### arithmetic -/
variable {a b : Expr} {ta tb : TE} {pos : Pos}
/-! ### comparisons -/
/-- a comparison as a value, as a test -/
def tB (t : TE) : TT := fun σ H Q => t σ H fun x H1 => ∃ c, x = .bl c ∧ Q c H1
/-- an expression whose value is a bool, as a test -/
theorem pt_val {e : Expr} {t : TE} (h : PE X e t) (he : ∀ whole, isTrue e X.env whole = (do let v ← whole; standAt e.pos; holding [v] (truthy v)) := by intro _; rfl) : PT X e (tB t) := by
  intro pins s σ H Q I hw
  refine isTrue_plain (thn (h pins s σ H _ I hw) fun v s1 ⟨x, H1, I1, r1, q1⟩ => ?_) (he _)
  obtain ⟨d, rfl, q⟩ := q1
  cases r1
  exact wpAny_truthy_bool ⟨H1, I1, q⟩

/-! ### and, or, not -/
variable {tA tB' : TT} {rest : List Expr}
def tAnd (t u : TT) : TT := fun σ H Q => t σ H fun c H1 => if c = true then u σ H1 Q else Q false H1
def tOr (t u : TT) : TT := fun σ H Q => t σ H fun c H1 => if c = true then Q true H1 else u σ H1 Q
def tNot (t : TT) : TT := fun σ H Q => t σ H fun c H1 => Q (!c) H1
theorem pw_and1 (ha : PT X a tA) : PW X (.BoolOp .And [a] pos) tA := by
  intro wh pins s σ H Q I h
  refine isTrue_and (thn (ha pins s σ H Q I h) fun c s1 e => ?_)
  cases c with
  | true => exact isTrue_and_nil e
  | false => exact e
theorem pw_or1 (ha : PT X a tA) : PW X (.BoolOp .Or [a] pos) tA := by
  intro wh pins s σ H Q I h
  refine isTrue_or (thn (ha pins s σ H Q I h) fun c s1 e => ?_)
  cases c with
  | false => exact isTrue_or_nil e
  | true => exact e
theorem pw_and (ha : PT X a tA) (hb : PW X (.BoolOp .And (b :: rest) pos) tB') : PW X (.BoolOp .And (a :: b :: rest) pos) (tAnd tA tB') := by
  intro wh pins s σ H Q I h
  refine isTrue_and (thn (ha pins s σ H _ I h) fun c s1 ⟨H1, I1, q1⟩ => ?_)
  cases c with
  | true => exact hb wh pins s1 σ H1 Q I1 q1
  | false => exact ⟨H1, I1, q1⟩
theorem pw_or (ha : PT X a tA) (hb : PW X (.BoolOp .Or (b :: rest) pos) tB') : PW X (.BoolOp .Or (a :: b :: rest) pos) (tOr tA tB') := by
  intro wh pins s σ H Q I h
  refine isTrue_or (thn (ha pins s σ H _ I h) fun c s1 ⟨H1, I1, q1⟩ => ?_)
  cases c with
  | true => exact ⟨H1, I1, q1⟩
  | false => exact hb wh pins s1 σ H1 Q I1 q1
theorem pt_not (ha : PT X a tA) : PT X (.UnaryOp .Not a pos) (tNot tA) := by
  intro pins s σ H Q I h
  exact isTrue_not (ha pins s σ H (fun c H1 => Q (!c) H1) I h)
/-- .. as values (bools) -/
def tAndV (ta tb : TE) : TE := fun σ H Q => ta σ H fun x H1 => ∃ c, x = .bl c ∧ if c = true then tb σ H1 Q else Q (.bl false) H1
def tNotV (ta : TE) : TE := fun σ H Q => ta σ H fun x H1 => ∃ c, x = .bl c ∧ Q (.bl (!c)) H1
theorem pe_one {op} {t : TE} (h : PE X a t) : PE X (.BoolOp op [a] pos) t := fun pins s σ H Q I hw => BoolOp_one (h pins s σ H Q I hw)
theorem pe_and (ha : PE X a ta) (hb : PE X (.BoolOp .And (b :: rest) pos) tb) : PE X (.BoolOp .And (a :: b :: rest) pos) (tAndV ta tb) := by
  intro pins s σ H Q I h
  refine BoolOp_and (thn (ha pins s σ H _ I h) fun v s1 ⟨x, H1, I1, r1, q1⟩ => ?_)
  obtain ⟨c, rfl, q1⟩ := q1
  cases r1
  refine wpAny_truthy_bool ?_
  cases c with
  | true => exact hb pins s1 σ H1 Q I1 q1
  | false => exact ⟨.bl false, H1, I1, rfl, q1⟩
theorem pe_not (ha : PE X a ta) : PE X (.UnaryOp .Not a pos) (tNotV ta) := by
  intro pins s σ H Q I h
  refine UnaryOp_ (thn (ha pins s σ H _ I h) fun v s1 ⟨x, H1, I1, r1, q1⟩ => ?_)
  obtain ⟨c, rfl, q1⟩ := q1
  cases r1
  exact not_of (wpAny_truthy_bool ⟨.bl (!c), H1, I1, rfl, q1⟩)
end
end L2

namespace L2
open PySem PySem.Spec PyProof.Rows

/-! ### a list, a tuple that is read: tracked, frozen, or an object of the module -/
def SqL (K : PySem.W.Frag) (H : Hp) (a : Addr) (xs : List V) : Prop :=
  Rd H a (.lst xs) ∨
    ∃ (o : Obj) (its : Array Value) (n : Nat), K.lookup a = some o ∧ o.cls = .type "list" ∧ o.dict = none ∧ o.data = .seq its n ∧ its.size ≤ sizeLine ∧ Vals xs its.toList
def SqT (K : PySem.W.Frag) (H : Hp) (a : Addr) (xs : List V) : Prop :=
  Rd H a (.tup xs) ∨
    ∃ (o : Obj) (its : Array Value) (n : Nat), K.lookup a = some o ∧ o.cls = .type "tuple" ∧ o.data = .seq its n ∧ its.size ≤ sizeLine ∧ Vals xs its.toList
def absV : Value → Option V
  | .none => some .non
  | .bool b => some (.bl b)
  | .int i _ => some (.int i)
  | .str x _ => some (.str x)
  | .bytes b _ => some (.byt b)
  | .float b _ => some (.flt b)
  | .ref a => some (.ref a)
  | .type n => some (.ty n)
  | _ => none
theorem RelV.abs {x : V} {u : Value} (r : RelV x u) : absV u = some x := by
  cases x with
  | non => cases r; rfl
  | bl _ => cases r; rfl
  | int _ => obtain ⟨t, rfl⟩ := r; rfl
  | str _ => obtain ⟨t, rfl⟩ := r; rfl
  | byt _ => obtain ⟨t, rfl⟩ := r; rfl
  | flt _ => obtain ⟨t, rfl⟩ := r; rfl
  | ref _ => cases r; rfl
  | ty _ => cases r; rfl
theorem RelV.inj {x y : V} {u : Value} (r : RelV x u) (q : RelV y u) : x = y := Option.some.inj (r.abs.symm.trans q.abs)
theorem Vals.inj : ∀ {xs ys : List V} {us : List Value}, Vals xs us → Vals ys us → xs = ys
  | _, _, _, .nil, .nil => rfl
  | _, _, _, .cons r t, .cons r' t' => by rw [r.inj r', Vals.inj t t']
section
variable {X : Cx} {pins : List (Addr × Obj)} {σ : St} {H : Hp} {s : Shared} {a : Addr} {xs ys : List V}
theorem SqL.of {K : PySem.W.Frag} (h : H a = some (.lst xs)) : SqL K H a xs := .inl (.inl h)
theorem SqT.of {K : PySem.W.Frag} (h : H a = some (.tup xs)) : SqT K H a xs := .inl (.inl h)
theorem Inv.list (I : Inv X pins σ H s) (h : SqL X.K H a xs) : ∃ its : List Value, Vals xs its ∧ PlainL s.heap a its.toArray ∧ xs.length ≤ sizeLine := by
  rcases h with h | ⟨o, its, n, hk, hc, hd, hs, hz, r⟩
  · obtain ⟨z, its, n, r, e⟩ := h.ok I.hok
    exact ⟨its, r, ⟨_, n, e, rfl, rfl, rfl⟩, z⟩
  · refine ⟨its.toList, r, ⟨o, n, I.kIn a o hk, hc, hd, by simpa using hs⟩, ?_⟩
    have e := r.length
    simp only [Array.length_toList] at e
    omega
theorem Inv.tuple (I : Inv X pins σ H s) (h : SqT X.K H a xs) : ∃ its : List Value, Vals xs its ∧ IsTup s.heap a its.toArray ∧ xs.length ≤ sizeLine := by
  rcases h with h | ⟨o, its, n, hk, hc, hs, hz, r⟩
  · obtain ⟨z, its, r, p⟩ := h.ok I.hok
    exact ⟨its, r, p, z⟩
  · refine ⟨its.toList, r, ⟨o, I.kIn a o hk, hc, n, by simpa using hs⟩, ?_⟩
    have e := r.length
    simp only [Array.length_toList] at e
    omega
theorem Inv.list_inj (I : Inv X pins σ H s) (h : SqL X.K H a xs) (h' : SqL X.K H a ys) : xs = ys := by
  obtain ⟨its, r, ⟨o, n, e, _, _, d⟩, _⟩ := I.list h
  obtain ⟨its', r', ⟨o', n', e', _, _, d'⟩, _⟩ := I.list h'
  rw [e] at e'; cases e'
  rw [d] at d'
  injection d' with d1 _
  have : its = its' := by simpa using congrArg Array.toList d1
  subst this
  exact r.inj r'
theorem Inv.tuple_inj (I : Inv X pins σ H s) (h : SqT X.K H a xs) (h' : SqT X.K H a ys) : xs = ys := by
  obtain ⟨its, r, ⟨o, e, _, n, d⟩, _⟩ := I.tuple h
  obtain ⟨its', r', ⟨o', e', _, n', d'⟩, _⟩ := I.tuple h'
  rw [e] at e'; cases e'
  rw [d] at d'
  injection d' with d1 _
  have : its = its' := by simpa using congrArg Array.toList d1
  subst this
  exact r.inj r'
end

/-! ### another wish about exceptions -/
abbrev Cx.wish (X : Cx) (E : Value → Shared → Prop) : Cx := { X with xe := E }
/-- no exception leaves -/
abbrev Cx.nox (X : Cx) : Cx := X.wish fun _ _ => False
theorem Cx.Ok.wish {X : Cx} (ok : X.Ok) (E : Value → Shared → Prop) : (X.wish E).Ok :=
  ⟨ok.mod, ok.kind, ok.glob, ok.blt, ok.above, ok.inj, ok.has, ok.cab, ok.hd, ok.frames, ok.stk, ok.exf, ok.bs, ok.bsz, ok.noex, ok.exfs, ok.funs, ok.frf⟩
theorem Cx.Ok.unwish {X : Cx} {E : Value → Shared → Prop} (ok : (X.wish E).Ok) : X.Ok :=
  ⟨ok.mod, ok.kind, ok.glob, ok.blt, ok.above, ok.inj, ok.has, ok.cab, ok.hd, ok.frames, ok.stk, ok.exf, ok.bs, ok.bsz, ok.noex, ok.exfs, ok.funs, ok.frf⟩
section
variable {X : Cx} {pins : List (Addr × Obj)} {σ : St} {H : Hp} {s : Shared} {E : Value → Shared → Prop}
theorem Inv.wish (I : Inv X pins σ H s) (E : Value → Shared → Prop) : Inv (X.wish E) pins σ H s := ⟨I.ok.wish E, I.os, I.bare, I.base, I.loc, I.cell, I.free, I.freeC, I.pin, I.hok, I.len⟩
theorem Inv.unwish (I : Inv (X.wish E) pins σ H s) : Inv X pins σ H s := ⟨I.ok.unwish, I.os, I.bare, I.base, I.loc, I.cell, I.free, I.freeC, I.pin, I.hok, I.len⟩
theorem SP.unwish {D : Ends} {f : Flow} {s' : Shared} (h : SP (X.wish E) pins D f s') : SP X pins D f s' := by
  cases f with
  | next => obtain ⟨σ', H', I, q⟩ := h; exact ⟨σ', H', I.unwish, q⟩
  | brk => obtain ⟨σ', H', I, q⟩ := h; exact ⟨σ', H', I.unwish, q⟩
  | cont => obtain ⟨σ', H', I, q⟩ := h; exact ⟨σ', H', I.unwish, q⟩
  | ret u => obtain ⟨v, σ', H', I, r, q⟩ := h; exact ⟨v, σ', H', I.unwish, r, q⟩
theorem PE.nox {e : Expr} {t : TE} (h : PE X.nox e t) : PE X e t := fun pins s σ H Q I hw =>
  wpAny_mono (h pins s σ H Q (I.wish _) hw) (fun _ _ ⟨v, H', I', r, q⟩ => ⟨v, H', I'.unwish, r, q⟩) fun _ _ z => False.elim z
theorem PT.nox {e : Expr} {t : TT} (h : PT X.nox e t) : PT X e t := fun pins s σ H Q I hw =>
  wpAny_mono (h pins s σ H Q (I.wish _) hw) (fun _ _ ⟨H', I', q⟩ => ⟨H', I'.unwish, q⟩) fun _ _ z => False.elim z
theorem PSs.nox {st : List Stmt} {t : TS} (h : PSs X.nox st t) : PSs X st t := fun pins s σ H D I hw =>
  wpAny_mono (h pins s σ H D (I.wish _) hw) (fun _ _ q => q.unwish) fun _ _ z => False.elim z
end

/-! ### blocks and small statements -/
section
variable {X : Cx} {st : Stmt} {rest : List Stmt} {t u : TS} {e : Expr} {te : TE} {pos : Pos}
def tNext : TS := fun D σ H => D.nx σ H
def tSeq (t u : TS) : TS := fun D σ H => t { D with nx := u D } σ H
theorem pss_nil : PSs X [] tNext := fun _ _ σ H _ I h => wpAny_execs_nil ⟨σ, H, I, h⟩
theorem pss_cons (h1 : PS X st t) (h2 : PSs X rest u) : PSs X (st :: rest) (tSeq t u) := by
  intro pins s σ H D I h
  refine wpAny_execs_cons (thn (h1 pins s σ H { D with nx := u D } I h) fun f s1 q => ?_)
  cases f with
  | next =>
    obtain ⟨σ', H', I', q⟩ := q
    exact h2 pins s1 σ' H' D I' q
  | ret v => exact q
  | brk => exact q
  | cont => exact q
theorem pss_one (h1 : PS X st t) : PSs X [st] t := by
  intro pins s σ H D I h
  refine wpAny_execs_cons (thn (h1 pins s σ H D I h) fun f s1 q => ?_)
  cases f with
  | next => exact wpAny_execs_nil q
  | ret v => exact q
  | brk => exact q
  | cont => exact q
/-- in a def's body nothing is shown -/
theorem Inv.quiet {pins : List (Addr × Obj)} {σ : St} {H : Hp} {s : Shared} (I : Inv X pins σ H s) : interactive X.env = false := by simp [interactive, I.ok.kind]
/-- an expression whose value is dropped -/
def tDrop (te : TE) : TS := fun D σ H => te σ H fun _ H1 => D.nx σ H1
theorem ps_expr (he : PE X e te) (hs : swapsWith e none pos.line X.env = pure false := by rfl) : PS X (.Expr e pos) (tDrop te) := by
  intro pins s σ H D I h
  exact wpAny_Expr_any (thn (he pins s σ H _ I h) fun v s1 ⟨x, H1, I1, r1, q1⟩ => ⟨σ, H1, I1, q1⟩) I.quiet hs
def tRet (te : TE) : TS := fun D σ H => te σ H D.rt
theorem ps_ret (he : PE X e te) : PS X (.Return (some e) pos) (tRet te) := by
  intro pins s σ H D I h
  exact wpAny_Return_some (thn (he pins s σ H _ I h) fun v s1 ⟨x, H1, I1, r1, q1⟩ => ⟨x, σ, H1, I1, r1, q1⟩)
def tIfS (c : TT) (t u : TS) : TS := fun D σ H => c σ H fun b H1 => if b = true then t D σ H1 else u D σ H1
theorem ps_if {c : Expr} {a b : List Stmt} {tc : TT} (hc : PT X c tc) (ha : PSs X a t) (hb : PSs X b u) : PS X (.If c a b pos) (tIfS tc t u) := by
  intro pins s σ H D I h
  refine wpAny_If (thn (hc pins s σ H _ I h) fun d s1 ⟨H1, I1, q1⟩ => ?_)
  cases d with
  | true => exact ha pins s1 σ H1 D I1 q1
  | false => exact hb pins s1 σ H1 D I1 q1
end

/-! ### targets -/
abbrev TG := V → St → Hp → (St → Hp → Prop) → Prop
abbrev TGs := List V → St → Hp → (St → Hp → Prop) → Prop
def PG (X : Cx) (target : Expr) (t : TG) : Prop :=
  ∀ (pins : List (Addr × Obj)) (s : Shared) (σ : St) (H : Hp) (v : V) (u : Value) (Q : St → Hp → Prop), Inv X pins σ H s → RelV v u → t v σ H Q →
    wpAny (model X.prog X.w) X.A (assign target X.env u) (fun _ s' => ∃ σ' H', Inv X pins σ' H' s' ∧ Q σ' H') X.xe s
/-- several targets, one after another -/
def PGs (X : Cx) (ts : List Expr) (t : TGs) : Prop :=
  ∀ (pins : List (Addr × Obj)) (s : Shared) (σ : St) (H : Hp) (vs : List V) (us : List Value) (Q : St → Hp → Prop), Inv X pins σ H s → Vals vs us → t vs σ H Q →
    wpAny (model X.prog X.w) X.A (assignInOrder ((assignEach ts X.env).map (·.2)) us) (fun _ s' => ∃ σ' H', Inv X pins σ' H' s' ∧ Q σ' H') X.xe s
section
variable {X : Cx} {pos : Pos}
def gName (i : Nat) : TG := fun v σ H Q => Q (σ.set i (some v)) H
theorem pg_name {i : Nat} {x : Str} (hN : X.N.Nodup) (hi : X.N[i]? = some x) (hx : Loc X.env.scope x) (hf : X.fn x = true ∨ X.env.scope.names.lookup x = some .local := by first | exact .inl rfl | exact .inr rfl | assumption) : PG X (.Name x pos) (gName i) := by
  intro pins s σ H v u Q I r h
  exact wpAny_assign_Name (store_ok I hN hi hx r (fun s' I' => ⟨_, H, I', h⟩) hf)
def gNil : TGs := fun vs σ H Q => vs = [] ∧ Q σ H
def gCons (t : TG) (u : TGs) : TGs := fun vs σ H Q => ∃ v r, vs = v :: r ∧ t v σ H fun σ' H' => u r σ' H' Q
theorem pgs_nil : PGs X [] gNil := by
  intro pins s σ H vs us Q I r h
  obtain ⟨e, h⟩ := h
  subst e
  cases r
  exact assignInOrder_nil ⟨σ, H, I, h⟩
theorem pgs_cons {e : Expr} {es : List Expr} {t : TG} {u : TGs} (h1 : PG X e t) (h2 : PGs X es u)
    (hs : (assignEach (e :: es) X.env).map (·.2) = assign e X.env :: (assignEach es X.env).map (·.2) := by rfl) : PGs X (e :: es) (gCons t u) := by
  intro pins s σ H vs us Q I r h
  obtain ⟨v, vr, e1, h⟩ := h
  subst e1
  cases r with
  | cons r rr =>
    rw [hs]
    refine assignInOrder_cons (thn (h1 pins s σ H _ _ _ I r h) fun _ s1 ⟨σ1, H1, I1, q1⟩ => ?_)
    exact h2 pins s1 σ1 H1 _ _ Q I1 rr q1
/-- (a, b, ..) = a tuple of that length -/
def gTup (K : PySem.W.Frag) (n : Nat) (t : TGs) : TG := fun v σ H Q => ∃ a xs, v = .ref a ∧ SqT K H a xs ∧ xs.length = n ∧ t xs σ H Q
theorem pg_tup {es : List Expr} {k : Nat} {t : TGs} {n : Nat} (hc : X.calm = true) (h : PGs X es t)
    (hn : (assignEach es X.env).length = n := by rfl) (hst : (assignEach es X.env).findIdx? (·.1) = none := by rfl) : PG X (.Tuple es k pos) (gTup X.K n t) := by
  intro pins s σ H v u Q I r hw
  obtain ⟨a, xs, e1, hq, hl, hw⟩ := hw
  subst e1
  cases r
  obtain ⟨its, rv, ht, hz⟩ := I.tuple hq
  refine assign_Tuple_tuple (I.ok.hd hc) ht (by simp [hn, ← hl, rv.length]) hst fun h' hx => ?_
  have I1 : Inv X pins σ H { s with heap := h' } := I.kept (t' := s.toks) fun b o e => hx b o (Nat.ne_of_lt (Heap.lt_size e)) e
  exact h pins _ σ H xs _ Q I1 (by simpa using rv) hw
/-- target = value -/
def tAsg (te : TE) (g : TG) : TS := fun D σ H => te σ H fun x H1 => g x σ H1 D.nx
theorem ps_asg {tg e : Expr} {te : TE} {g : TG} (he : PE X e te) (hg : PG X tg g) (hs : swapsWithSole [tg] e pos.line X.env = pure false := by rfl) (hw : swappedStores [tg] e X.env = pure none := by rfl)
    (h1 : (assignEach [tg] X.env).map (·.2) = [assign tg X.env] := by rfl) : PS X (.Assign [tg] e pos) (tAsg te g) := by
  intro pins s σ H D I h
  refine wpAny_Assign_stores (thn (he pins s σ H _ I h) fun v s1 ⟨x, H1, I1, r1, q1⟩ => ?_) hs hw
  rw [h1]
  exact thn (hg pins s1 σ H1 x v _ I1 r1 q1) fun _ s2 q => q
/-- name = value -/
theorem ps_set {i : Nat} {x : Str} {e : Expr} {te : TE} {pos' : Pos} (hN : X.N.Nodup) (hi : X.N[i]? = some x) (hx : Loc X.env.scope x) (he : PE X e te) (hs : swapsWith e (some (.Name x pos')) pos.line X.env = pure false := by rfl) (hf : X.fn x = true ∨ X.env.scope.names.lookup x = some .local := by first | exact .inl rfl | exact .inr rfl | assumption) :
    PS X (.Assign [.Name x pos'] e pos) (tAsg te (gName i)) := by
  intro pins s σ H D I h
  refine wpAny_Assign_Name (thn (he pins s σ H _ I h) fun v s1 ⟨y, H1, I1, r1, q1⟩ => ?_) hs
  exact store_ok I1 hN hi hx r1 (fun s2 I2 => ⟨_, H1, I2, q1⟩) hf
end

/-! ### while -/
section
variable {X : Cx} {pos : Pos}
end

/-! ### what a loop or a comprehension walks -/
/-- at turn i: it yields x (the heap may grow), or it stops -/
structure It where
  go : Nat → Hp → Prop
  yld : Nat → Hp → V → Hp → Prop
  stop : Nat → Hp → Prop
/-- the iterator's own objects may turn: they are not the frame's, not pinned, younger than the entry (or a comprehension's own) -/
def FpOk (X : Cx) (pins : List (Addr × Obj)) (H : Hp) (b : Addr) : Prop :=
  H b = none ∧ b ≠ X.env.locals ∧ b ∉ X.fs ∧ (b ∈ X.ex ∨ X.s₀.heap.objs.size ≤ b) ∧ (∀ x c, X.env.cells.lookup x = some c → c ≠ b) ∧ ∀ p ∈ X.pn ++ pins, p.1 ≠ b
theorem Inv.fpOk {X : Cx} {pins : List (Addr × Obj)} {σ : St} {H H' : Hp} {s : Shared} {b : Addr} (I : Inv X pins σ H s) (hb : s.heap.objs.size ≤ b) (hn : H' b = none) : FpOk X pins H' b := by
  refine ⟨hn, Nat.ne_of_gt (Nat.lt_of_lt_of_le I.lt hb), I.nofs hb, .inr (Nat.le_trans I.sz hb), fun x c e z => ?_, fun p hp z => ?_⟩
  · obtain ⟨v, q⟩ := I.cell x c e
    exact absurd (Nat.lt_of_lt_of_le q.lt (by rw [z]; exact hb)) (Nat.lt_irrefl _)
  · exact absurd (Nat.lt_of_lt_of_le (Heap.lt_size (I.pin p hp).1) (by rw [z]; exact hb)) (Nat.lt_irrefl _)
structure Turn (P : Program) (w : World) (K : PySem.W.Frag) (tg : Expr) (J : It) (fp : List Addr) (it : Addr) (tn : Nat → Heap → Prop) : Prop where
  mem : it ∈ fp
  obj : ∀ i h, tn i h → ∀ b ∈ fp, ∃ o, h.get? b = some o ∧ ∀ v, o.data ≠ .cell v
  keep : ∀ i h h', tn i h → (∀ b ∈ fp, ∀ o, h.get? b = some o → h'.get? b = some o) → tn i h'
  item : ∀ (X : Cx), X.prog = P → X.w = w → X.K = K → X.calm = true → ∀ (i : Nat) (pins : List (Addr × Obj)) (s : Shared) (σ : St) (H : Hp) (E : Value → Shared → Prop), Inv X pins σ H s → (∀ b ∈ fp, FpOk X pins H b) → tn i s.heap → J.go i H →
    wpAny (model P w) X.A (pyNext (.ref it)) (fun r s1 => ∃ u, r = some u ∧
      wpAny (model P w) X.A (letOwnedTupleGo tg (.ref it) u) (fun _ s2 => ∃ x H', Inv X pins σ H' s2 ∧ RelV x u ∧ J.yld i H x H' ∧ tn (i + 1) s2.heap ∧ ∀ b ∈ fp, H' b = none) E s1) E s
  done : ∀ (X : Cx), X.prog = P → X.w = w → X.K = K → X.calm = true → ∀ (i : Nat) (pins : List (Addr × Obj)) (s : Shared) (σ : St) (H : Hp) (E : Value → Shared → Prop), Inv X pins σ H s → (∀ b ∈ fp, FpOk X pins H b) → tn i s.heap → J.stop i H →
    wpAny (model P w) X.A (pyNext (.ref it)) (fun r s1 => r = none ∧ Inv X pins σ H s1) E s
  self : ∀ (A : Around) (i : Nat) (s : Shared) (Q : Value → Shared → Prop) (E : Value → Shared → Prop), tn i s.heap → Q (.ref it) s → wpAny (model P w) A (pyIter (.ref it)) Q E s
abbrev TI := St → Hp → (It → Hp → Prop) → Prop
/-- an iterator has come -/
def PIE (X : Cx) (pins : List (Addr × Obj)) (σ : St) (tg : Expr) (R : It → Hp → Prop) (itv : Value) (s2 : Shared) : Prop :=
  ∃ (it : Addr) (fp : List Addr) (tn : Nat → Heap → Prop) (J : It) (H' : Hp), itv = .ref it ∧ Inv X pins σ H' s2 ∧ Turn X.prog X.w X.K tg J fp it tn ∧ tn 0 s2.heap ∧ (∀ b ∈ fp, FpOk X pins H' b) ∧ R J H'
def PI (X : Cx) (tg iter : Expr) (wi : TI) : Prop :=
  ∀ (pins : List (Addr × Obj)) (s : Shared) (σ : St) (H : Hp) (R : It → Hp → Prop), Inv X pins σ H s → wi σ H R →
    wpAny (model X.prog X.w) X.A (eval iter X.env) (fun v s1 => wpAny (model X.prog X.w) X.A (pyIter v) (PIE X pins σ tg R) X.xe s1) X.xe s

/-- the step ahead of the store is nothing for an iterator that keeps no tuple -/
theorem go_of {M : Model} {A : Around} {E : Value → Shared → Prop} {s : Shared} {tg : Expr} {it : Addr} {u : Value} {o : Obj} {n : String} {vs : Array Value} {Q : Unit → Shared → Prop} (ho : s.heap.get? it = some o) (hc : o.cls = .type n) (hd : o.data = .fields vs)
    (hn : ["enumerate", "zip", "dict_itemiterator", "dict_reverseitemiterator", "odict_iterator", "itertools.zip_longest", "itertools.pairwise"].contains n = false) (hQ : Q () s) : wpAny M A (letOwnedTupleGo tg (.ref it) u) Q E s := by
  unfold letOwnedTupleGo
  cases tg <;> first
    | exact wpAny_pure hQ
    | (cases u <;> first
        | exact wpAny_pure hQ
        | (refine wpAny_bind (wpAny_load ho ?_)
           rw [hc, hd]
           show wpAny M A (if (["enumerate", "zip", "dict_itemiterator", "dict_reverseitemiterator", "odict_iterator", "itertools.zip_longest", "itertools.pairwise"].contains n && vs[0]? == some (rawInt _)) = true then _ else _) Q E s
           rw [if_neg (by intro h; rw [hn, Bool.false_and] at h; cases h)]
           exact wpAny_pure hQ))

/-- the list at a, as it stands at each turn (a loop may append to it) -/
def Itl (K : PySem.W.Frag) (a : Addr) : It :=
  ⟨fun i H => ∃ xs x, SqL K H a xs ∧ xs[i]? = some x, fun i H x H' => H' = H ∧ ∀ xs, SqL K H a xs → xs[i]? = some x, fun i H => ∃ xs, SqL K H a xs ∧ xs.length ≤ i⟩
def Itt (K : PySem.W.Frag) (a : Addr) : It :=
  ⟨fun i H => ∃ xs x, SqT K H a xs ∧ xs[i]? = some x, fun i H x H' => H' = H ∧ ∀ xs, SqT K H a xs → xs[i]? = some x, fun i H => ∃ xs, SqT K H a xs ∧ xs.length ≤ i⟩
/-- lo, lo + 1, .. (n of them) -/
def Itr (lo : Int) (n : Nat) : It := ⟨fun i _ => i < n, fun i H x H' => H' = H ∧ x = .int (lo + i), fun i _ => n ≤ i⟩
theorem turn_list {P : Program} {w : World} {K : PySem.W.Frag} {tg : Expr} (a it : Addr) : Turn P w K tg (Itl K a) [it] it (fun i h => h.IsListIter it a i) where
  mem := by simp
  obj := fun i h st b hb => by
    have e : b = it := by simpa using hb
    subst e
    obtain ⟨o, e, c, d⟩ := st
    exact ⟨o, e, fun v z => by rw [d] at z; cases z⟩
  keep := fun i h h' st k => st.at fun o e => k it (by simp) o e
  item := by
    intro X hP hw hK hc i pins s σ H E I hf st hg
    subst hP hw hK
    obtain ⟨xs, x, hq, hx⟩ := hg
    obtain ⟨its, rv, p, hz⟩ := I.list hq
    obtain ⟨u, hu, ru⟩ := rv.get hx
    obtain ⟨f0, f1, f2, f3, f4, f5⟩ := hf it (by simp)
    refine wpAny_pyNext_list_item st p.isList (x := u) (by simpa using hu) fun h' st' sb => ?_
    have I1 : Inv X pins σ H { s with heap := h' } := I.turned (t' := s.toks) (fun b o hb e => (sb.2 b hb).trans e) f0 f1 f3 f4 f5
    obtain ⟨o, e, c, d⟩ := id st'
    exact ⟨u, rfl, go_of (s := { s with heap := h' }) e c d (by decide) ⟨x, H, I1, ru, ⟨rfl, fun ys hy => by rw [I.list_inj hy hq]; exact hx⟩, st', fun b hb => (hf b hb).1⟩⟩
  done := by
    intro X hP hw hK hc i pins s σ H E I hf st hg
    subst hP hw hK
    obtain ⟨xs, hq, hx⟩ := hg
    obtain ⟨its, rv, p, hz⟩ := I.list hq
    obtain ⟨f0, f1, f2, f3, f4, f5⟩ := hf it (by simp)
    have hl := rv.length
    exact wpAny_pyNext_list_end (I.ok.hd hc) st p.isList (by simp; omega) fun h' eb => ⟨rfl, I.turned (t' := s.toks) (fun b o hb e => eb b o hb e) f0 f1 f3 f4 f5⟩
  self := fun _ _ _ _ _ st h => wpAny_pyIter_listiter st h
theorem turn_tuple {P : Program} {w : World} {K : PySem.W.Frag} {tg : Expr} (a it : Addr) : Turn P w K tg (Itt K a) [it] it (fun i h => h.IsTupleIter it a i) where
  mem := by simp
  obj := fun i h st b hb => by
    have e : b = it := by simpa using hb
    subst e
    obtain ⟨o, e, c, d⟩ := st
    exact ⟨o, e, fun v z => by rw [d] at z; cases z⟩
  keep := fun i h h' st k => st.at fun o e => k it (by simp) o e
  item := by
    intro X hP hw hK hc i pins s σ H E I hf st hg
    subst hP hw hK
    obtain ⟨xs, x, hq, hx⟩ := hg
    obtain ⟨its, rv, p, hz⟩ := I.tuple hq
    obtain ⟨u, hu, ru⟩ := rv.get hx
    obtain ⟨f0, f1, f2, f3, f4, f5⟩ := hf it (by simp)
    refine wpAny_pyNext_tuple_item st (show s.heap.IsTuple a its.toArray from p) (x := u) (by simpa using hu) fun h' st' sb => ?_
    have I1 : Inv X pins σ H { s with heap := h' } := I.turned (t' := s.toks) (fun b o hb e => (sb.2 b hb).trans e) f0 f1 f3 f4 f5
    obtain ⟨o, e, c, d⟩ := id st'
    exact ⟨u, rfl, go_of (s := { s with heap := h' }) e c d (by decide) ⟨x, H, I1, ru, ⟨rfl, fun ys hy => by rw [I.tuple_inj hy hq]; exact hx⟩, st', fun b hb => (hf b hb).1⟩⟩
  done := by
    intro X hP hw hK hc i pins s σ H E I hf st hg
    subst hP hw hK
    obtain ⟨xs, hq, hx⟩ := hg
    obtain ⟨its, rv, p, hz⟩ := I.tuple hq
    obtain ⟨f0, f1, f2, f3, f4, f5⟩ := hf it (by simp)
    have hl := rv.length
    exact wpAny_pyNext_tuple_end (I.ok.hd hc) st (show s.heap.IsTuple a its.toArray from p) (by simp; omega) fun h' eb => ⟨rfl, I.turned (t' := s.toks) (fun b o hb e => eb b o hb e) f0 f1 f3 f4 f5⟩
  self := fun _ _ _ _ _ st h => wpAny_pyIter_tupleiter st h
theorem turn_range {P : Program} {w : World} {K : PySem.W.Frag} {tg : Expr} (it : Addr) (lo : Int) (n : Nat) : Turn P w K tg (Itr lo n) [it] it (fun i h => IsRangeIter h it (lo + (i : Nat) * 1) ((n : Int) - (i : Nat)) 1) where
  mem := by simp
  obj := fun i h st b hb => by
    have e : b = it := by simpa using hb
    subst e
    exact ⟨_, st, fun v z => by
      have z' : Data.fields _ = Data.cell v := z
      cases z'⟩
  keep := fun i h h' st k => k it (by simp) _ st
  item := by
    intro X hP hw hK hc i pins s σ H E I hf st hg
    subst hP hw hK
    obtain ⟨f0, f1, f2, f3, f4, f5⟩ := hf it (by simp)
    have W := Walks.range (prog := X.prog) (w := X.w) (I.ok.hd hc) it lo 1 n
    refine W.item i s _ _ hg st fun v h' tk hv st' kk => ?_
    obtain ⟨t, rfl⟩ := hv
    have I1 : Inv X pins σ H { s with heap := h', toks := tk } := I.turned (fun b o hb e => kk b o (by simpa using hb) e) f0 f1 f3 f4 f5
    refine ⟨_, rfl, go_of (s := { s with heap := h', toks := tk }) (n := "range_iterator") st' rfl rfl (by decide) ⟨.int (lo + i), H, I1, ⟨t, ?_⟩, ⟨rfl, rfl⟩, st', fun b hb => (hf b hb).1⟩⟩
    rw [Int.mul_one]
  done := by
    intro X hP hw hK hc i pins s σ H E I hf st hg
    subst hP hw hK
    obtain ⟨f0, f1, f2, f3, f4, f5⟩ := hf it (by simp)
    exact wpAny_pyNext_range_end (I.ok.hd hc) st (by have : n ≤ i := hg; omega) fun h' eb => ⟨rfl, I.turned (t' := s.toks) (fun b o hb e => eb b o hb e) f0 f1 f3 f4 f5⟩
  self := fun _ _ _ _ _ st h => wpAny_pyIter_rangeiter st h
end L2

namespace L2
open PySem PySem.Spec PyProof.Rows
section
variable {X : Cx} {tg : Expr}
def iList (K : PySem.W.Frag) (tl : TE) : TI := fun σ H R => tl σ H fun x H1 => ∃ a, x = .ref a ∧ (∃ xs, SqL K H1 a xs) ∧ R (Itl K a) H1
def iTup (K : PySem.W.Frag) (tl : TE) : TI := fun σ H R => tl σ H fun x H1 => ∃ a, x = .ref a ∧ (∃ xs, SqT K H1 a xs) ∧ R (Itt K a) H1
theorem pi_list {l : Expr} {tl : TE} (hl : PE X l tl) : PI X tg l (iList X.K tl) := by
  intro pins s σ H R I h
  refine thn (hl pins s σ H _ I h) fun v s1 ⟨x, H1, I1, r1, q1⟩ => ?_
  obtain ⟨a, e, ⟨xs, hq⟩, q⟩ := q1
  subst e
  cases r1
  obtain ⟨its, rv, p, hz⟩ := I1.list hq
  refine wpAny_pyIter_list p.isList ?_
  refine ⟨s1.heap.objs.size, [s1.heap.objs.size], _, _, H1, rfl, I1.kept (t' := s1.toks) fun b o e => Heap.get?_push_of_some _ e, turn_list a _, ⟨_, Heap.get?_push_size _ rfl, rfl, rfl⟩, fun b hb => ?_, q⟩
  have e : b = s1.heap.objs.size := by simpa using hb
  subst e
  exact I1.fpOk (Nat.le_refl _) (I1.hok.fresh (Nat.le_refl _))
theorem pi_tup {l : Expr} {tl : TE} (hl : PE X l tl) : PI X tg l (iTup X.K tl) := by
  intro pins s σ H R I h
  refine thn (hl pins s σ H _ I h) fun v s1 ⟨x, H1, I1, r1, q1⟩ => ?_
  obtain ⟨a, e, ⟨xs, hq⟩, q⟩ := q1
  subst e
  cases r1
  obtain ⟨its, rv, p, hz⟩ := I1.tuple hq
  refine wpAny_pyIter_tuple (show s1.heap.IsTuple a its.toArray from p) ?_
  refine ⟨s1.heap.objs.size, [s1.heap.objs.size], _, _, H1, rfl, I1.kept (t' := s1.toks) fun b o e => Heap.get?_push_of_some _ e, turn_tuple a _, ⟨_, Heap.get?_push_size _ rfl, rfl, rfl⟩, fun b hb => ?_, q⟩
  have e : b = s1.heap.objs.size := by simpa using hb
  subst e
  exact I1.fpOk (Nat.le_refl _) (I1.hok.fresh (Nat.le_refl _))
/-- a range object just made, walked -/
theorem range_it {pins : List (Addr × Obj)} {σ : St} {H : Hp} {s : Shared} {R : It → Hp → Prop} {E : Value → Shared → Prop} {lo hi : Int} {t u v : Tok} {tk : Nat} (I : Inv X pins σ H s) (h1 : -(2 ^ 62) ≤ lo) (h2 : lo < 2 ^ 62) (h3 : -(2 ^ 62) ≤ hi) (h4 : hi < 2 ^ 62)
    (q : R (Itr lo (hi - lo).toNat) H) : wpAny (model X.prog X.w) X.A (pyIter (.ref s.heap.objs.size)) (PIE X pins σ tg R) E { s with heap := s.heap.push { cls := .type "range", data := .fields #[.int lo t, .int hi u, .int 1 v] }, toks := tk } := by
  refine wpAny_pyIter_range (IsRange.new ..) (small_one h1 h2 h3 h4) ?_
  have I1 : Inv X pins σ H { s with heap := s.heap.push { cls := .type "range", data := .fields #[.int lo t, .int hi u, .int 1 v] }, toks := tk } := I.kept fun b o e => Heap.get?_push_of_some _ e
  refine ⟨(s.heap.push { cls := .type "range", data := .fields #[.int lo t, .int hi u, .int 1 v] }).objs.size, [(s.heap.push { cls := .type "range", data := .fields #[.int lo t, .int hi u, .int 1 v] }).objs.size], _, _, H, rfl,
    I1.kept (t' := tk) fun b o e => Heap.get?_push_of_some _ e, turn_range _ lo (hi - lo).toNat, ?_, fun b hb => ?_, q⟩
  · have e1 : lo + ((0 : Nat) : Int) * 1 = lo := by simp
    have e2 : (((hi - lo).toNat : Nat) : Int) - ((0 : Nat) : Int) = Builtin.Range.rangeSize lo hi 1 := by rw [rangeSize_one]; split <;> omega
    show IsRangeIter _ _ (lo + ((0 : Nat) : Int) * 1) ((((hi - lo).toNat : Nat) : Int) - ((0 : Nat) : Int)) 1
    rw [e1, e2]
    exact Heap.get?_push_size _ rfl
  · have e : b = (s.heap.push { cls := .type "range", data := .fields #[.int lo t, .int hi u, .int 1 v] }).objs.size := by simpa using hb
    subst e
    exact I1.fpOk (Nat.le_refl _) (I1.hok.fresh (Nat.le_refl _))
def iRng1 (ta : TA) : TI := fun σ H R => ta σ H fun vs H1 => ∃ j : Int, vs = [.int j] ∧ -(2 ^ 62) ≤ j ∧ j < 2 ^ 62 ∧ R (Itr 0 j.toNat) H1
def iRng2 (ta : TA) : TI := fun σ H R => ta σ H fun vs H1 => ∃ i j : Int, vs = [.int i, .int j] ∧ (-(2 ^ 62) ≤ i ∧ i < 2 ^ 62 ∧ -(2 ^ 62) ≤ j ∧ j < 2 ^ 62) ∧ R (Itr i (j - i).toNat) H1
theorem pi_range1 {a : Expr} {ta : TA} {p pos : Pos} (hg : Gl X "range") (hm : X.mg "range" = none) (ha : PA X [a] ta) (hs : starEach [a] X.env = [(false, eval a X.env)] := by rfl) : PI X tg (.Call (.Name "range" p) [a] [] pos) (iRng1 ta) := by
  intro pins s σ H R I h
  refine Call_ (ld_blt I hg hm boot_range (PyProof.Rows.callWith_type1 (thn (ha pos pins s σ H _ I h) fun us s1 ⟨vs, H1, I1, r1, q1⟩ => ?_) hs rfl))
  obtain ⟨j, e, q1, q2, q⟩ := q1
  subst e
  cases r1 with
  | cons r rr =>
    cases rr
    obtain ⟨t, rfl⟩ := r
    exact call_range_1 (range_it I1 (by omega) (by omega) q1 q2 (by simpa using q))
theorem pi_range2 {a b : Expr} {ta : TA} {p pos : Pos} (hg : Gl X "range") (hm : X.mg "range" = none) (ha : PA X [a, b] ta) (hs : starEach [a, b] X.env = [(false, eval a X.env), (false, eval b X.env)] := by rfl) (hs2 : starEach [b] X.env = [(false, eval b X.env)] := by rfl) :
    PI X tg (.Call (.Name "range" p) [a, b] [] pos) (iRng2 ta) := by
  intro pins s σ H R I h
  refine Call_ (ld_blt I hg hm boot_range (PyProof.Rows.callWith_type1 (thn (ha pos pins s σ H _ I h) fun us s1 ⟨vs, H1, I1, r1, q1⟩ => ?_) (by rw [hs, hs2]) (by rw [hs2]; rfl)))
  obtain ⟨i, j, e, ⟨q1, q2, q3, q4⟩, q⟩ := q1
  subst e
  cases r1 with
  | cons r rr =>
    cases rr with
    | cons r' rr =>
      cases rr
      obtain ⟨t, rfl⟩ := r
      obtain ⟨t', rfl⟩ := r'
      exact call_range_2 (range_it I1 q1 q2 q3 q4 q)

/-! ### for -/
/-- W: the invariant by the turn and a measure; N: what the body is to reach -/
def tFor (wi : TI) (g : TG) (tb : TS) : TS := fun D σ H => wi σ H fun J H1 => ∃ W : Nat → Nat → St → Hp → Prop, (∃ m, W 0 m σ H1) ∧ ∀ i m σ H, W i m σ H →
  (J.stop i H ∧ D.nx σ H) ∨ (J.go i H ∧ ∃ N : St → Hp → Prop, (∀ σ' H', N σ' H' → ∃ m', m' < m ∧ W (i + 1) m' σ' H') ∧ ∀ x H', J.yld i H x H' → g x σ H' fun σ2 H2 => tb { D with nx := N, ct := N, bk := D.nx } σ2 H2)
/-- the records at fp as they stand -/
def pinsAt (fp : List Addr) (h : Heap) : List (Addr × Obj) := fp.filterMap fun b => (h.get? b).map fun o => (b, o)
theorem mem_pinsAt {fp : List Addr} {h : Heap} {b : Addr} {o : Obj} (hb : b ∈ fp) (e : h.get? b = some o) : (b, o) ∈ pinsAt fp h := List.mem_filterMap.mpr ⟨b, hb, by rw [e]; rfl⟩
theorem of_pinsAt {fp : List Addr} {h : Heap} {p : Addr × Obj} (hp : p ∈ pinsAt fp h) : p.1 ∈ fp ∧ h.get? p.1 = some p.2 := by
  obtain ⟨b, hb, e⟩ := List.mem_filterMap.mp hp
  cases q : h.get? b with
  | none => rw [q] at e; cases e
  | some o =>
    rw [q] at e
    have e' : (b, o) = p := Option.some.inj e
    subst e'
    exact ⟨hb, q⟩
theorem Inv.pinned {pins : List (Addr × Obj)} {σ : St} {H : Hp} {s : Shared} {fp : List Addr} (I : Inv X pins σ H s) (hf : ∀ b ∈ fp, FpOk X pins H b) (ho : ∀ b ∈ fp, ∃ o, s.heap.get? b = some o ∧ ∀ v, o.data ≠ .cell v) : Inv X (pins ++ pinsAt fp s.heap) σ H s :=
  I.pins_of fun p hp => (List.mem_append.mp hp).elim (fun z => I.pin p (List.mem_append_right _ z)) fun z => by
    obtain ⟨hb, e⟩ := of_pinsAt z
    obtain ⟨f0, f1, f2, _⟩ := hf p.1 hb
    obtain ⟨o, e', d⟩ := ho p.1 hb
    rw [e] at e'; cases e'
    exact ⟨e, f0, f1, f2, d⟩
theorem Inv.unpinned {pins pl : List (Addr × Obj)} {σ : St} {H : Hp} {s : Shared} (I : Inv X (pins ++ pl) σ H s) : Inv X pins σ H s := I.pins_of fun p hp => I.pin p (List.mem_append_right _ (List.mem_append_left _ hp))
theorem ps_for {iter : Expr} {body : List Stmt} {wi : TI} {g : TG} {tb : TS} {pos : Pos} (hp : PassesOwn (model X.prog X.w) X.A X.env X.xe) (hc : X.calm = true) (hi : PI X tg iter wi) (hg : PG X tg g) (hb : PSs X body tb)
    (hs : ∀ x, foldedSetIterable iter X.env x = pure x := by intro _; rfl) : PS X (.For tg iter body [] pos) (tFor wi g tb) := by
  intro pins s σ H D I h
  refine wpAny_For (thn (hi pins s σ H _ I h) fun v s1 h1 => thn h1 fun itv s2 h2 => ?_) hs
  obtain ⟨it, fp, tn, J, H2, e, I2, T, st2, f2, W, ⟨m0, w0⟩, turn⟩ := h2
  subst e
  -- what stays true of the iterator's objects through the loop
  have stat : ∀ {H' : Hp}, (∀ b ∈ fp, H' b = none) → ∀ b ∈ fp, FpOk X pins H' b := fun hn b hb => ⟨hn b hb, (f2 b hb).2⟩
  refine codeAny_forLoop_any (fun n s' => ∃ i σ' H', Inv X pins σ' H' s' ∧ tn i s'.heap ∧ (∀ b ∈ fp, H' b = none) ∧ W i n σ' H') ?_ m0 ⟨0, σ, H2, I2, st2, fun b hb => (f2 b hb).1, w0⟩
  rintro n s3 ⟨i, σ3, H3, I3, st3, fr3, w3⟩
  rcases turn i n σ3 H3 w3 with ⟨stop, qn⟩ | ⟨go, N, hN, step⟩
  · refine wpAny_passesOwn hp (thn (T.done X rfl rfl rfl hc i pins s3 σ3 H3 X.xe I3 (stat fr3) st3 stop) fun r s4 ⟨hr, I4⟩ => ?_)
    subst hr
    exact wpAny_execs_nil ⟨σ3, H3, I4, qn⟩
  · refine wpAny_passesOwn hp (thn (T.item X rfl rfl rfl hc i pins s3 σ3 H3 X.xe I3 (stat fr3) st3 go) fun r s4 ⟨u, hr, h4⟩ => ?_)
    subst hr
    refine wpAny_passesOwn hp (thn h4 fun _ s5 ⟨x, H5, I5, r5, y5, st5, fr5⟩ => ?_)
    have I5' := I5.pinned (stat fr5) (T.obj _ _ st5)
    refine wpAny_passesOwn hp (thn (hg _ s5 σ3 H5 x u _ I5' r5 (step x H5 y5)) fun _ s6 ⟨σ6, H6, I6, q6⟩ => ?_)
    refine wpAny_passesOwn hp (thn (hb _ s6 σ6 H6 _ I6 q6) fun f s7 q7 => ?_)
    have again : ∀ {σ7 : St} {H7 : Hp}, Inv X (pins ++ pinsAt fp s5.heap) σ7 H7 s7 → N σ7 H7 → ∃ m, m < n ∧ ∃ i σ' H', Inv X pins σ' H' s7 ∧ tn i s7.heap ∧ (∀ b ∈ fp, H' b = none) ∧ W i m σ' H' := fun {σ7 H7} I7 n7 => by
      obtain ⟨m', hm, w7⟩ := hN σ7 H7 n7
      refine ⟨m', hm, i + 1, σ7, H7, I7.unpinned, T.keep _ _ _ st5 fun b hb o e => (I7.pin (b, o) (List.mem_append_right _ (List.mem_append_right _ (mem_pinsAt hb e)))).1, fun b hb => ?_, w7⟩
      obtain ⟨o, e, d⟩ := T.obj _ _ st5 b hb
      exact (I7.pin (b, o) (List.mem_append_right _ (List.mem_append_right _ (mem_pinsAt hb e)))).2.1
    cases f with
    | next => obtain ⟨σ7, H7, I7, n7⟩ := q7; exact again I7 n7
    | cont => obtain ⟨σ7, H7, I7, n7⟩ := q7; exact again I7 n7
    | brk => obtain ⟨σ7, H7, I7, q7⟩ := q7; exact ⟨σ7, H7, I7.unpinned, q7⟩
    | ret v => obtain ⟨x7, σ7, H7, I7, r7, q7⟩ := q7; exact ⟨x7, σ7, H7, I7.unpinned, r7, q7⟩
end

/-! ### the forms one uses -/
/-- over a list that the body leaves as it is -/
theorem for_list {K : PySem.W.Frag} {a : Addr} {xs : List V} {g : TG} {tb : TS} {D : Ends} {σ : St} {H : Hp} (Pv : Nat → St → Hp → Prop) (h0 : Pv 0 σ H) (hl : ∀ i σ H, i ≤ xs.length → Pv i σ H → SqL K H a xs)
    (hs : ∀ i x σ H, xs[i]? = some x → Pv i σ H → g x σ H fun σ2 H2 => tb { D with nx := Pv (i + 1), ct := Pv (i + 1), bk := D.nx } σ2 H2) (hd : ∀ σ H, Pv xs.length σ H → D.nx σ H) :
    ∃ W : Nat → Nat → St → Hp → Prop, (∃ m, W 0 m σ H) ∧ ∀ i m σ H, W i m σ H →
      ((Itl K a).stop i H ∧ D.nx σ H) ∨ ((Itl K a).go i H ∧ ∃ N : St → Hp → Prop, (∀ σ' H', N σ' H' → ∃ m', m' < m ∧ W (i + 1) m' σ' H') ∧ ∀ x H', (Itl K a).yld i H x H' → g x σ H' fun σ2 H2 => tb { D with nx := N, ct := N, bk := D.nx } σ2 H2) := by
  refine ⟨fun i m σ H => m = xs.length - i ∧ i ≤ xs.length ∧ Pv i σ H, ⟨xs.length, by simp, Nat.zero_le _, h0⟩, ?_⟩
  rintro i m σ H ⟨rfl, hi, p⟩
  have q := hl i σ H hi p
  by_cases hlt : i < xs.length
  · refine .inr ⟨⟨xs, xs[i], q, by simp [hlt]⟩, Pv (i + 1), fun σ' H' p' => ⟨xs.length - (i + 1), by omega, rfl, hlt, p'⟩, fun x H' y => ?_⟩
    obtain ⟨e, y⟩ := y
    subst e
    exact hs i x σ _ (y xs q) p
  · have e : i = xs.length := by omega
    subst e
    exact .inl ⟨⟨xs, q, Nat.le_refl _⟩, hd σ H p⟩
theorem for_tup {K : PySem.W.Frag} {a : Addr} {xs : List V} {g : TG} {tb : TS} {D : Ends} {σ : St} {H : Hp} (Pv : Nat → St → Hp → Prop) (h0 : Pv 0 σ H) (hl : ∀ i σ H, i ≤ xs.length → Pv i σ H → SqT K H a xs)
    (hs : ∀ i x σ H, xs[i]? = some x → Pv i σ H → g x σ H fun σ2 H2 => tb { D with nx := Pv (i + 1), ct := Pv (i + 1), bk := D.nx } σ2 H2) (hd : ∀ σ H, Pv xs.length σ H → D.nx σ H) :
    ∃ W : Nat → Nat → St → Hp → Prop, (∃ m, W 0 m σ H) ∧ ∀ i m σ H, W i m σ H →
      ((Itt K a).stop i H ∧ D.nx σ H) ∨ ((Itt K a).go i H ∧ ∃ N : St → Hp → Prop, (∀ σ' H', N σ' H' → ∃ m', m' < m ∧ W (i + 1) m' σ' H') ∧ ∀ x H', (Itt K a).yld i H x H' → g x σ H' fun σ2 H2 => tb { D with nx := N, ct := N, bk := D.nx } σ2 H2) := by
  refine ⟨fun i m σ H => m = xs.length - i ∧ i ≤ xs.length ∧ Pv i σ H, ⟨xs.length, by simp, Nat.zero_le _, h0⟩, ?_⟩
  rintro i m σ H ⟨rfl, hi, p⟩
  have q := hl i σ H hi p
  by_cases hlt : i < xs.length
  · refine .inr ⟨⟨xs, xs[i], q, by simp [hlt]⟩, Pv (i + 1), fun σ' H' p' => ⟨xs.length - (i + 1), by omega, rfl, hlt, p'⟩, fun x H' y => ?_⟩
    obtain ⟨e, y⟩ := y
    subst e
    exact hs i x σ _ (y xs q) p
  · have e : i = xs.length := by omega
    subst e
    exact .inl ⟨⟨xs, q, Nat.le_refl _⟩, hd σ H p⟩
theorem for_range {lo : Int} {n : Nat} {g : TG} {tb : TS} {D : Ends} {σ : St} {H : Hp} (Pv : Nat → St → Hp → Prop) (h0 : Pv 0 σ H)
    (hs : ∀ i σ H, i < n → Pv i σ H → g (.int (lo + i)) σ H fun σ2 H2 => tb { D with nx := Pv (i + 1), ct := Pv (i + 1), bk := D.nx } σ2 H2) (hd : ∀ σ H, Pv n σ H → D.nx σ H) :
    ∃ W : Nat → Nat → St → Hp → Prop, (∃ m, W 0 m σ H) ∧ ∀ i m σ H, W i m σ H →
      ((Itr lo n).stop i H ∧ D.nx σ H) ∨ ((Itr lo n).go i H ∧ ∃ N : St → Hp → Prop, (∀ σ' H', N σ' H' → ∃ m', m' < m ∧ W (i + 1) m' σ' H') ∧ ∀ x H', (Itr lo n).yld i H x H' → g x σ H' fun σ2 H2 => tb { D with nx := N, ct := N, bk := D.nx } σ2 H2) := by
  refine ⟨fun i m σ H => m = n - i ∧ i ≤ n ∧ Pv i σ H, ⟨n, by simp, Nat.zero_le _, h0⟩, ?_⟩
  rintro i m σ H ⟨rfl, hi, p⟩
  by_cases hlt : i < n
  · refine .inr ⟨hlt, Pv (i + 1), fun σ' H' p' => ⟨n - (i + 1), by omega, rfl, hlt, p'⟩, fun x H' y => ?_⟩
    obtain ⟨e, y⟩ := y
    subst e y
    exact hs i σ _ hlt p
  · have e : i = n := by omega
    subst e
    exact .inl ⟨Nat.le_refl _, hd σ H p⟩
end L2

namespace L2
open PySem PySem.Spec PyProof.Rows

abbrev R2 := V → V → Hp → VK → Prop
/-- a two-place operation on values: f is binaryOp op, inplaceOp op or compareOp op -/
def OpR (X : Cx) (f : Value → Value → Sem Value) (r : R2) : Prop :=
  ∀ (pins : List (Addr × Obj)) (s : Shared) (σ : St) (H : Hp) (x y : V) (v u : Value) (Q : VK), Inv X pins σ H s → RelV x v → RelV y u → r x y H Q →
    wpAny (model X.prog X.w) X.A (f v u) (EP X pins σ Q) X.xe s
/-- a one-place operation -/
def UnR (X : Cx) (f : Value → Sem Value) (r : V → Hp → VK → Prop) : Prop :=
  ∀ (pins : List (Addr × Obj)) (s : Shared) (σ : St) (H : Hp) (x : V) (v : Value) (Q : VK), Inv X pins σ H s → RelV x v → r x H Q →
    wpAny (model X.prog X.w) X.A (f v) (EP X pins σ Q) X.xe s
/-- a call of a value that is known (a builtin, a type) with values -/
def CallR (X : Cx) (f : Value) (r : List V → Hp → VK → Prop) : Prop :=
  ∀ (pins : List (Addr × Obj)) (s : Shared) (σ : St) (H : Hp) (xs : List V) (us : List Value) (Q : VK), Inv X pins σ H s → Vals xs us → r xs H Q →
    wpAny (model X.prog X.w) X.A (call f us) (EP X pins σ Q) X.xe s
/-- a value's truth -/
def TruR (X : Cx) (r : V → Hp → (Bool → Hp → Prop) → Prop) : Prop :=
  ∀ (pins : List (Addr × Obj)) (s : Shared) (σ : St) (H : Hp) (x : V) (v : Value) (Q : Bool → Hp → Prop), Inv X pins σ H s → RelV x v → r x H Q →
    wpAny (model X.prog X.w) X.A (truthy v) (TP X pins σ Q) X.xe s

def tOp (r : R2) (ta tb : TE) : TE := fun σ H Q => ta σ H fun x H1 => tb σ H1 fun y H2 => r x y H2 Q
def tUn (r : V → Hp → VK → Prop) (ta : TE) : TE := fun σ H Q => ta σ H fun x H1 => r x H1 Q
/-- ints in, under C, and a value out -/
def rI (C : Int → Int → Prop) (g : Int → Int → V) : R2 := fun x y H Q => ∃ i j, x = .int i ∧ y = .int j ∧ C i j ∧ Q (g i j) H
def rI0 (g : Int → Int → V) : R2 := fun x y H Q => ∃ i j, x = .int i ∧ y = .int j ∧ Q (g i j) H
def rU (g : Int → V) : V → Hp → VK → Prop := fun x H Q => ∃ i, x = .int i ∧ Q (g i) H

section
variable {X : Cx} {a b c : Expr} {ta tb tc : TE} {pos : Pos}

theorem binT (ha : PE X a ta) (hb : PE X b tb) {pins : List (Addr × Obj)} {s : Shared} {σ : St} {H : Hp} {R : V → V → Hp → Prop} (I : Inv X pins σ H s)
    (h : ta σ H fun x H1 => tb σ H1 fun y H2 => R x y H2) {Q : Value → Shared → Prop} {f : Value → Value → Sem Value}
    (hf : ∀ v u s2 x y H2, Inv X pins σ H2 s2 → RelV x v → RelV y u → R x y H2 → wpAny (model X.prog X.w) X.A (f v u) Q X.xe s2) :
    wpAny (model X.prog X.w) X.A (eval a X.env) (fun v s₁ => wpAny (model X.prog X.w) X.A (eval b X.env) (fun u s₂ => wpAny (model X.prog X.w) X.A (f v u) Q X.xe s₂) X.xe s₁) X.xe s := by
  refine thn (ha pins s σ H _ I h) fun v s1 ⟨x, H1, I1, r1, q1⟩ => ?_
  refine thn (hb pins s1 σ H1 _ I1 q1) fun u s2 ⟨y, H2, I2, r2, q2⟩ => ?_
  exact hf v u s2 x y H2 I2 r1 r2 q2

theorem pe_op {op : Operator} {r : R2} (ho : OpR X (binaryOp op) r) (ha : PE X a ta) (hb : PE X b tb) : PE X (.BinOp a op b pos) (tOp r ta tb) := by
  intro pins s σ H Q I h
  exact wpAny_BinOp (binT ha hb I h fun v u s2 x y H2 I2 rx ry q => ho pins s2 σ H2 x y v u Q I2 rx ry q)
theorem pe_un {op : UnaryOp} {r : V → Hp → VK → Prop} (ho : UnR X (unaryOp op) r) (ha : PE X a ta) : PE X (.UnaryOp op a pos) (tUn r ta) := by
  intro pins s σ H Q I h
  exact UnaryOp_ (thn (ha pins s σ H _ I h) fun v s1 ⟨x, H1, I1, r1, q1⟩ => ho pins s1 σ H1 x v Q I1 r1 q1)
/-! ### ints -/
theorem opI {f : Value → Value → Sem Value} {C : Int → Int → Prop} {g : Int → Int → Int}
    (rule : ∀ (i j : Int) (t u : Tok) (s : Shared) (Q : Value → Shared → Prop) (E : Value → Shared → Prop), C i j → Q (.int (g i j) s.toks) { s with toks := s.toks + 1 } → wpAny (model X.prog X.w) X.A (f (.int i t) (.int j u)) Q E s) :
    OpR X f (rI C fun i j => .int (g i j)) := by
  intro pins s σ H x y v u Q I rx ry h
  obtain ⟨i, j, rfl, rfl, hc, q⟩ := h
  obtain ⟨t, rfl⟩ := rx
  obtain ⟨t', rfl⟩ := ry
  exact rule i j t t' s _ _ hc ⟨.int (g i j), H, I.tok _, ⟨_, rfl⟩, q⟩
theorem opI0 {f : Value → Value → Sem Value} {g : Int → Int → Int}
    (rule : ∀ (i j : Int) (t u : Tok) (s : Shared) (Q : Value → Shared → Prop) (E : Value → Shared → Prop), Q (.int (g i j) s.toks) { s with toks := s.toks + 1 } → wpAny (model X.prog X.w) X.A (f (.int i t) (.int j u)) Q E s) :
    OpR X f (rI0 fun i j => .int (g i j)) := by
  intro pins s σ H x y v u Q I rx ry h
  obtain ⟨i, j, rfl, rfl, q⟩ := h
  obtain ⟨t, rfl⟩ := rx
  obtain ⟨t', rfl⟩ := ry
  exact rule i j t t' s _ _ ⟨.int (g i j), H, I.tok _, ⟨_, rfl⟩, q⟩
theorem opB0 {f : Value → Value → Sem Value} {g : Int → Int → Bool}
    (rule : ∀ (i j : Int) (t u : Tok) (s : Shared) (Q : Value → Shared → Prop) (E : Value → Shared → Prop), Q (.bool (g i j)) s → wpAny (model X.prog X.w) X.A (f (.int i t) (.int j u)) Q E s) :
    OpR X f (rI0 fun i j => .bl (g i j)) := by
  intro pins s σ H x y v u Q I rx ry h
  obtain ⟨i, j, rfl, rfl, q⟩ := h
  obtain ⟨t, rfl⟩ := rx
  obtain ⟨t', rfl⟩ := ry
  exact rule i j t t' s _ _ ⟨.bl (g i j), H, I, rfl, q⟩

def CDiv (i j : Int) : Prop := 0 < j ∧ j < 1073741824
def CPow (i j : Int) : Prop := 0 ≤ j ∧ j ≤ 1000000 ∧ i.natAbs < 2 ^ 64
def CMul (i j : Int) : Prop := (-(2 ^ 64) < i ∧ i < 2 ^ 64) ∨ (-(2 ^ 64) < j ∧ j < 2 ^ 64)
theorem CMul.ok {i j : Int} (h : CMul i j) : IntMulOk i j := by
  rcases h with ⟨h1, h2⟩ | ⟨h1, h2⟩
  · exact .of_left (intBits_le_64 h1 h2)
  · exact .of_right (intBits_le_64 h1 h2)
theorem two_pow_nn (k : Nat) : (0 : Int) ≤ 2 ^ k := by
  rw [two_pow_cast]
  exact Int.natCast_nonneg _

theorem op_add : OpR X (binaryOp .Add) (rI0 fun i j => .int (i + j)) := opI0 fun _ _ _ _ _ _ _ q => add_int q
theorem op_sub : OpR X (binaryOp .Sub) (rI0 fun i j => .int (i - j)) := opI0 fun _ _ _ _ _ _ _ q => sub_int q
theorem op_mul : OpR X (binaryOp .Mult) (rI CMul fun i j => .int (i * j)) := opI fun _ _ _ _ _ _ _ hc q => mul_int q hc.ok
/-- // by a positive divisor -/
theorem op_fdiv : OpR X (binaryOp .FloorDiv) (rI CDiv fun i j => .int (i / j)) := opI fun i j _ _ _ _ _ hc q => by
  have h1 : (0 : Int) < j := hc.1
  have h2 : j < 1073741824 := hc.2
  exact floordiv_int (by omega) (by rw [Int.fdiv_eq_ediv_of_nonneg i (by omega)]; exact q) (.inl (PyProof.noPylong_small (by omega)))
/-- % by a positive divisor of any size -/
theorem op_mod : OpR X (binaryOp .Mod) (rI (fun _ j => 0 < j) fun i j => .int (i % j)) := opI fun i j _ _ _ _ _ hc q => by
  have h1 : (0 : Int) < j := hc
  exact mod_int' (by omega) (by rw [Int.fmod_eq_emod_of_nonneg i (by omega)]; exact q)
theorem op_pow : OpR X (binaryOp .Pow) (rI CPow fun i j => .int (i ^ j.toNat)) := opI fun _ _ _ _ _ _ _ hc q => pow_int_small hc.1 hc.2.1 hc.2.2 q
theorem op_shr : OpR X (binaryOp .RShift) (rI (fun _ j => 0 ≤ j) fun i j => .int (i / 2 ^ j.toNat)) := opI fun i j _ _ _ _ _ hc q =>
  rshift_int hc (by rw [Int.fdiv_eq_ediv_of_nonneg i (two_pow_nn _)]; exact q)
theorem op_and : OpR X (binaryOp .BitAnd) (rI0 fun i j => .int (Builtin.bitAnd i j)) := opI0 fun _ _ _ _ _ _ _ q => and_int q
theorem unI {f : Value → Sem Value} {g : Int → Int}
    (rule : ∀ (i : Int) (t : Tok) (s : Shared) (Q : Value → Shared → Prop) (E : Value → Shared → Prop), Q (.int (g i) s.toks) { s with toks := s.toks + 1 } → wpAny (model X.prog X.w) X.A (f (.int i t)) Q E s) :
    UnR X f (rU fun i => .int (g i)) := by
  intro pins s σ H x v Q I rx h
  obtain ⟨i, rfl, q⟩ := h
  obtain ⟨t, rfl⟩ := rx
  exact rule i t s _ _ ⟨.int (g i), H, I.tok _, ⟨_, rfl⟩, q⟩
theorem un_neg : UnR X (unaryOp .USub) (rU fun i => .int (-i)) := unI fun _ _ _ _ _ q => neg_int q
/-! ### bools among ints: n += (a < b) -/
end

/-! ### comparisons -/
/-- the scalars that == tells apart as data does -/
def scal : V → V → Bool
  | .non, .non => true | .non, .int _ => true | .int _, .non => true | .non, .bl _ => true | .bl _, .non => true | .non, .str _ => true | .str _, .non => true
  | .int _, .int _ => true | .bl _, .bl _ => true | .str _, .str _ => true | .byt _, .byt _ => true
  | .int _, .str _ => true | .str _, .int _ => true | .bl _, .str _ => true | .str _, .bl _ => true
  | _, _ => false
def rEq : R2 := fun x y H Q => scal x y = true ∧ Q (.bl (decide (x = y))) H
def rNe : R2 := fun x y H Q => scal x y = true ∧ Q (.bl (!decide (x = y))) H

theorem dec_int {i j : Int} : decide (V.int i = V.int j) = (i == j) := by
  rw [Bool.eq_iff_iff]
  simp
theorem dec_bl {i j : Bool} : decide (V.bl i = V.bl j) = (i == j) := by
  rw [Bool.eq_iff_iff]
  simp
theorem dec_str {i j : Str} : decide (V.str i = V.str j) = (i == j) := by
  rw [Bool.eq_iff_iff]
  simp
theorem dec_byt {i j : Array UInt8} : decide (V.byt i = V.byt j) = (i.toList == j.toList) := by
  rw [Bool.eq_iff_iff]
  cases i
  cases j
  simp

section
variable {X : Cx} {a b c : Expr} {ta tb tc : TE} {pos : Pos}
theorem fin_bl {pins : List (Addr × Obj)} {σ : St} {H : Hp} {s : Shared} {Q : VK} {k k' : Bool} (I : Inv X pins σ H s) (q : Q (.bl k) H) (e : k = k') : EP X pins σ Q (.bool k') s := by
  subst e
  exact ⟨.bl k, H, I, rfl, q⟩
theorem op_eq : OpR X (compareOp .Eq) rEq := by
  intro pins s σ H x y v u Q I rx ry h
  obtain ⟨hs, q⟩ := h
  cases x with
  | non =>
    cases rx
    cases y with
    | non => cases ry; exact PySem.EqNone.eq_none_none (fin_bl I q (by simp))
    | bl j => cases ry; exact PySem.EqNone.eq_none_bool (fin_bl I q (by simp))
    | int j => obtain ⟨t', rfl⟩ := ry; exact PySem.EqNone.eq_none_int (fin_bl I q (by simp))
    | str j => obtain ⟨t', rfl⟩ := ry; exact PySem.EqNone.eq_none_str (fin_bl I q (by simp))
    | _ => exact absurd (show false = true from hs) Bool.false_ne_true
  | bl i =>
    cases rx
    cases y with
    | non => cases ry; exact PySem.EqNone.eq_bool_none (fin_bl I q (by simp))
    | bl j => cases ry; exact eq_bool (fin_bl I q dec_bl)
    | str j => obtain ⟨t', rfl⟩ := ry; exact PySem.EqMixed.eq_bool_str (fin_bl I q (by simp))
    | _ => exact absurd (show false = true from hs) Bool.false_ne_true
  | int i =>
    obtain ⟨t, rfl⟩ := rx
    cases y with
    | non => cases ry; exact PySem.EqNone.eq_int_none (fin_bl I q (by simp))
    | int j => obtain ⟨t', rfl⟩ := ry; exact eq_int (fin_bl I q dec_int)
    | str j => obtain ⟨t', rfl⟩ := ry; exact PySem.EqMixed.eq_int_str (fin_bl I q (by simp))
    | _ => exact absurd (show false = true from hs) Bool.false_ne_true
  | str i =>
    obtain ⟨t, rfl⟩ := rx
    cases y with
    | non => cases ry; exact PySem.EqNone.eq_str_none (fin_bl I q (by simp))
    | bl j => cases ry; exact PySem.EqMixed.eq_str_bool (fin_bl I q (by simp))
    | int j => obtain ⟨t', rfl⟩ := ry; exact PySem.EqMixed.eq_str_int (fin_bl I q (by simp))
    | str j => obtain ⟨t', rfl⟩ := ry; exact eq_str (fin_bl I q dec_str)
    | _ => exact absurd (show false = true from hs) Bool.false_ne_true
  | byt i =>
    obtain ⟨t, rfl⟩ := rx
    cases y with
    | byt j => obtain ⟨t', rfl⟩ := ry; exact PySem.W.eq_bytes (fin_bl I q dec_byt)
    | _ => exact absurd (show false = true from hs) Bool.false_ne_true
  | _ => cases y <;> exact absurd (show false = true from hs) Bool.false_ne_true
theorem op_ne : OpR X (compareOp .NotEq) rNe := by
  intro pins s σ H x y v u Q I rx ry h
  obtain ⟨hs, q⟩ := h
  cases x with
  | non =>
    cases rx
    cases y with
    | non => cases ry; exact PySem.EqNone.ne_none_none (fin_bl I q (by simp))
    | bl j => cases ry; exact PySem.EqNone.ne_none_bool (fin_bl I q (by simp))
    | int j => obtain ⟨t', rfl⟩ := ry; exact PySem.EqNone.ne_none_int (fin_bl I q (by simp))
    | str j => obtain ⟨t', rfl⟩ := ry; exact PySem.EqNone.ne_none_str (fin_bl I q (by simp))
    | _ => exact absurd (show false = true from hs) Bool.false_ne_true
  | bl i =>
    cases rx
    cases y with
    | non => cases ry; exact PySem.EqNone.ne_bool_none (fin_bl I q (by simp))
    | bl j => cases ry; exact ne_bool (fin_bl I q (congrArg not dec_bl))
    | str j => obtain ⟨t', rfl⟩ := ry; exact PySem.EqMixed.ne_bool_str (fin_bl I q (by simp))
    | _ => exact absurd (show false = true from hs) Bool.false_ne_true
  | int i =>
    obtain ⟨t, rfl⟩ := rx
    cases y with
    | non => cases ry; exact PySem.EqNone.ne_int_none (fin_bl I q (by simp))
    | int j => obtain ⟨t', rfl⟩ := ry; exact ne_int (fin_bl I q (congrArg not dec_int))
    | str j => obtain ⟨t', rfl⟩ := ry; exact PySem.EqMixed.ne_int_str (fin_bl I q (by simp))
    | _ => exact absurd (show false = true from hs) Bool.false_ne_true
  | str i =>
    obtain ⟨t, rfl⟩ := rx
    cases y with
    | non => cases ry; exact PySem.EqNone.ne_str_none (fin_bl I q (by simp))
    | bl j => cases ry; exact PySem.EqMixed.ne_str_bool (fin_bl I q (by simp))
    | int j => obtain ⟨t', rfl⟩ := ry; exact PySem.EqMixed.ne_str_int (fin_bl I q (by simp))
    | str j => obtain ⟨t', rfl⟩ := ry; exact ne_str (fin_bl I q (congrArg not dec_str))
    | _ => exact absurd (show false = true from hs) Bool.false_ne_true
  | byt i =>
    obtain ⟨t, rfl⟩ := rx
    cases y with
    | byt j => obtain ⟨t', rfl⟩ := ry; exact PySem.W.ne_bytes (fin_bl I q (congrArg not dec_byt))
    | _ => exact absurd (show false = true from hs) Bool.false_ne_true
  | _ => cases y <;> exact absurd (show false = true from hs) Bool.false_ne_true

theorem op_lt : OpR X (compareOp .Lt) (rI0 fun i j => .bl (decide (i < j))) := opB0 fun _ _ _ _ _ _ _ q => lt_int q
theorem op_le : OpR X (compareOp .LtE) (rI0 fun i j => .bl (decide (i ≤ j))) := opB0 fun _ _ _ _ _ _ _ q => le_int q
theorem op_gt : OpR X (compareOp .Gt) (rI0 fun i j => .bl (decide (j < i))) := opB0 fun _ _ _ _ _ _ _ q => gt_int q
theorem op_ge : OpR X (compareOp .GtE) (rI0 fun i j => .bl (decide (j ≤ i))) := opB0 fun _ _ _ _ _ _ _ q => ge_int q
/-- is None, is not None: the right side a value none -/
theorem op_isN : OpR X (compareOp .Is) (fun x y H Q => y = .non ∧ Q (.bl (decide (x = .non))) H) := by
  intro pins s σ H x y v u Q I rx ry h
  obtain ⟨rfl, q⟩ := h
  cases ry
  refine is_none_gen (fin_bl I q ?_)
  cases x <;> first
    | (cases rx; rfl)
    | (obtain ⟨t, rfl⟩ := rx; rfl)
/-- two rules for one operation: by cases -/
theorem OpR.or {f : Value → Value → Sem Value} {r r' : R2} (h : OpR X f r) (h' : OpR X f r') : OpR X f (fun x y H Q => r x y H Q ∨ r' x y H Q) := by
  intro pins s σ H x y v u Q I rx ry q
  rcases q with q | q
  · exact h pins s σ H x y v u Q I rx ry q
  · exact h' pins s σ H x y v u Q I rx ry q

theorem nomark (b : Expr) {op : CmpOp} (h : op ≠ .In := by decide) (h2 : op ≠ .NotIn := by decide) : behindInMarks op b = false := by
  have e1 : (op == CmpOp.In) = false := by cases op <;> first | rfl | exact absurd rfl h
  have e2 : (op == CmpOp.NotIn) = false := by cases op <;> first | rfl | exact absurd rfl h2
  cases b <;> simp [behindInMarks, e1, e2]
/-- a comparison as a value; hm: nomark b, or (for in, not in) by with_unfolding_all rfl -/
theorem pe_cmpR {op : CmpOp} {r : R2} (ho : OpR X (compareOp op) r) (ha : PE X a ta) (hb : PE X b tb) (hm : behindInMarks op b = false) : PE X (.Compare a [op] [b] pos) (tOp r ta tb) := by
  intro pins s σ H Q I h
  exact wpAny_Compare1 (binT ha hb I h fun v u s2 x y H2 I2 rx ry q => ho pins s2 σ H2 x y v u Q I2 rx ry q) hm
/-- a reading of a value as a test -/
def tTest (t : TE) : TT := fun σ H Q => t σ H fun x H' => ∃ k, x = .bl k ∧ Q k H'
theorem pt_cmpR {op : CmpOp} {r : R2} (ho : OpR X (compareOp op) r) (ha : PE X a ta) (hb : PE X b tb) (hm : behindInMarks op b = false) : PT X (.Compare a [op] [b] pos) (tTest (tOp r ta tb)) := by
  intro pins s σ H Q I h
  refine wpAny_isTrue_Compare1 (thn (ha pins s σ H _ I h) fun v s1 ⟨x, H1, I1, r1, q1⟩ => thn (hb pins s1 σ H1 _ I1 q1) fun u s2 ⟨y, H2, I2, r2, q2⟩ =>
    thn (ho pins s2 σ H2 x y v u _ I2 r1 r2 q2) fun c s3 ⟨z, H3, I3, r3, k, e, q3⟩ => ?_) hm
  subst e
  cases r3
  exact wpAny_truthy_bool ⟨H3, I3, q3⟩
/-- a op1 b op2 c -/
def tChain (r r' : R2) (ta tb tc : TE) : TE := fun σ H Q => ta σ H fun x H1 => tb σ H1 fun y H2 => r x y H2 fun z H3 => ∃ k, z = .bl k ∧
  (if k = true then tc σ H3 fun w' H4 => r' y w' H4 Q else Q (.bl false) H3)
theorem pt_chain {op op' : CmpOp} {r r' : R2} (ho : OpR X (compareOp op) r) (ho' : OpR X (compareOp op') r') (ha : PE X a ta) (hb : PE X b tb) (hc : PE X c tc)
    (hm : lastMarks [op, op'] [b, c] = false := by with_unfolding_all rfl) : PT X (.Compare a [op, op'] [b, c] pos) (tTest (tChain r r' ta tb tc)) := by
  intro pins s σ H Q I h
  refine isTrue_chain (thn (ha pins s σ H _ I h) fun v s1 ⟨x, H1, I1, r1, q1⟩ => test_link (thn (hb pins s1 σ H1 _ I1 q1) fun u s2 ⟨y, H2, I2, r2, q2⟩ =>
    thn (ho pins s2 σ H2 x y v u _ I2 r1 r2 q2) fun d s3 ⟨z, H3, I3, r3, k, e, q3⟩ => ?_)) hm
  subst e
  cases r3
  refine wpAny_truthy_bool ?_
  cases k with
  | false =>
    obtain ⟨k', e', q'⟩ := q3
    cases e'
    exact ite_ff ⟨H3, I3, q'⟩
  | true =>
    refine ite_tt (test_last (thn (hc pins s3 σ H3 _ I3 q3) fun w' s4 ⟨z', H4, I4, r4, q4⟩ => thn (ho' pins s4 σ H4 y z' u w' _ I4 r2 r4 q4) fun d' s5 ⟨z2, H5, I5, r5, k2, e2, q5⟩ => ?_))
    subst e2
    cases r5
    exact wpAny_truthy_bool ⟨H5, I5, q5⟩

/-! ### truth -/
/-- a value's truth by the abstract heap -/
def TruV (K : PySem.W.Frag) (x : V) (H : Hp) (k : Bool) : Prop :=
  match x with
  | .non => k = false
  | .bl b => k = b
  | .int i => k = (i != 0)
  | .str y => y.length ≤ sizeLine ∧ k = ((y.length : Int) != 0)
  | .byt y => y.size ≤ sizeLine ∧ k = ((y.size : Int) != 0)
  | .ref p => (∃ xs, SqL K H p xs ∧ k = !xs.isEmpty) ∨ (∃ xs, SqT K H p xs ∧ k = !xs.isEmpty) ∨ ∃ kvs, H p = some (.dK kvs) ∧ k = !kvs.isEmpty
  | _ => False
theorem isEmpty_kv {κ : Type} {kvs : List (κ × V)} {vs : List (κ × Value)} (r : KV kvs vs) : (!vs.isEmpty) = !kvs.isEmpty := by
  cases r <;> rfl
theorem isEmpty_of {xs : List V} {its : List Value} (r : Vals xs its) : (!its.toArray.isEmpty) = !xs.isEmpty := by
  cases r <;> simp
theorem line63 : (sizeLine : Nat) < 2 ^ 63 := by rw [sizeLine_eq]; decide
theorem tru_ok : TruR X (fun x H Q => ∃ k, TruV X.K x H k ∧ Q k H) := by
  intro pins s σ H x v Q I rx h
  obtain ⟨k, e, q⟩ := h
  have hl := line63
  have hs : sizeLine = 16777216 := sizeLine_eq
  cases x with
  | non =>
    cases rx
    have e' : k = false := e
    subst e'
    exact truthy_none ⟨H, I, q⟩
  | bl b =>
    cases rx
    have e' : k = b := e
    subst e'
    exact wpAny_truthy_bool ⟨H, I, q⟩
  | int i =>
    obtain ⟨t, rfl⟩ := rx
    have e' : k = (i != 0) := e
    subst e'
    exact PySem.P.truthy_int ⟨H, I, q⟩
  | str y =>
    obtain ⟨t, rfl⟩ := rx
    obtain ⟨hy, e'⟩ : y.length ≤ sizeLine ∧ k = ((y.length : Int) != 0) := e
    subst e'
    exact PySem.P.truthy_str (by omega) ⟨H, I.tok _, q⟩
  | byt y =>
    obtain ⟨t, rfl⟩ := rx
    obtain ⟨hy, e'⟩ : y.size ≤ sizeLine ∧ k = ((y.size : Int) != 0) := e
    subst e'
    exact PySem.W.truthy_bytes (by omega) ⟨H, I.tok _, q⟩
  | ref p =>
    cases rx
    have e' : (∃ xs, SqL X.K H p xs ∧ k = !xs.isEmpty) ∨ (∃ xs, SqT X.K H p xs ∧ k = !xs.isEmpty) ∨ ∃ kvs, H p = some (.dK kvs) ∧ k = !kvs.isEmpty := e
    rcases e' with ⟨xs, hx, e'⟩ | ⟨xs, hx, e'⟩ | ⟨kvs, hx, e'⟩
    · subst e'
      obtain ⟨its, r, pl, hz⟩ := I.list hx
      have hlen := r.length
      exact wpAny_truthy_list pl.isList (by simp only [List.size_toArray]; omega) ⟨H, I.tok _, by rw [isEmpty_of r]; exact q⟩
    · subst e'
      obtain ⟨its, r, pl, hz⟩ := I.tuple hx
      have hlen := r.length
      exact truthy_tuple pl (by simp only [List.size_toArray]; omega) ⟨H, I.tok _, by rw [isEmpty_of r]; exact q⟩
    · subst e'
      obtain ⟨hz, hS, vs, r, m⟩ : kvs.length ≤ sizeLine ∧ (p == sysModules) = false ∧ ∃ vs, KV kvs vs ∧ s.heap.DictOf (mixKind X.prog X.w) p vs := I.hok p _ hx
      have hlen : kvs.length = vs.length := Paired.length r
      exact wpAny_truthy_dict hS m (by omega) ⟨H, I.tok _, by rw [isEmpty_kv r]; exact q⟩
  | _ => exact (show False from e).elim
/-! ### strs and bytes -/
/-! ### scalar builtins, by CallR -/
theorem vals1 {x : V} {us : List Value} (r : Vals [x] us) : ∃ u, us = [u] ∧ RelV x u := by
  cases r with
  | cons r1 r2 => cases r2; exact ⟨_, rfl, r1⟩
theorem vals2 {x y : V} {us : List Value} (r : Vals [x, y] us) : ∃ u w', us = [u, w'] ∧ RelV x u ∧ RelV y w' := by
  cases r with
  | cons r1 r2 =>
    cases r2 with
    | cons r3 r4 => cases r4; exact ⟨_, _, rfl, r1, r3⟩
theorem call_abs : CallR X (.builtin "abs") (fun xs H Q => ∃ i, xs = [.int i] ∧ Q (.int (if i < 0 then -i else i)) H) := by
  intro pins s σ H xs us Q I r h
  obtain ⟨i, rfl, q⟩ := h
  obtain ⟨u, rfl, t, rfl⟩ := vals1 r
  exact call_abs_int fun u tk => ⟨.int (if i < 0 then -i else i), H, I.tok _, ⟨_, rfl⟩, q⟩
theorem call_max2 (hc : X.calm = true) : CallR X (.builtin "max") (fun xs H Q => ∃ i j, xs = [.int i, .int j] ∧ Q (.int (if j > i then j else i)) H) := by
  intro pins s σ H xs us Q I r h
  obtain ⟨i, j, rfl, q⟩ := h
  obtain ⟨u, w', rfl, ⟨t, rfl⟩, ⟨t', rfl⟩⟩ := vals2 r
  refine max_two_ints (I.ok.hd hc) fun h' tk k => ⟨_, H, I.kept k, ?_, q⟩
  by_cases hj : j > i
  · rw [if_pos hj, if_pos hj]; exact ⟨_, rfl⟩
  · rw [if_neg hj, if_neg hj]; exact ⟨_, rfl⟩
theorem call_min2 (hc : X.calm = true) : CallR X (.builtin "min") (fun xs H Q => ∃ i j, xs = [.int i, .int j] ∧ Q (.int (if j < i then j else i)) H) := by
  intro pins s σ H xs us Q I r h
  obtain ⟨i, j, rfl, q⟩ := h
  obtain ⟨u, w', rfl, ⟨t, rfl⟩, ⟨t', rfl⟩⟩ := vals2 r
  refine min_two_ints (I.ok.hd hc) fun h' tk k => ⟨_, H, I.kept k, ?_, q⟩
  by_cases hj : j < i
  · rw [if_pos hj, if_pos hj]; exact ⟨_, rfl⟩
  · rw [if_neg hj, if_neg hj]; exact ⟨_, rfl⟩
end
end L2

namespace L2
open PySem PySem.Spec PyProof.Rows

/-! ### an instance, its attributes a map -/
structure ObjM (h : Heap) (x dx C : Addr) (mA : Str → Option Value) : Prop where
  obj : h.get? x = some (PySem.W.instObj C dx)
  ns : h.Ns1 dx mA
  ne : dx ≠ x

theorem lookIn_ns {h : Heap} {dx : Addr} {mA : Str → Option Value} (n : h.Ns1 dx mA) : ∃ od, h.get? dx = some od ∧ ∀ name, PySem.W.lookIn name od = some (mA name) := by
  obtain ⟨o, es, ep, ho, hd, hk, _, hm⟩ := n
  refine ⟨o, ho, fun name => ?_⟩
  have e := hm name
  unfold nsFind findBy at e
  rw [← Array.find?_toList] at e
  unfold PySem.W.lookIn
  rw [hd]
  dsimp only
  split
  · rename_i y q
    rw [q] at e
    exact congrArg some e
  · rename_i q
    rw [q] at e
    have a : es.toList.any (·.refKey) = false := by
      rw [List.any_eq_false]
      intro y hy
      obtain ⟨z, t, hkey⟩ := hk y (Array.mem_toList_iff.mp hy)
      simp [DictEntry.refKey, hkey]
    have a' : ¬ es.toList.any (·.refKey) = true := by rw [a]; exact Bool.false_ne_true
    rw [if_neg a']
    exact congrArg some e

theorem ObjM.look {h : Heap} {x dx C : Addr} {mA : Str → Option Value} (I : ObjM h x dx C mA) : ∃ od, PySem.W.InstAt h x (PySem.W.instObj C dx) C (some od) ∧ ∀ name, PySem.W.lookIn name od = some (mA name) :=
  let ⟨od, ho, hl⟩ := lookIn_ns I.ns
  ⟨od, ⟨I.obj, rfl, rfl, ho⟩, hl⟩

section
variable {prog : Program} {w : World} {A : Around} {E : Value → Shared → Prop} {s : Shared} {K : PySem.W.Frag} {x dx C f : Addr} {mA : Str → Option Value} {name : Str} {v : Value}

theorem get_map {expr : Bool} {Q : Value → Shared → Prop} (X : K.In s.heap) (I : ObjM s.heap x dx C mA) (hg : PySem.W.plainGet K C name = true) (hh : PySem.W.hasDictIn K C = true)
    (ha : PySem.W.findIn K (.ref C) name = some none) (hv : mA name = some v) (hv' : PySem.W.handedIn v = true) (h : Q v { s with toks := s.toks + 1 }) :
    wpAny (model prog w) A (getAttr (.ref x) name expr) Q E s := by
  obtain ⟨od, J, hl⟩ := I.look
  exact PySem.W.get_value X J (PySem.W.plainGet_of hg).1 (PySem.W.findObj_own hh ha rfl (by rw [hl, hv])) hv' h

theorem get_meth {pl : Sem Bool} {Q : Value × List Value → Shared → Prop} (X : K.In s.heap) (I : ObjM s.heap x dx C mA) (hg : PySem.W.plainGet K C name = true)
    (hf : PySem.W.findIn K (.ref C) name = some (some (.ref f))) (ht : PySem.W.isFn K (.ref f) = true) (hv : mA name = none) (h : Q (.ref f, [.ref x]) s) :
    wpAny (model prog w) A (getMethod (.ref x) name pl) Q E s := by
  obtain ⟨od, J, hl⟩ := I.look
  exact PySem.W.method_fn X J (PySem.W.plainGet_of hg).1 (PySem.W.plainGet_of hg).2 hf (beq_iff_eq.mp ht) (by show (PySem.W.lookIn name od).map (·.isSome) = some false; rw [hl, hv]; rfl) h

theorem set_map {ns : List Str} {Q : Unit → Shared → Prop} (X : K.In s.heap) (I : ObjM s.heap x dx C mA)
    (hs : PySem.W.findIn K (.ref C) "__setattr__" = some (some (.builtin "object.__setattr__"))) (hp : PySem.W.plainOver K C = true) (ht : PySem.W.takerIn K C name = some none) (hh : PySem.W.hasDictIn K C = true)
    (hw : PySem.Within mA ns) (hsz : ns.length ≤ sizeLine)
    (h : ∀ h', ObjM h' x dx C (fun y => if y = name then some v else mA y) → Heap.SameBut dx s.heap h' → Q () { s with heap := h', toks := s.toks + 2 }) :
    wpAny (model prog w) A (setAttr (.ref x) name v) Q E s := by
  obtain ⟨od, J, hl⟩ := I.look
  refine PySem.W.set_plain X J hs (PySem.W.osa_open (s := { s with toks := s.toks + 1 }) (r := none) X J hp ht fun b => ?_)
  obtain ⟨cd, hc, hd'⟩ := PySem.W.any_some hh
  have hx : s.heap.get? x = some ⟨.ref C, some dx, .plain, #[]⟩ := I.obj
  refine wpAny_bind (wpAny_pure (wpAny_bind (wpAny_bind (wpAny_loadPart hx (wpAny_bind (PySem.W.Looks.here (s := { s with toks := s.toks + 1 }) (PySem.W.looks_clsIn X hc) ?_))))))
  rw [hd']
  refine wpAny_pure (a := some dx) (wpAny_bind (wpAny_pure (wpAny_bind ?_)))
  refine wpAny_nsSet1 (s := { s with toks := s.toks + 1 }) I.ns fun h' hn2 hs2 => ?_
  obtain ⟨oD, esD, epD, hoD, hdD, hcD⟩ := hn2.count (PySem.Within.cons name v hw)
  refine wpAny_bind (wpAny_lookBehind hoD (by rw [hdD]; exact pastItsLine_dict (Nat.le_trans hcD (by rw [List.length_cons]; omega))) ?_)
  exact wpAny_pure (h _ ⟨(hs2.2 _ (Ne.symm I.ne)).trans I.obj, hn2, I.ne⟩ hs2)

/-- C(..): the dict at the heap's end, the instance behind it; then its __init__ -/
theorem make_map {R : Result → Shared → Prop} {vs : List Value} {kw : List (Str × Value)} (X : K.In s.heap) (hm : PySem.W.makesIn K C = true)
    (hi : PySem.W.findIn K (.ref C) "__init__" = some (some (.ref f))) (hf : PySem.W.typeIn K (.ref f) = some (.type "function"))
    (h : codeAny (model prog w) (A.under (.builtin "type.__call__" ⟨.ref C :: vs, kw⟩)) (.call (.ref f) ⟨.ref (s.heap.objs.size + 1) :: vs, kw⟩) (PySem.W.InitBack (s.heap.objs.size + 1) R)
      { s with heap := (s.heap.push PySem.W.emptyDict).push (PySem.W.instObj C s.heap.objs.size) }) :
    codeAny (model prog w) A (.call (.ref C) ⟨vs, kw⟩) R s := by
  obtain ⟨hh, g, d, t, os⟩ := s
  exact PySem.W.make_core (PySem.W.makes_of X hm) (PySem.W.looks_findIn X hi) (fun self => PySem.W.bind_fn X self hf) (.inl rfl) h
end

/-! ### the attributes as a list of pairs -/
def putF (f : Str) (v : V) : List (Str × V) → List (Str × V)
  | [] => [(f, v)]
  | (g, x) :: r => if g = f then (g, v) :: r else (g, x) :: putF f v r
theorem lookup_putF (f g : Str) (v : V) : ∀ fs : List (Str × V), (putF f v fs).lookup g = if g = f then some v else fs.lookup g
  | [] => by
    show List.lookup g [(f, v)] = _
    by_cases h : g = f
    · have hb : (g == f) = true := beq_iff_eq.mpr h
      simp only [List.lookup, hb, if_pos h]
    · have hb : (g == f) = false := beq_eq_false_iff_ne.mpr h
      simp only [List.lookup, hb, if_neg h]
  | (k, x) :: r => by
    have ih := lookup_putF f g v r
    rw [show putF f v ((k, x) :: r) = (if k = f then (k, v) :: r else (k, x) :: putF f v r) from rfl]
    by_cases hk : k = f
    · rw [if_pos hk]
      by_cases h : g = k
      · have hb : (g == k) = true := beq_iff_eq.mpr h
        simp only [List.lookup, hb, if_pos (h.trans hk)]
      · have hb : (g == k) = false := beq_eq_false_iff_ne.mpr h
        simp only [List.lookup, hb, if_neg (fun e : g = f => h (e.trans hk.symm))]
    · rw [if_neg hk]
      by_cases h : g = k
      · have hb : (g == k) = true := beq_iff_eq.mpr h
        simp only [List.lookup, hb, if_neg (fun e : g = f => hk (h.symm.trans e))]
      · have hb : (g == k) = false := beq_eq_false_iff_ne.mpr h
        simp only [List.lookup, hb]
        exact ih
theorem keys_putF (f : Str) (v : V) : ∀ fs : List (Str × V), f ∈ (putF f v fs).map (·.1) ∧ ∀ g, g ∈ fs.map (·.1) → g ∈ (putF f v fs).map (·.1)
  | [] => ⟨by simp [putF], fun g h => by simp at h⟩
  | (k, x) :: r => by
    obtain ⟨i1, i2⟩ := keys_putF f v r
    rw [show putF f v ((k, x) :: r) = (if k = f then (k, v) :: r else (k, x) :: putF f v r) from rfl]
    by_cases hk : k = f
    · rw [if_pos hk]
      subst hk
      exact ⟨by simp, fun g h => by simpa using h⟩
    · rw [if_neg hk]
      refine ⟨?_, fun g h => ?_⟩
      · rw [List.map_cons]
        exact List.mem_cons_of_mem _ i1
      · rw [List.map_cons] at h ⊢
        rcases List.mem_cons.mp h with e | e
        · exact List.mem_cons.mpr (.inl e)
        · exact List.mem_cons_of_mem _ (i2 g e)
theorem length_putF (f : Str) (v : V) : ∀ fs : List (Str × V), (putF f v fs).length ≤ fs.length + 1
  | [] => by simp [putF]
  | (k, x) :: r => by
    have ih := length_putF f v r
    rw [show putF f v ((k, x) :: r) = (if k = f then (k, v) :: r else (k, x) :: putF f v r) from rfl]
    by_cases hk : k = f
    · rw [if_pos hk, List.length_cons, List.length_cons]; omega
    · rw [if_neg hk, List.length_cons, List.length_cons]; omega

theorem RelO.some_of {v : V} {o : Option Value} (r : RelO (some v) o) : ∃ u, o = some u ∧ RelV v u := by
  cases o with
  | none => exact (show False from r).elim
  | some u => exact ⟨u, rfl, r⟩
theorem RelO.none_of {o : Option Value} (r : RelO none o) : o = none := by
  cases o with
  | none => rfl
  | some u => exact (show False from r).elim
theorem handed_of {v : V} {u : Value} (r : RelV v u) : PySem.W.handedIn u = true := by
  cases v with
  | non => cases (show u = Value.none from r); rfl
  | bl b => cases (show u = Value.bool b from r); rfl
  | int i => obtain ⟨t, e⟩ := (show ∃ t, u = Value.int i t from r); cases e; rfl
  | str x => obtain ⟨t, e⟩ := (show ∃ t, u = Value.str x t from r); cases e; rfl
  | byt b => obtain ⟨t, e⟩ := (show ∃ t, u = Value.bytes b t from r); cases e; rfl
  | flt b => obtain ⟨t, e⟩ := (show ∃ t, u = Value.float b t from r); cases e; rfl
  | ref a => cases (show u = Value.ref a from r); rfl
  | ty n => cases (show u = Value.type n from r); rfl

section
variable {P : Program} {w : World} {H H' : Hp} {h h' : Heap} {a C dx : Addr} {fs fs' : List (Str × V)}
theorem ins_get (hok : HOk P w H h) (e : H a = some (.ins C dx fs)) : ∃ mA, ObjM h a dx C mA ∧ (∀ f, RelO (fs.lookup f) (mA f)) ∧ PySem.Within mA (fs.map (·.1)) ∧ fs.length ≤ 1000 ∧ H dx = some (.own a) := by
  obtain ⟨d, z, ne, ob, mA, n, r, q⟩ := (show ObjOk P w H h a (.ins C dx fs) from hok a _ e)
  exact ⟨mA, ⟨ob, n, ne⟩, r, q, z, d⟩
end

/-! ### what of the text a class must have -/
structure Cls (K : PySem.W.Frag) (C : Addr) : Prop where
  pg : PySem.W.plainGet K C Str.empty = true
  hd : PySem.W.hasDictIn K C = true
  po : PySem.W.plainOver K C = true
  sa : PySem.W.findIn K (.ref C) "__setattr__" = some (some (.builtin "object.__setattr__"))
theorem Cls.get {K : PySem.W.Frag} {C : Addr} (c : Cls K C) (f : Str) : PySem.W.plainGet K C f = true := c.pg
/-- no class of it has the name -/
def NoAttr (K : PySem.W.Frag) (C : Addr) (f : Str) : Prop := PySem.W.findIn K (.ref C) f = some none
theorem NoAttr.taker {K : PySem.W.Frag} {C : Addr} {f : Str} (n : NoAttr K C f) : PySem.W.takerIn K C f = some none := by
  unfold PySem.W.takerIn
  rw [show PySem.W.findIn K (.ref C) f = some none from n]
  rfl
/-- a constant of the class -/
structure Con (K : PySem.W.Frag) (C : Addr) (f : Str) (v : V) (u : Value) : Prop where
  at_ : PySem.W.findIn K (.ref C) f = some (some u)
  rel : RelV v u
  get : PySem.W.specialIn K u "__get__" = some none
  cp : PySem.W.copiedNames.contains f = false
/-- a method: a plain def of the class or of one above it -/
structure Meth (K : PySem.W.Frag) (C : Addr) (m : Str) (f : Addr) : Prop where
  at_ : PySem.W.findIn K (.ref C) m = some (some (.ref f))
  fn : PySem.W.isFn K (.ref f) = true
  kp : PySem.W.keepIn K (.ref f) = true

section
variable {X : Cx} {pins : List (Addr × Obj)} {σ : St} {H : Hp} {s : Shared} {a C dx : Addr} {fs : List (Str × V)} {f : Str} {v : V} {A : Around} {E : Value → Shared → Prop}

theorem getattr_ok {b : Bool} {Q : Value → Shared → Prop} (I : Inv X pins σ H s) (e : H a = some (.ins C dx fs)) (c : Cls X.K C) (n : NoAttr X.K C f) (l : fs.lookup f = some v)
    (h : ∀ u s', Inv X pins σ H s' → RelV v u → Q u s') : wpAny (model X.prog X.w) A (getAttr (.ref a) f b) Q E s := by
  obtain ⟨mA, O, r, _, _, _⟩ := ins_get I.hok e
  obtain ⟨u, hu, ru⟩ := RelO.some_of (v := v) (o := mA f) (by rw [← l]; exact r f)
  exact get_map I.kIn O (c.get f) c.hd n hu (handed_of ru) (h u _ (I.tok _) ru)

theorem getmeth_ok {m : Str} {g : Addr} {pl : Sem Bool} {Q : Value × List Value → Shared → Prop} (I : Inv X pins σ H s) (e : H a = some (.ins C dx fs)) (c : Cls X.K C) (k : Meth X.K C m g) (l : fs.lookup m = none)
    (h : Q (.ref g, [.ref a]) s) : wpAny (model X.prog X.w) A (getMethod (.ref a) m pl) Q E s := by
  obtain ⟨mA, O, r, _, _, _⟩ := ins_get I.hok e
  have hn : mA m = none := RelO.none_of (by rw [← l]; exact r m)
  exact get_meth I.kIn O (c.get m) k.at_ k.fn hn h

theorem setattr_ok {y : V} {u : Value} {Q : Unit → Shared → Prop} (I : Inv X pins σ H s) (e : H a = some (.ins C dx fs)) (c : Cls X.K C) (n : NoAttr X.K C f) (hl : fs.length < 1000) (ry : RelV y u)
    (h : ∀ s', Inv X pins σ (upd H a (.ins C dx (putF f y fs))) s' → Q () s') : wpAny (model X.prog X.w) A (setAttr (.ref a) f u) Q E s := by
  obtain ⟨mA, O, r, wi, _, ho⟩ := ins_get I.hok e
  have hz : (fs.map (·.1)).length ≤ sizeLine := by rw [List.length_map, sizeLine_eq]; omega
  refine set_map I.kIn O c.sa c.po n.taker c.hd wi hz fun h' O' sb => h _ ?_
  have hd : ∃ o, h'.get? dx = some o := let ⟨o, _, _, e', _⟩ := O'.ns; ⟨o, e'⟩
  refine I.write (x := a) (e := dx) (by rw [e]; exact True.intro) (.inr ho) (fun b q hb z => (sb.2 b hb).trans z) hd ?_
  refine ⟨by rw [upd_ne O.ne]; exact ho, ?_, O.ne, O'.obj, _, O'.ns, fun g => ?_, fun g hg => ?_⟩
  · have := length_putF f y fs; omega
  · show RelO ((putF f y fs).lookup g) (if g = f then some u else mA g)
    rw [lookup_putF]
    by_cases q : g = f
    · rw [if_pos q, if_pos q]; exact ry
    · rw [if_neg q, if_neg q]; exact r g
  · by_cases q : g = f
    · rw [q]; exact (keys_putF f y fs).1
    · refine (keys_putF f y fs).2 g (wi g fun z => hg ?_)
      show (if g = f then some u else mA g) = none
      rw [if_neg q]; exact z

/-- a new instance, tracked, without attributes -/
theorem Inv.made (I : Inv X pins σ H s) : Inv X pins σ (upd (upd H s.heap.objs.size (.own (s.heap.objs.size + 1))) (s.heap.objs.size + 1) (.ins C s.heap.objs.size []))
    { s with heap := (s.heap.push PySem.W.emptyDict).push (PySem.W.instObj C s.heap.objs.size) } := by
  have e1 : (s.heap.push PySem.W.emptyDict).get? s.heap.objs.size = some PySem.W.emptyDict := Heap.get?_push_size s.heap rfl
  have e2 : ((s.heap.push PySem.W.emptyDict).push (PySem.W.instObj C s.heap.objs.size)).get? (s.heap.objs.size + 1) = some (PySem.W.instObj C s.heap.objs.size) := by
    have := Heap.get?_push_size (s.heap.push PySem.W.emptyDict) (o := PySem.W.instObj C s.heap.objs.size) rfl
    rwa [Heap.size_push] at this
  have e3 : (s.heap.push PySem.W.emptyDict).Ns s.heap.objs.size (fun _ => none) := ⟨PySem.W.emptyDict, #[], _, e1, rfl, (fun e he => absurd he (by simp)), fun _ => rfl⟩
  have I1 := I.laid (a := s.heap.objs.size) (o := .own (s.heap.objs.size + 1)) (h' := s.heap.push PySem.W.emptyDict) (t' := s.toks) (fun b u q => Heap.get?_push_of_some _ q) (Nat.le_refl _) ⟨_, e1⟩
  refine I1.laid (a := s.heap.objs.size + 1) (o := .ins C s.heap.objs.size []) (t' := s.toks) (fun b u q => Heap.get?_push_of_some _ q) (Nat.le_of_eq (Heap.size_push _ _)) ?_
  have ne : s.heap.objs.size ≠ s.heap.objs.size + 1 := Nat.ne_of_lt (Nat.lt_succ_self _)
  refine ⟨by rw [upd_ne ne, upd_same], Nat.zero_le _, ne, e2, fun _ => none, (Heap.Ns1.of_empty e3).at fun o q => Heap.get?_push_of_some _ q, fun _ => True.intro, fun y hy => absurd rfl hy⟩

/-- e.f where nothing but the object is asked: through attributeBase (super) and the last hold -/
theorem attr_of {prog : Program} {w : World} {env : Env} {e : Expr} {f : Str} {pos : Pos} {s : Shared} {Q : Value → Shared → Prop} (hb : attributeBase e f env (eval e env) = eval e env)
    (h : wpAny (model prog w) A (eval e env) (fun o s₁ => wpAny (model prog w) A (getAttr o f true) Q E s₁) E s) : wpAny (model prog w) A (eval (.Attribute e f pos) env) Q E s :=
  Attribute_any_ h (by rw [arm_eval_Attribute, hb])
end

/-! ### readings and rules -/
/-- e.f, an attribute of the instance -/
def tFld (K : PySem.W.Frag) (ta : TE) (f : Str) : TE := fun σ H Q => ta σ H fun x H1 => ∃ a C dx fs v, x = .ref a ∧ H1 a = some (.ins C dx fs) ∧ Cls K C ∧ NoAttr K C f ∧ fs.lookup f = some v ∧ Q v H1
/-- e.f = value -/
def sFld (K : PySem.W.Frag) (ta tv : TE) (f : Str) : TS := fun D σ H => tv σ H fun y H1 => ta σ H1 fun x H2 => ∃ a C dx fs, x = .ref a ∧ H2 a = some (.ins C dx fs) ∧ Cls K C ∧ NoAttr K C f ∧ fs.length < 1000 ∧
  D.nx σ (upd H2 a (.ins C dx (putF f y fs)))
section
variable {X : Cx} {o e value : Expr} {f : Str} {pos pos' tpos : Pos} {ta tv : TE}
theorem pe_fld (he : PE X e ta) (hb : attributeBase e f X.env (eval e X.env) = eval e X.env) : PE X (.Attribute e f pos) (tFld X.K ta f) := by
  intro pins s σ H Q I h
  refine attr_of hb (thn (he pins s σ H _ I h) fun u s1 ⟨x, H1, I1, rx, a, C, dx, fs, v, ex, ea, c, n, l, q⟩ => ?_)
  subst ex
  obtain rfl : u = Value.ref a := rx
  exact getattr_ok I1 ea c n l fun u' s2 I2 ru => ⟨v, H1, I2, ru, q⟩
theorem ps_fld (ha : PE X o ta) (hv : PE X value tv) (hs : swapsWith value (some (.Attribute o f pos')) pos.line X.env = pure false) : PS X (.Assign [.Attribute o f pos'] value pos) (sFld X.K ta tv f) := by
  intro pins s σ H D I h
  refine plainObj_wpAny_Assign_Attribute (thn (hv pins s σ H _ I h) fun u s1 ⟨y, H1, I1, ry, q⟩ => thn (ha pins s1 σ H1 _ I1 q) fun ov s2 ⟨x, H2, I2, rx, a, C, dx, fs, ex, ea, c, n, l, q2⟩ => ?_) hs
  subst ex
  obtain rfl : ov = Value.ref a := rx
  exact setattr_ok I2 ea c n l ry fun s3 I3 => ⟨σ, _, I3, q2⟩
end

/-! ### isinstance -/
section
variable {X : Cx} {pins : List (Addr × Obj)} {σ : St} {H : Hp} {s : Shared} {A : Around} {E : Value → Shared → Prop} {Q : Value → Shared → Prop} {c : Value} {b : Bool}
/-- the type of a value, as the fragment's deciders take it; for an instance its class -/
inductive TyOf (K : PySem.W.Frag) (H : Hp) : V → Value → Prop where
  | non : TyOf K H .non (.type "NoneType")
  | bl (x : Bool) : TyOf K H (.bl x) (.type "bool")
  | int (i : Int) : TyOf K H (.int i) (.type "int")
  | str (x : Str) : TyOf K H (.str x) (.type "str")
  | flt (x : UInt64) : TyOf K H (.flt x) (.type "float")
  | lst {a : Addr} {xs : List V} (e : H a = some (.lst xs)) : TyOf K H (.ref a) (.type "list")
  | frz {a : Addr} {o : Obj} {xs : List V} (e : H a = some (.frz o (.lst xs))) : TyOf K H (.ref a) (.type "list")
  | tup {a : Addr} {xs : List V} (e : H a = some (.tup xs)) : TyOf K H (.ref a) (.type "tuple")
  | dK {a : Addr} {kvs : List (Key × V)} (e : H a = some (.dK kvs)) : TyOf K H (.ref a) (.type "dict")
  | dT {a : Addr} {kvs : List (List Key × V)} (e : H a = some (.dT kvs)) : TyOf K H (.ref a) (.type "dict")
  | ins {a C dx : Addr} {fs : List (Str × V)} (e : H a = some (.ins C dx fs)) (cl : Cls K C) (ha : PySem.W.findIn K (.ref C) "__class__" = some (some (.builtin "object.__class__")))
      (hn : PySem.W.specialIn K (.builtin "object.__class__") "__get__" = some (some (.builtin "getset_descriptor.__get__"))) (htk : PySem.W.takesIn K (.builtin "object.__class__") = some true)
      (hm : PySem.W.mroIn K C (.type "object") = some true) : TyOf K H (.ref a) (.ref C)
/-- isinstance(x, c) for one class c, a built-in or an own one: kitOne's answer -/
theorem isinst_ok {x : V} {u t : Value} (I : Inv X pins σ H s) (rx : RelV x u) (ty : TyOf X.K H x t) (e : PySem.W.kitOne X.K t c = some b) (h : ∀ tk, Q (.bool b) { s with toks := tk }) :
    wpAny (model X.prog X.w) A (call (.builtin "isinstance") [u, c]) Q E s := by
  cases ty with
  | non => cases (show u = Value.none from rx); exact PySem.W.kia_one PySem.W.kitx_none I.kIn True.intro e (fun z => nomatch z) h
  | bl y => cases (show u = Value.bool y from rx); exact PySem.W.kia_one PySem.W.kitx_bool I.kIn True.intro e (fun z => nomatch z) h
  | int i => obtain ⟨t, q⟩ := (show ∃ t, u = Value.int i t from rx); cases q; exact PySem.W.kia_one PySem.W.kitx_int I.kIn True.intro e (fun z => nomatch z) h
  | str y => obtain ⟨t, q⟩ := (show ∃ t, u = Value.str y t from rx); cases q; exact PySem.W.kia_one PySem.W.kitx_str I.kIn True.intro e (fun z => nomatch z) h
  | flt y => obtain ⟨t, q⟩ := (show ∃ t, u = Value.float y t from rx); cases q; exact PySem.W.kia_one PySem.W.kitx_float I.kIn True.intro e (fun z => nomatch z) h
  | @lst a xs ea =>
    cases (show u = Value.ref a from rx)
    obtain ⟨_, _, n, _, h1⟩ := (show ObjOk X.prog X.w H s.heap a (.lst xs) from I.hok a _ ea)
    exact PySem.W.kia_one PySem.W.kitx_list I.kIn ⟨_, h1, rfl⟩ e (fun z => nomatch z) h
  | @frz a ob xs ea =>
    cases (show u = Value.ref a from rx)
    obtain ⟨_, _, _, n, _, h1⟩ := (show ObjOk X.prog X.w H s.heap a (.frz ob (.lst xs)) from I.hok a _ ea)
    exact PySem.W.kia_one PySem.W.kitx_list I.kIn ⟨_, h1, rfl⟩ e (fun z => nomatch z) h
  | @tup a xs ea =>
    cases (show u = Value.ref a from rx)
    obtain ⟨_, _, _, p⟩ := (show ObjOk X.prog X.w H s.heap a (.tup xs) from I.hok a _ ea)
    obtain ⟨o, h1, h2, _⟩ := p
    exact PySem.W.kia_one PySem.W.kitx_tuple I.kIn ⟨o, h1, h2⟩ e (fun z => nomatch z) h
  | @dK a kvs ea =>
    cases (show u = Value.ref a from rx)
    obtain ⟨_, _, vs, _, p⟩ := (show ObjOk X.prog X.w H s.heap a (.dK kvs) from I.hok a _ ea)
    obtain ⟨o, es, ep, h1, h2, _⟩ := p
    exact PySem.W.kia_one PySem.W.kitx_dict I.kIn ⟨o, h1, h2.1⟩ e (fun z => nomatch z) h
  | @dT a kvs ea =>
    cases (show u = Value.ref a from rx)
    obtain ⟨_, _, xs, _, o, es, ep, h1, h2, _⟩ := (show ObjOk X.prog X.w H s.heap a (.dT kvs) from I.hok a _ ea)
    exact PySem.W.kia_one PySem.W.kitx_dict I.kIn ⟨o, h1, h2.1⟩ e (fun z => nomatch z) h
  | @ins a C dx fs ea cl ha hn htk hm =>
    cases (show u = Value.ref a from rx)
    obtain ⟨mA, O, _⟩ := ins_get I.hok ea
    obtain ⟨od, J, _⟩ := O.look
    exact PySem.W.kia_one (PySem.W.kitx_own (cl.get _) cl.hd ha hn htk hm) I.kIn J e (fun z => nomatch z) h
end
end L2

namespace L2
open PySem PySem.Spec PyProof.Rows

/-! ### room -/
structure Room (k : Nat) (A : Around) : Prop where
  hd : A.handled = none
  dp : A.depth + 3 * k + 5 < recursionLimit
  un : A.units + 16 * k + 200 < cLine
theorem Room.mono {j k : Nat} {A : Around} (r : Room k A) (h : j ≤ k) : Room j A := ⟨r.hd, by have := r.dp; omega, by have := r.un; omega⟩
theorem Room.deeper {k : Nat} {A : Around} (r : Room (k + 1) A) (env : Env) : Room k (A.deeper env) :=
  ⟨r.hd, by have := r.dp; show A.depth + 1 + 3 * k + 5 < _; omega, by have := r.un; show A.units + 3 + 16 * k + 200 < _; omega⟩
theorem Room.in1 {k : Nat} {A : Around} (r : Room (k + 1) A) : Room k A.in1 :=
  ⟨r.hd, by have := r.dp; show A.depth + 3 * k + 5 < _; omega, by have := r.un; show A.units + 1 + 16 * k + 200 < _; omega⟩
theorem make_depth {A : Around} {C : Addr} {us : List Value} {kw : List (Str × Value)} : (A.under (.builtin "type.__call__" ⟨.ref C :: us, kw⟩)).depth = A.depth + 1 := by
  first | rfl | simp [Around.under, Code.weight, Code.isCreation, Code.isGuard, Code.isCaller, Code.frames, Code.isFrame, guardIds]
theorem make_units {A : Around} {C : Addr} {us : List Value} {kw : List (Str × Value)} : (A.under (.builtin "type.__call__" ⟨.ref C :: us, kw⟩)).units = A.units + 1 := by
  first | rfl | simp [Around.under, Code.cUnits, Code.frames, Code.isFrame]
theorem Room.make {k : Nat} {A : Around} (r : Room (k + 1) A) (C : Addr) (us : List Value) (kw : List (Str × Value)) : Room k (A.under (.builtin "type.__call__" ⟨.ref C :: us, kw⟩)) :=
  ⟨r.hd, by have := r.dp; rw [make_depth]; omega, by have := r.un; rw [make_units]; omega⟩
theorem Room.depth {k : Nat} {A : Around} (r : Room k A) : A.depth < recursionLimit := by have := r.dp; omega
theorem Room.units {k : Nat} {A : Around} (r : Room k A) : A.units + 64 < cLine := by have := r.un; omega
theorem Room.units0 {k : Nat} {A : Around} (r : Room k A) : A.units < cLine := by have := r.un; omega

/-! ### argument lists and displays -/
def tNil : TA := fun _ H Q => Q [] H
def tCons (ta : TE) (tr : TA) : TA := fun σ H Q => ta σ H fun x H1 => tr σ H1 fun xs H2 => Q (x :: xs) H2
section
variable {X : Cx} {e : Expr} {es : List Expr} {te : TE} {t : TA} {pos : Pos}
theorem pa_nil : PA X [] tNil := fun _ _ _ _ H Q I h => Calls.spliced_nil ⟨[], H, I, .nil, h⟩
theorem pa_cons (ha : PE X e te) (hr : PA X es t) (hs : starEach (e :: es) X.env = (false, eval e X.env) :: starEach es X.env := by rfl) : PA X (e :: es) (tCons te t) := by
  intro pos pins s σ H Q I h
  rw [hs]
  show wpAny _ _ (spliced ((false, eval e X.env) :: backTo pos (starEach es X.env))) _ _ s
  refine Calls.spliced_cons (thn (ha pins s σ H _ I h) fun u s1 ⟨x, H1, I1, r1, q1⟩ => ?_)
  exact thn (hr pos pins s1 σ H1 _ I1 q1) fun us s2 ⟨xs, H2, I2, r2, q2⟩ => ⟨x :: xs, H2, I2, .cons r1 r2, q2⟩

/-- a tuple, a list of written items -/
def tTup (t : TA) : TE := fun σ H Q => t σ H fun xs H1 => xs.length ≤ sizeLine ∧ ∀ p, H1 p = none → Q (.ref p) (upd H1 p (.tup xs))
def tLst (t : TA) : TE := fun σ H Q => t σ H fun xs H1 => xs.length ≤ sizeLine ∧ ∀ p, H1 p = none → Q (.ref p) (upd H1 p (.lst xs))
theorem pe_tup {x1} (h : PA X es t) : PE X (.Tuple es x1 pos) (tTup t) := by
  intro pins s σ H Q I hq
  refine wpAny_Tuple_spliced (thn (h pos pins s σ H _ I hq) fun us s1 ⟨xs, H1, I1, r, z, q⟩ => ⟨by rw [← r.length]; exact z, ?_⟩)
  have hf : H1 s1.heap.objs.size = none := I1.hok.fresh (Nat.le_refl _)
  refine ⟨.ref s1.heap.objs.size, upd H1 s1.heap.objs.size (.tup xs), I1.laid (t' := s1.toks) (fun b u e => Heap.get?_push_of_some _ e) (Nat.le_refl _) ?_, rfl, q _ hf⟩
  exact ⟨z, us, r, ⟨_, Heap.get?_push_size _ rfl, rfl, _, rfl⟩⟩
theorem pe_lst (h : PA X es t) : PE X (.List es pos) (tLst t) := by
  intro pins s σ H Q I hq
  refine wpAny_List_spliced (thn (h pos pins s σ H _ I hq) fun us s1 ⟨xs, H1, I1, r, z, q⟩ => ⟨by rw [← r.length]; exact z, ?_⟩)
  have hf : H1 s1.heap.objs.size = none := I1.hok.fresh (Nat.le_refl _)
  refine ⟨.ref s1.heap.objs.size, upd H1 s1.heap.objs.size (.lst xs), I1.laid (t' := s1.toks) (fun b u e => Heap.get?_push_of_some _ e) (Nat.le_refl _) ?_, rfl, q _ hf⟩
  exact ⟨z, us, 0, r, Heap.get?_push_size _ rfl⟩
end

/-! ### what a def promises -/
/-- a def's promise: the bound arguments in the parameters' order, the heap, the wanted end, the wanted exception -/
abbrev Sp := List V → Hp → VK → XK → Prop
/-- how an exception lies behind a call (file 08 gives it): the callers' frames, abstract heap and state ahead of the call, the wish, the exception, the state -/
abbrev CXT := List Env → Hp → Shared → XK → Value → Shared → Prop

/-- the state at a call -/
structure Env0 (P : Program) (w : World) (K : PySem.W.Frag) (mg : Str → Option Value) (base : Heap) (A : Around) (outer : List Env) (s : Shared) (H : Hp) : Prop where
  frames : A.frames = some outer
  mod : Mod K mg base
  bs : ∀ b o, base.get? b = some o → s.heap.get? b = some o ∧ H b = none
  bsz : base.objs.size ≤ s.heap.objs.size
  funs : s.heap.FunFrames base outer
  frf : ∀ b ∈ frs outer, H b = none
  hok : HOk P w H s.heap
  bare : AllBare s.gens
/-- a call's end -/
def CE (outer : List Env) (P : Program) (w : World) (H : Hp) (s : Shared) (Q : VK) (u : Value) (s' : Shared) : Prop :=
  ∃ v H', s'.os = s.os ∧ AllBare s'.gens ∧ Un (frs outer) [] H H' s.heap s'.heap ∧ HOk P w H' s'.heap ∧ RelV v u ∧ Q v H'
def CR (CX : CXT) (outer : List Env) (P : Program) (w : World) (H : Hp) (s : Shared) (Q : VK) (E : XK) (r : Result) (s' : Shared) : Prop :=
  match r with
  | .ok (.ret u) => CE outer P w H s Q u s'
  | .ok _ => False
  | .error e => CX outer H s E e s'
structure FnOk (P : Program) (w : World) (K : PySem.W.Frag) (mg : Str → Option Value) (base : Heap) (CX : CXT) (k : Nat) (f : Addr) (fd : FuncData) (ps : List Str) (sp : Sp) : Prop where
  len : ∀ vs H Q E, sp vs H Q E → vs.length = ps.length
  run : ∀ (A : Around) (outer : List Env) (s : Shared) (H : Hp) (args : Args) (us : List Value) (vs : List V) (Q : VK) (E : XK), Room k A → Env0 P w K mg base A outer s H → BindsTo s fd args (ps.zip us) → Vals vs us → sp vs H Q E →
    codeAny (model P w) A (.call (.ref f) args) (CR CX outer P w H s Q E) s
theorem FnOk.mono {P : Program} {w : World} {K : PySem.W.Frag} {mg : Str → Option Value} {base : Heap} {CX : CXT} {j k : Nat} {f : Addr} {fd : FuncData} {ps : List Str} {sp : Sp} (F : FnOk P w K mg base CX j f fd ps sp) (h : j ≤ k) :
    FnOk P w K mg base CX k f fd ps sp := ⟨F.len, fun A outer s H args us vs Q E hr => F.run A outer s H args us vs Q E (hr.mono h)⟩
theorem Env0.make {P : Program} {w : World} {K : PySem.W.Frag} {mg : Str → Option Value} {base : Heap} {A : Around} {outer : List Env} {s : Shared} {H : Hp} (e : Env0 P w K mg base A outer s H) (C : Addr) (us : List Value) (kw : List (Str × Value)) :
    Env0 P w K mg base (A.under (.builtin "type.__call__" ⟨.ref C :: us, kw⟩)) outer s H := ⟨by first | exact e.frames | (simpa [Around.under, Code.envs, Code.isFrame, pushEnvs] using e.frames), e.mod, e.bs, e.bsz, e.funs, e.frf, e.hok, e.bare⟩
theorem Env0.in1 {P : Program} {w : World} {K : PySem.W.Frag} {mg : Str → Option Value} {base : Heap} {A : Around} {outer : List Env} {s : Shared} {H : Hp} (e : Env0 P w K mg base A outer s H) :
    Env0 P w K mg base A.in1 outer s H := ⟨e.frames, e.mod, e.bs, e.bsz, e.funs, e.frf, e.hok, e.bare⟩

section
variable {X : Cx} {pins : List (Addr × Obj)} {σ : St} {H : Hp} {s s' : Shared}
/-- from a body: what a callee wants -/
theorem Inv.env0 (I : Inv X pins σ H s) : Env0 X.prog X.w X.K X.mg X.base X.A X.stack s H :=
  ⟨I.ok.frames, I.ok.mod, I.bs, Nat.le_trans I.ok.bsz I.sz, I.stack, I.stkFree, I.hok, I.bare⟩
/-- behind a call -/
theorem Inv.after {Q : VK} {u : Value} (I : Inv X pins σ H s) (h : CE X.stack X.prog X.w H s Q u s') : EP X pins σ Q u s' := by
  obtain ⟨v, H', os, bare, un, hok, r, q⟩ := h
  obtain ⟨hh, g, d, t, os'⟩ := s'
  obtain rfl : os' = s.os := os
  exact ⟨v, H', I.call (h' := hh) (g' := g) (d' := d) (t' := t) (ch := []) un hok bare (fun b z => absurd z (by simp)), r, q⟩
end

/-! ### calls -/
/-- f(..): the written arguments, then the defaults dvs; E: what is wanted of an exception -/
def tCall (sp : Sp) (dvs : List V) (E : XK) (t : TA) : TE := fun σ H Q => t σ H fun vs H1 => sp (vs ++ dvs) H1 Q E
/-- o.m(..) of an instance of the class at C -/
def tMeth (C : Addr) (m : Str) (sp : Sp) (dvs : List V) (E : XK) (ta : TE) (t : TA) : TE := fun σ H Q => ta σ H fun x H1 => ∃ a dx fs, x = .ref a ∧ H1 a = some (.ins C dx fs) ∧ fs.lookup m = none ∧
  t σ H1 fun vs H2 => sp (x :: (vs ++ dvs)) H2 Q E
/-- C(..): a new instance and its dict, then __init__ -/
def tMake (C : Addr) (sp : Sp) (dvs : List V) (E : XK) (t : TA) : TE := fun σ H Q => t σ H fun vs H1 => ∀ x dx, H1 x = none → H1 dx = none → dx ≠ x →
  sp (.ref x :: (vs ++ dvs)) (upd (upd H1 dx (.own x)) x (.ins C dx [])) (fun v H2 => v = .non ∧ Q (.ref x) H2) E

/-- how the parameters are bound: us the positional arguments, kw the keywords' values by name, ds the defaults that fill up -/
def Binds (K : PySem.W.Frag) (fd : FuncData) (ps : List Str) (ds : List Value) : Prop :=
  ∀ (s : Shared) (us : List Value), K.In s.heap → (us ++ ds).length = ps.length → BindsTo s fd ⟨us, []⟩ (ps.zip (us ++ ds))
/-- every parameter is given -/
theorem Binds.all {K : PySem.W.Frag} {fd : FuncData} {ps : List Str} (h : ∀ us : List Value, us.length = ps.length → bindArgs fd ⟨us, []⟩ = pure (ps.zip us)) : Binds K fd ps [] := fun s us _ hl => by
  rw [List.append_nil] at hl ⊢
  exact .of_eq (h us hl)

/-- an exception of a callee reaches what this body wants of exceptions -/
def Passes (CX : CXT) (X : Cx) (E : XK) : Prop := ∀ (pins : List (Addr × Obj)) (σ : St) (H : Hp) (s : Shared) (e : Value) (s' : Shared), Inv X pins σ H s → CX X.stack H s E e s' → X.xe e s'

section
variable {X : Cx} {CX : CXT} {k : Nat} {f C : Addr} {fd : FuncData} {ps : List Str} {sp : Sp} {dvs : List V} {ds : List Value} {E : XK} {x m : Str} {p pos apos : Pos} {e o : Expr} {es : List Expr} {ta : TE} {t : TA}

/-- the callee runs -/
theorem run_fn {pins : List (Addr × Obj)} {σ : St} {H : Hp} {s : Shared} {Q : VK} {us : List Value} {vs : List V} (F : FnOk X.prog X.w X.K X.mg X.base CX k f fd ps sp) (hr : Room k X.A) (hb : Binds X.K fd ps ds) (hd : Vals dvs ds) (hx : Passes CX X E)
    (I : Inv X pins σ H s) (r : Vals vs us) (h : sp (vs ++ dvs) H Q E) : wpAny (model X.prog X.w) X.A (call (.ref f) us) (EP X pins σ Q) X.xe s := by
  have r2 : Vals (vs ++ dvs) (us ++ ds) := r.append hd
  have hl : (us ++ ds).length = ps.length := by rw [← r2.length]; exact F.len _ _ _ _ h
  refine wpAny_call (codeAny_mono (F.run X.A X.stack s H ⟨us, []⟩ (us ++ ds) (vs ++ dvs) Q E hr I.env0 (hb s us I.kIn hl) r2 h) fun r s' hq => ?_)
  cases r with
  | error e => exact hx pins σ H s e s' I hq
  | ok fl =>
    cases fl with
    | ret u => exact I.after hq
    | next => exact False.elim hq
    | brk => exact False.elim hq
    | cont => exact False.elim hq

theorem pe_call (F : FnOk X.prog X.w X.K X.mg X.base CX k f fd ps sp) (hr : Room k X.A) (hg : Gl X x) (hm : X.mg x = some (.ref f)) (hk : PySem.W.keepIn X.K (.ref f) = true) (hb : Binds X.K fd ps ds) (hd : Vals dvs ds) (hx : Passes CX X E)
    (ha : PA X (e :: es) t) (hdb : (x == ("__debug__" : Str)) = false := by decide) (he : starEach (e :: es) X.env = (false, eval e X.env) :: starEach es X.env := by rfl) (hpl : (backTo pos (starEach es X.env)).any (·.1) = false := by rfl) :
    PE X (.Call (.Name x p) (e :: es) [] pos) (tCall sp dvs E t) := by
  intro pins s σ H Q I h
  refine wpAny_Call_Name_kw (ld_glob I hg hm ?_ hdb)
  refine PySem.W.callWith_K (h₀ := X.base) I.ok.mod.kin hk (thn (ha pos pins s σ H _ I h) fun us s1 ⟨vs, H1, I1, r, q⟩ => ⟨I1.kIn, ?_⟩) he hpl
  exact run_fn F hr hb hd hx I1 r q
/-- o.m(e, ..) -/
theorem pe_meth {pl : Sem Bool} (he : PE X o ta) (c : Cls X.K C) (hm : Meth X.K C m f) (F : FnOk X.prog X.w X.K X.mg X.base CX k f fd ps sp) (hr : Room k X.A) (hb : Binds X.K fd ps ds) (hd : Vals dvs ds) (hx : Passes CX X E) (ha : PA X (e :: es) t)
    (hst : starEach (e :: es) X.env = (false, eval e X.env) :: starEach es X.env := by rfl) (hpl : (backTo pos (starEach es X.env)).any (·.1) = false := by rfl)
    (ht : eval (.Call (.Attribute o m apos) (e :: es) [] pos) X.env = (do
      let ov ← eval o X.env
      standAt apos.atName
      let (f, first) ← holding [ov] (getMethod ov m pl)
      callWith pos f first (backTo pos (starEach (e :: es) X.env)) (backToKw pos (keywordEach [] X.env))) := by rfl) :
    PE X (.Call (.Attribute o m apos) (e :: es) [] pos) (tMeth C m sp dvs E ta t) := by
  intro pins s σ H Q I h
  refine PySem.W.methodCall_KW (pl := pl) (thn (he pins s σ H _ I h) fun u s1 ⟨x, H1, I1, rx, a, dx, fs, ex, ea, l, q⟩ => ?_) ht
  subst ex
  obtain rfl : u = Value.ref a := rx
  refine getmeth_ok I1 ea c hm l ?_
  refine PySem.W.callWith_K (first := [.ref a]) (h₀ := X.base) I.ok.mod.kin hm.kp (thn (ha pos pins s1 σ H1 _ I1 q) fun us s2 ⟨vs, H2, I2, r, q2⟩ => ⟨I2.kIn, ?_⟩) hst hpl
  exact run_fn (us := .ref a :: us) (vs := .ref a :: vs) F hr hb hd hx I2 (.cons rfl r) q2
/-- o.m() -/
theorem pe_meth0 {pl : Sem Bool} (he : PE X o ta) (c : Cls X.K C) (hm : Meth X.K C m f) (F : FnOk X.prog X.w X.K X.mg X.base CX k f fd ps sp) (hr : Room k X.A) (hb : Binds X.K fd ps ds) (hd : Vals dvs ds) (hx : Passes CX X E)
    (ht : eval (.Call (.Attribute o m apos) [] [] pos) X.env = (do
      let ov ← eval o X.env
      standAt apos.atName
      let (f, first) ← holding [ov] (getMethod ov m pl)
      callWith pos f first (backTo pos (starEach [] X.env)) (backToKw pos (keywordEach [] X.env))) := by rfl) :
    PE X (.Call (.Attribute o m apos) [] [] pos) (tMeth C m sp dvs E ta tNil) := by
  intro pins s σ H Q I h
  refine PySem.W.methodCall_KW (pl := pl) (thn (he pins s σ H _ I h) fun u s1 ⟨x, H1, I1, rx, a, dx, fs, ex, ea, l, q⟩ => ?_) ht
  subst ex
  obtain rfl : u = Value.ref a := rx
  refine getmeth_ok I1 ea c hm l ?_
  exact PySem.W.callWith_K0 (first := [.ref a]) I1.kIn hm.kp (run_fn (us := [.ref a]) (vs := [.ref a]) F hr hb hd hx I1 (.cons rfl .nil) q)

/-- what a class must have to be made -/
structure Mk (K : PySem.W.Frag) (C f : Addr) : Prop where
  makes : PySem.W.makesIn K C = true
  init : PySem.W.findIn K (.ref C) "__init__" = some (some (.ref f))
  fn : PySem.W.isFn K (.ref f) = true
  kp : PySem.W.keepIn K (.ref C) = true

theorem run_make {pins : List (Addr × Obj)} {σ : St} {H : Hp} {s : Shared} {Q : VK} {us : List Value} {vs : List V} (M : Mk X.K C f) (F : FnOk X.prog X.w X.K X.mg X.base CX k f fd ps sp) (hr : Room (k + 1) X.A) (hb : Binds X.K fd ps ds) (hd : Vals dvs ds)
    (hx : Passes CX X E) (I : Inv X pins σ H s) (r : Vals vs us)
    (h : ∀ x dx, H x = none → H dx = none → dx ≠ x → sp (.ref x :: (vs ++ dvs)) (upd (upd H dx (.own x)) x (.ins C dx [])) (fun v H2 => v = .non ∧ Q (.ref x) H2) E) :
    wpAny (model X.prog X.w) X.A (call (.ref C) us) (EP X pins σ Q) X.xe s := by
  have hq := h (s.heap.objs.size + 1) s.heap.objs.size (I.hok.fresh (Nat.le_succ _)) (I.hok.fresh (Nat.le_refl _)) (Nat.ne_of_lt (Nat.lt_succ_self _))
  have I2 := Inv.made (C := C) I
  have r2 : Vals (V.ref (s.heap.objs.size + 1) :: (vs ++ dvs)) (Value.ref (s.heap.objs.size + 1) :: (us ++ ds)) := .cons rfl (r.append hd)
  have hl : (Value.ref (s.heap.objs.size + 1) :: us ++ ds).length = ps.length := by
    have e := r2.length
    rw [F.len _ _ _ _ hq] at e
    exact e.symm
  refine wpAny_call (make_map (f := f) I.kIn M.makes M.init (beq_iff_eq.mp M.fn) (codeAny_mono (F.run _ X.stack _ _ ⟨Value.ref (s.heap.objs.size + 1) :: us, []⟩ (Value.ref (s.heap.objs.size + 1) :: (us ++ ds)) _ _ E (hr.make C us [])
    (I2.env0.make C us []) (hb _ (Value.ref (s.heap.objs.size + 1) :: us) I2.kIn hl) r2 hq) fun r s' hq' => ?_))
  cases r with
  | error e => exact hx pins σ _ _ e s' I2 hq'
  | ok fl =>
    cases fl with
    | ret u =>
      obtain ⟨v, H', I3, rv, ev, q3⟩ := I2.after hq'
      subst ev
      exact ⟨rv, ⟨V.ref (s.heap.objs.size + 1), H', I3, rfl, q3⟩⟩
    | next => exact False.elim hq'
    | brk => exact False.elim hq'
    | cont => exact False.elim hq'
theorem pe_make (M : Mk X.K C f) (F : FnOk X.prog X.w X.K X.mg X.base CX k f fd ps sp) (hr : Room (k + 1) X.A) (hg : Gl X x) (hm : X.mg x = some (.ref C)) (hb : Binds X.K fd ps ds) (hd : Vals dvs ds) (hx : Passes CX X E)
    (ha : PA X (e :: es) t) (hdb : (x == ("__debug__" : Str)) = false := by decide) (he : starEach (e :: es) X.env = (false, eval e X.env) :: starEach es X.env := by rfl) (hpl : (backTo pos (starEach es X.env)).any (·.1) = false := by rfl) :
    PE X (.Call (.Name x p) (e :: es) [] pos) (tMake C sp dvs E t) := by
  intro pins s σ H Q I h
  refine wpAny_Call_Name_kw (ld_glob I hg hm ?_ hdb)
  refine PySem.W.callWith_K (h₀ := X.base) I.ok.mod.kin M.kp (thn (ha pos pins s σ H _ I h) fun us s1 ⟨vs, H1, I1, r, q⟩ => ⟨I1.kIn, ?_⟩) he hpl
  exact run_make M F hr hb hd hx I1 r q
end

/-! ### keywords -/
/-- the values of the keywords, from the left -/
def PK (X : Cx) (kws : List Keyword) (t : TA) : Prop :=
  ∀ (pos : Pos) (pins : List (Addr × Obj)) (s : Shared) (σ : St) (H : Hp) (Q : List V → Hp → Prop), Inv X pins σ H s → t σ H Q → wpAny (model X.prog X.w) X.A (evalAll ((backToKw pos (keywordEach kws X.env)).map (·.2))) (AP X pins σ Q) X.xe s
section
variable {X : Cx} {CX : CXT} {k : Nat} {f C : Addr} {fd : FuncData} {ps ks : List Str} {sp : Sp} {E : XK} {x m : Str} {p pos apos kpos : Pos} {e o : Expr} {es : List Expr} {kws : List Keyword} {te ta : TE} {t tk : TA} {nm : Option Str}
theorem pk_nil : PK X [] tNil := fun _ _ _ _ H Q I h => wpAny_evalAll_nil ⟨[], H, I, .nil, h⟩
theorem pk_cons (ha : PE X e te) (hr : PK X kws t) : PK X (⟨nm, e, kpos⟩ :: kws) (tCons te t) := by
  intro pos pins s σ H Q I h
  show wpAny _ _ (evalAll ((do let v ← eval e X.env; standAt pos; pure v) :: (backToKw pos (keywordEach kws X.env)).map (·.2))) _ _ s
  refine wpAny_evalAll_cons (wpAny_bind (thn (ha pins s σ H _ I h) fun u s1 ⟨x, H1, I1, r1, q1⟩ => wpAny_bind (wpAny_standAt (wpAny_pure ?_))))
  exact thn (hr pos pins s1 σ H1 _ I1 q1) fun us s2 ⟨xs, H2, I2, r2, q2⟩ => ⟨x :: xs, H2, I2, .cons r1 r2, q2⟩

/-- how a call with keywords binds: g puts the positional values us and the keywords' values ws (names ks) in the parameters' order, defaults among them -/
structure KBinds (K : PySem.W.Frag) (fd : FuncData) (ps ks : List Str) (g : List Value → List Value → List Value) (gV : List V → List V → List V) : Prop where
  to : ∀ (s : Shared) (us ws : List Value), K.In s.heap → (g us ws).length = ps.length → BindsTo s fd ⟨us, ks.zip ws⟩ (ps.zip (g us ws))
  rel : ∀ {vs : List V} {us : List Value} {zs : List V} {ws : List Value}, Vals vs us → Vals zs ws → Vals (gV vs zs) (g us ws)
variable {g : List Value → List Value → List Value} {gV : List V → List V → List V}
end

/-! ### a def's body keeps its promise -/
/-- names: the parameters first -/
structure FnScope (N P : List Str) (sc : Scope) : Prop where
  kind : sc.kind = .function
  co : sc.isCoroutine = false
  gen : sc.isGenerator = false
  nd : N.Nodup
  pre : N.take P.length = P
  par : ∀ x ∈ P, sc.names.lookup x = some .local ∨ sc.names.lookup x = some .cell
  nofree : ∀ y ∈ sc.names, y.2 ≠ .free

theorem bindL_out {kindOf : Str → Option NameKind} {x : Str} : ∀ {binds : List (Str × Value)} {m : Str → Option Value}, (∀ v, (x, v) ∉ binds) → bindL kindOf binds m x = m x
  | [], _, _ => rfl
  | (n, v) :: r, m, h => by
    unfold bindL
    rw [bindL_out fun w hw => h w (List.mem_cons_of_mem _ hw)]
    split
    · have : x ≠ n := by rintro rfl; exact h v List.mem_cons_self
      simp [this]
    · rfl
theorem bindC_out {kindOf : Str → Option NameKind} {x : Str} : ∀ {binds : List (Str × Value)} {m : Str → Option Value}, (∀ v, (x, v) ∉ binds) → bindC kindOf binds m x = m x
  | [], _, _ => rfl
  | (n, v) :: r, m, h => by
    unfold bindC
    rw [bindC_out fun w hw => h w (List.mem_cons_of_mem _ hw)]
    split
    · rfl
    · have : x ≠ n := by rintro rfl; exact h v List.mem_cons_self
      simp [this]
theorem bindL_get {kindOf : Str → Option NameKind} {x : Str} {v : Value} : ∀ {P : List Str} {vs : List Value} {i : Nat} {m : Str → Option Value}, P.Nodup → P[i]? = some x → vs[i]? = some v → kindOf x = some .local →
    bindL kindOf (P.zip vs) m x = some v
  | [], _, _, _, _, h, _, _ => by simp at h
  | _ :: _, [], _, _, _, _, h, _ => by simp at h
  | p :: P, w :: vs, 0, m, nd, h1, h2, hk => by
    simp at h1 h2; subst h1; subst h2
    show bindL kindOf ((p, w) :: P.zip vs) m p = _
    unfold bindL
    rw [bindL_out fun v hv => (List.nodup_cons.mp nd).1 (List.of_mem_zip hv).1, if_pos hk]
    simp
  | p :: P, w :: vs, i + 1, m, nd, h1, h2, hk => by
    show bindL kindOf ((p, w) :: P.zip vs) m x = _
    unfold bindL
    exact bindL_get (i := i) (List.nodup_cons.mp nd).2 (by simpa using h1) (by simpa using h2) hk
theorem bindC_get {kindOf : Str → Option NameKind} {x : Str} {v : Value} : ∀ {P : List Str} {vs : List Value} {i : Nat} {m : Str → Option Value}, P.Nodup → P[i]? = some x → vs[i]? = some v → kindOf x ≠ some .local →
    bindC kindOf (P.zip vs) m x = some v
  | [], _, _, _, _, h, _, _ => by simp at h
  | _ :: _, [], _, _, _, _, h, _ => by simp at h
  | p :: P, w :: vs, 0, m, nd, h1, h2, hk => by
    simp at h1 h2; subst h1; subst h2
    show bindC kindOf ((p, w) :: P.zip vs) m p = _
    unfold bindC
    rw [bindC_out fun v hv => (List.nodup_cons.mp nd).1 (List.of_mem_zip hv).1, if_neg hk]
    simp
  | p :: P, w :: vs, i + 1, m, nd, h1, h2, hk => by
    show bindC kindOf ((p, w) :: P.zip vs) m x = _
    unfold bindC
    exact bindC_get (i := i) (List.nodup_cons.mp nd).2 (by simpa using h1) (by simpa using h2) hk

/-- the names' values at the entry -/
def start (N : List Str) (vs : List V) : St := vs.map some ++ List.replicate (N.length - vs.length) none

/-- the context of a def's body, at its entry; an exception leaves the frame, then lies as CX says -/
def cxOf (CX : CXT) (P : Program) (w : World) (K : PySem.W.Frag) (mg : Str → Option Value) (base : Heap) (N : List Str) (qual : Str) (scope : Scope) (f : Addr) (cd : Value) (A : Around) (outer : List Env) (s : Shared) (H : Hp) (E : XK) : Cx where
  prog := P
  w := w
  K := K
  mg := mg
  base := base
  A := A.deeper (envOfC qual scope s.heap.objs.size f cd)
  N := N
  s₀ := s
  H₀ := H
  env := envOfC qual scope s.heap.objs.size f cd
  outer := outer
  stack := envOfC qual scope s.heap.objs.size f cd :: outer
  ex := []
  calm := true
  fn := fun _ => true
  pn := []
  xe := fun e s' => wpAny (model P w) (A.deeper (envOfC qual scope s.heap.objs.size f cd)) (leaving (envOfC qual scope s.heap.objs.size f cd) e) (fun _ s'' => CX outer H s E e s'') (fun e' s'' => CX outer H s E e' s'') s'

theorem cell_has {sc : Scope} {n : Nat} {x : Str} (h : sc.names.lookup x = some .cell) : ∃ c, (cellsFrom n sc.names []).lookup x = some c := by
  have q := PySem.W.cellsFrom_some sc.names n [] (.inl h)
  exact Option.isSome_iff_exists.mp q

theorem inv_start {CX : CXT} {P : Program} {w : World} {K : PySem.W.Frag} {mg : Str → Option Value} {base : Heap} {N ps : List Str} {qual : Str} {scope : Scope} {f : Addr} {cd : Value} {A : Around} {outer : List Env} {s s1 : Shared} {H : Hp} {E : XK} {us : List Value} {vs : List V}
    (S : FnScope N ps scope) (hd : A.handled = none) (e0 : Env0 P w K mg base A outer s H) (hl : vs.length = ps.length) (r : Vals vs us)
    (x : InCallC s s.heap.objs.size (bindL (envOfC qual scope s.heap.objs.size f cd).kindOf (ps.zip us) fun _ => none) (cellsFrom (s.heap.objs.size + 1) scope.names []) (bindC (envOfC qual scope s.heap.objs.size f cd).kindOf (ps.zip us) fun _ => none) s1) :
    Inv (cxOf CX P w K mg base N qual scope f cd A outer s H E) [] (start N vs) H s1 := by
  have hpl : ps.length ≤ N.length := by have := congrArg List.length S.pre; rw [List.length_take] at this; omega
  obtain ⟨h1, tk, rfl, hk⟩ := x.done
  have noA : ∀ b : Addr, b ∉ (cxOf CX P w K mg base N qual scope f cd A outer s H E).ex := fun b z => absurd (show b ∈ ([] : List Addr) from z) (by simp)
  refine ⟨⟨e0.mod, S.kind, rfl, rfl, Nat.le_refl _, fun y z c h1 h2 => ?_, fun y hy => ?_, fun y c _ h => ?_, fun _ => hd, Around.frames_deeper e0.frames, .inr ⟨rfl, rfl⟩, fun b z => absurd z (noA b), e0.bs, e0.bsz, fun b _ _ => noA b, fun b z => absurd z (noA b), e0.funs, e0.frf⟩,
    rfl, e0.bare, Un.kept hk, ⟨_, x.toInCall.ns, fun i y v h1 h2 h3 => ?_⟩, fun y c h => ⟨_, x.cell y c h⟩, e0.hok.fresh (Nat.le_refl _), fun y c h => ?_, fun p hp => absurd (show p ∈ ([] : List (Addr × Obj)) from hp) (by simp), e0.hok.kept hk, ?_⟩
  · exact name_of_addr x.apart (PySem.mem_of_lookup h1) (PySem.mem_of_lookup h2)
  · have hy : scope.names.lookup y = some .cell ∨ scope.names.lookup y = some .free := hy
    rcases hy with hy | hy
    · exact cell_has hy
    · exact absurd rfl (S.nofree _ (PySem.mem_of_lookup hy))
  · exact Nat.le_of_lt (x.above y c (PySem.mem_of_lookup h))
  · have hi : i < vs.length := by
      unfold start at h2
      by_cases hi : i < vs.length
      · exact hi
      · rw [List.getElem?_append_right (by simpa using hi)] at h2
        rw [List.getElem?_replicate] at h2
        split at h2 <;> cases h2
    have ha : vs[i]? = some v := by
      unfold start at h2
      rw [List.getElem?_append_left (by simpa using hi), List.getElem?_map] at h2
      cases e : vs[i]? with
      | none => rw [e] at h2; cases h2
      | some a => rw [e] at h2; cases h2; rfl
    obtain ⟨u, hu, rv⟩ := r.get ha
    have hp : ps[i]? = some y := by
      rw [← S.pre, List.getElem?_take_of_lt (by omega)]; exact h1
    have ndP : ps.Nodup := by rw [← S.pre]; exact S.nd.sublist (List.take_sublist _ _)
    refine ⟨u, rv, ?_⟩
    rcases S.par y (List.mem_of_getElem? hp) with k | k
    · exact .inl ⟨k, bindL_get ndP hp hu k⟩
    · obtain ⟨c, e⟩ := cell_has (n := s.heap.objs.size + 1) k
      refine .inr ⟨.inl k, c, e, ?_⟩
      have q := x.cell y c e
      rw [bindC_get ndP hp hu (by show scope.names.lookup y ≠ _; rw [k]; decide)] at q
      exact q
  · exact e0.hok.fresh (Nat.le_of_lt (x.above y c (PySem.mem_of_lookup h)))
  · unfold start
    show _ = N.length
    rw [List.length_append, List.length_map, List.length_replicate]
    omega

/-- THE RULE: a def (or a method) of the text, by its body. The body's reading t is chosen for each entry; it is run at the parameters' values -/
theorem fn_of {CX : CXT} {P : Program} {w : World} {K : PySem.W.Frag} {mg : Str → Option Value} {base : Heap} {k : Nat} {f : Addr} {name qual : Str} {params : Arguments} {body : List Stmt} {scope : Scope} {dV kV doc pm cdv ct oc : Value} {an od : Option Addr}
    {osl : Array (Option Value)} {N ps : List Str} {sp : Sp} (lk : K.lookup f = some ⟨oc, od, .func (PySem.W.fnOf name qual params body scope dV kV doc pm an cdv ct), osl⟩) (hcd : PySem.W.codeIn K cdv qual = true) (S : FnScope N ps scope)
    (len : ∀ vs H Q E, sp vs H Q E → vs.length = ps.length)
    (hbody : ∀ (A : Around) (outer : List Env) (s : Shared) (H : Hp) (vs : List V) (Q : VK) (E : XK), Room k (A.deeper (envOfC qual scope s.heap.objs.size f cdv)) → sp vs H Q E →
      ∃ t, PSs (cxOf CX P w K mg base N qual scope f cdv A outer s H E) body t ∧ t { nx := fun _ H' => Q .non H', rt := Q } (start N vs) H) :
    FnOk P w K mg base CX (k + 1) f (PySem.W.fnOf name qual params body scope dV kV doc pm an cdv ct) ps sp := by
  refine ⟨len, fun A outer s H args us vs Q E hr e0 hb r hsp => ?_⟩
  have hl := len _ _ _ _ hsp
  have KX : K.In s.heap := e0.mod.kin.keeps fun b o e => (e0.bs b o e).1
  have lim : s.heap.NoLimit := e0.mod.nolimit.keeps fun b o e => (e0.bs b o e).1
  have hkind : ∀ y ∈ ps.zip us, scope.names.lookup y.1 = some .local ∨ (scope.names.lookup y.1 = some .cell ∧ ((cellsFrom (s.heap.objs.size + 1) scope.names []).lookup y.1).isSome = true) := fun ⟨n, v⟩ hy => by
    rcases S.par n (List.of_mem_zip hy).1 with q | q
    · exact .inl q
    · exact .inr ⟨q, PySem.W.cellsFrom_some _ _ _ (.inl q)⟩
  refine codeAny_call_function hr.depth (KX _ _ lk) rfl S.co S.gen rfl (PySem.W.codeRec_of KX hcd) (hb _ _ _ _ ?_)
  refine wpAny_newFunctionEnv_cells S.kind hkind fun env he s1 x => ?_
  subst he
  refine ⟨lim.keeps x.toInCall.keep, codeAny_func ?_⟩
  obtain ⟨t, ht, hq⟩ := hbody A outer s H vs Q E (hr.deeper _) hsp
  have I : Inv (cxOf CX P w K mg base N qual scope f cdv A outer s H E) [] (start N vs) H s1 := inv_start S hr.hd e0 hl r x
  refine wpAny_mono (ht [] s1 (start N vs) H _ I hq) (fun fl s' hs => ?_) fun e s' hs => hs
  have fin : ∀ {σ' : St} {H' : Hp} {v : V} {u : Value}, Inv (cxOf CX P w K mg base N qual scope f cdv A outer s H E) [] σ' H' s' → RelV v u → Q v H' → CE outer P w H s Q u s' :=
    fun {σ' H' v u} J rv q => ⟨v, H', J.os, J.bare, J.base, J.hok, rv, q⟩
  cases fl with
  | ret u =>
    obtain ⟨v, σ', H', J, rv, q⟩ := hs
    exact fin J rv q
  | next =>
    obtain ⟨σ', H', J, q⟩ := hs
    exact fin (v := V.non) (u := Value.none) J rfl q
  | brk =>
    obtain ⟨_, _, _, q⟩ := hs
    exact False.elim q
  | cont =>
    obtain ⟨_, _, _, q⟩ := hs
    exact False.elim q
end L2

namespace L2
open PySem PySem.Spec PyProof.Rows
section
variable {X : Cx} {x : Str} {p pos : Pos} {e : Expr} {es : List Expr} {t : TA} {id T : String} {r : List V → Hp → VK → Prop}

def tCB (r : List V → Hp → VK → Prop) (t : TA) : TE := fun σ H Q => t σ H fun vs H1 => r vs H1 Q
/-- f(e, ..), f a built-in function -/
theorem pe_callB (hc : CallR X (.builtin id) r) (hg : Gl X x) (hm : X.mg x = none) (hv : bootBuiltins x = some (.builtin id)) (ha : PA X (e :: es) t) (hn : x ≠ "__name__" := by decide) (hdb : (x == ("__debug__" : Str)) = false := by decide)
    (he : starEach (e :: es) X.env = (false, eval e X.env) :: starEach es X.env := by rfl) (hpl : (backTo pos (starEach es X.env)).any (·.1) = false := by rfl) : PE X (.Call (.Name x p) (e :: es) [] pos) (tCB r t) := by
  intro pins s σ H Q I h
  refine wpAny_Call_Name_kw (ld_blt I hg hm hv ?_ hn hdb)
  exact PyProof.Rows.callWith_builtin1 (thn (ha pos pins s σ H _ I h) fun us s1 ⟨vs, H1, I1, r1, q1⟩ => hc pins s1 σ H1 vs us Q I1 r1 q1) he hpl
/-- T(e, ..), T a built-in type -/
theorem pe_callTy (hc : CallR X (.type T) r) (hg : Gl X x) (hm : X.mg x = none) (hv : bootBuiltins x = some (.type T)) (ha : PA X (e :: es) t) (hn : x ≠ "__name__" := by decide) (hdb : (x == ("__debug__" : Str)) = false := by decide)
    (he : starEach (e :: es) X.env = (false, eval e X.env) :: starEach es X.env := by rfl) (hpl : (backTo pos (starEach es X.env)).any (·.1) = false := by rfl) : PE X (.Call (.Name x p) (e :: es) [] pos) (tCB r t) := by
  intro pins s σ H Q I h
  refine wpAny_Call_Name_kw (ld_blt I hg hm hv ?_ hn hdb)
  exact PyProof.Rows.callWith_type1 (thn (ha pos pins s σ H _ I h) fun us s1 ⟨vs, H1, I1, r1, q1⟩ => hc pins s1 σ H1 vs us Q I1 r1 q1) he hpl
end
end L2

namespace HT
open PySem PyProof.Rows

/-- t < u of tuples of ints -/
def lexLt : List Int → List Int → Bool
  | [], [] => false
  | [], _ :: _ => true
  | _ :: _, [] => false
  | x :: xs, y :: ys => if x = y then lexLt xs ys else decide (x < y)
theorem lexLt_cons (x y : Int) (xs ys : List Int) : lexLt (x :: xs) (y :: ys) = if x = y then lexLt xs ys else decide (x < y) := rfl
theorem lexLt_nil_nil : lexLt [] [] = false := rfl
theorem lexLt_nil_cons (y : Int) (ys : List Int) : lexLt [] (y :: ys) = true := rfl
theorem lexLt_cons_nil (x : Int) (xs : List Int) : lexLt (x :: xs) [] = false := rfl

theorem eqAt_int (A : Around) (s : Shared) (a : Int) (t : Tok) (c : Int) (u : Tok) : ∃ e, SeqAt.EqAt A s (.int a t) (.int c u) e ∧ (e = true ↔ a = c) :=
  ⟨(a == c), SeqAt.EqAt.int_int a t c u, by simp⟩
theorem rcLt_int (A : Around) (s : Shared) (a : Int) (t : Tok) (c : Int) (u : Tok) (prog : Program) (w : World) (E : Value → Shared → Prop) (Q : Value → Shared → Prop) (h : Q (.bool (decide (a < c))) s) :
    wpAny (model prog w) A (richCompare .Lt (.int a t) (.int c u)) Q E s :=
  (PyProof.Rows.lt_int h : wpAny (model prog w) A (compareOp .Lt (.int a t) (.int c u)) Q E s)

section
open PySem.SeqAt
open PySem.AutoSeq1 (wpAny_loadPart')
open PySem.MeetsSeq PySem.MeetsSeq2 PySem.MeetsSeq3

theorem tuple_lt_ints (l b : Addr) (items items2 : Array Value) (n n2 : Nat) (dd dd2 : Option Addr) (sl sl2 : Array (Option Value)) (ns ms : List Int) (hi : IntsAre items.toList ns) (hj : IntsAre items2.toList ms) :
    Meets (Builtin.«tuple.__lt__» ⟨[.ref l, .ref b], []⟩)
      (fun _ R s => s.heap.get? l = some { cls := .type "tuple", dict := dd, data := .seq items n, slots := sl } ∧ s.heap.get? b = some { cls := .type "tuple", dict := dd2, data := .seq items2 n2, slots := sl2 } ∧
        R (.ok (.ret (.bool (lexLt ns ms)))) s) :=
  .of_wp fun prog w A R s h => by
    obtain ⟨hp, g, d, tk, os⟩ := s; obtain ⟨hl, hb, h⟩ := h
    have f2 := AutoSeq1.sub_tuple_tuple
    have z1 : items.size = ns.length := by rw [← hi.length]; simp
    have z2 : items2.size = ms.length := by rw [← hj.length]; simp
    wp_walk using wpAny_loadPart' hl, wpAny_loadPart' hb, wpAny_forIn_list _ (fun rest b s' => b.1 = none ∧ s' = ⟨hp, g, d, tk, os⟩ ∧ ∃ (vs ws : List Value) (ns' ms' : List Int), rest = vs.zip ws ∧
      IntsAre vs ns' ∧ IntsAre ws ms' ∧ ns'.length + items2.size = ms'.length + items.size ∧ R (.ok (.ret (.bool (lexLt ns' ms')))) ⟨hp, g, d, tk, os⟩) _
    case turn =>
      rintro ⟨y, x⟩ rest b s' ⟨hb', rfl, vs, ws, ns', ms', hz, hvi, hwi, hlen, hR⟩
      cases hvi with
      | nil => rw [List.zip_nil_left] at hz; cases hz
      | cons a t hvi' =>
        cases hwi with
        | nil => rw [List.zip_nil_right] at hz; cases hz
        | cons c u hwi' =>
          rw [List.zip_cons_cons] at hz
          injection hz with hyx hrest
          injection hyx with hy hx
          subst hy hx
          rw [lexLt_cons] at hR
          simp only [List.length_cons] at hlen
          obtain ⟨e, he, hiff⟩ := eqAt_int A.in1 ⟨hp, g, d, tk, os⟩ a t c u
          refine wpAny_bind (he prog w _ _ ?_)
          cases e with
          | true =>
            rw [if_pos (hiff.mp rfl)] at hR
            wp_walk
            exact ⟨rfl, rfl, _, _, _, _, hrest, hvi', hwi', by omega, hR⟩
          | false =>
            rw [if_neg (fun q => absurd (hiff.mpr q) Bool.false_ne_true)] at hR
            have hri := rcLt_int A.in1 ⟨hp, g, d, tk, os⟩ a t c u prog w
            wp_walk using hri
            exact ⟨_, rfl, by simpa using hR⟩
    case fin =>
      rintro ⟨b1, b2⟩ s' ⟨hb', rfl, vs, ws, ns', ms', hz, hvi, hwi, hlen, hR⟩
      simp only at hb'
      subst hb'
      have hv : lexLt ns' ms' = decide (items.size < items2.size) := by
        cases hvi with
        | nil =>
          cases hwi with
          | nil =>
            simp only [List.length_nil] at hlen
            rw [lexLt_nil_nil]
            exact (decide_eq_false (by omega)).symm
          | cons c u hw =>
            simp only [List.length_nil, List.length_cons] at hlen
            rw [lexLt_nil_cons]
            exact (decide_eq_true (by omega)).symm
        | cons a t hv =>
          cases hwi with
          | nil =>
            simp only [List.length_nil, List.length_cons] at hlen
            rw [lexLt_cons_nil]
            exact (decide_eq_false (by omega)).symm
          | cons c u hw =>
            rw [List.zip_cons_cons] at hz
            cases hz
      rw [hv] at hR
      wp_walk
      exact ⟨_, rfl, by simpa [Builtin.Tuple.tupleCompareSizes] using hR⟩
    case h =>
      exact ⟨rfl, rfl, items.toList, items2.toList, ns, ms, rfl, hi, hj, by omega, h⟩
end

section
variable {prog : Program} {w : World} {A : Around} {E : Value → Shared → Prop} {s : Shared}

theorem lt_tupInts {l b : Addr} {items items2 : Array Value} {ns ms : List Int} {Q : Value → Shared → Prop} (hl : IsTup s.heap l items) (hb : IsTup s.heap b items2) (hi : IntsAre items.toList ns) (hj : IntsAre items2.toList ms)
    (hu : A.units < cLine) (h : Q (.bool (lexLt ns ms)) s) : wpAny (model prog w) A (compareOp .Lt (.ref l) (.ref b)) Q E s := by
  obtain ⟨⟨cls, dd, data, sl⟩, ho, hc, n, hd⟩ := id hl
  obtain ⟨⟨cls2, dd2, data2, sl2⟩, ho2, hc2, n2, hd2⟩ := id hb
  simp only at hc hd hc2 hd2
  subst hc hd hc2 hd2
  exact richCompare_meets_room (op := .Lt) ⟨_, ho, rfl⟩ ⟨_, ho2, rfl⟩ PySem.F.slot_tuple_lt PySem.F.entry_tuple_lt (PySem.F.args_tuple_lt_2 _ _) (tuple_lt_ints l b items items2 n n2 dd dd2 sl sl2 ns ms hi hj)
    ⟨ho, ho2, show Value.bool (lexLt ns ms) ≠ Value.notImplemented ∧ Q (.bool (lexLt ns ms)) s from ⟨(fun x => nomatch x), h⟩⟩ hu

/-- t + u, t not empty -/
theorem cat_tup {t b : Addr} {vs ws : List Value} {Q : Value → Shared → Prop} (ht : IsTup s.heap t vs.toArray) (hb : IsTup s.heap b ws.toArray) (hv : vs ≠ [])
    (h1 : ws = [] → Q (.ref t) s) (h2 : ws ≠ [] → Q (.ref s.heap.objs.size) { s with heap := s.heap.push { cls := .type "tuple", data := .seq (vs ++ ws).toArray } })
    (hsz : vs.length + ws.length ≤ sizeLine) : wpAny (model prog w) A (binaryOp .Add (.ref t) (.ref b)) Q E s := by
  obtain ⟨⟨cls, dd, data, sl⟩, ho, hc, n, hd⟩ := id ht
  obtain ⟨⟨cls2, dd2, data2, sl2⟩, ho2, hc2, n2, hd2⟩ := id hb
  simp only at hc hd hc2 hd2
  subst hc hd hc2 hd2
  have e : vs.toArray ++ ws.toArray = (vs ++ ws).toArray := by simp
  by_cases hw : ws = []
  · exact concat_meets ⟨_, ho, rfl⟩ ⟨_, ho2, rfl⟩ noFill_tuple_add seq_tuple_add PySem.F.slot_tuple_add PySem.F.entry_tuple_add (PySem.F.args_tuple_add_2 _ _)
      (tuple_addW1 t b vs.toArray ws.toArray n n2 dd dd2 sl sl2 (by simpa using hv) (by simp [hw])) ⟨ho, ho2, h1 hw⟩
  · refine concat_meets ⟨_, ho, rfl⟩ ⟨_, ho2, rfl⟩ noFill_tuple_add seq_tuple_add PySem.F.slot_tuple_add PySem.F.entry_tuple_add (PySem.F.args_tuple_add_2 _ _)
      (tuple_addW2 t b vs.toArray ws.toArray n n2 dd dd2 sl sl2 (by simpa using hv) (by simpa using hw) (by rw [List.size_toArray, List.size_toArray]; exact hsz)) ⟨ho, ho2, ?_⟩
    rw [e]
    exact h2 hw

/-! ### t[a:b], not the whole -/
/-- a slice's bound as a place among n (d where it is left out) -/
def sIx (n d : Nat) : Option Int → Nat
  | none => d
  | some v => if v < 0 then (v + (n : Int)).toNat else min v.toNat n
theorem sIx_le (n d : Nat) (hd : d ≤ n) (o : Option Int) : sIx n d o ≤ n := by
  cases o with
  | none => exact hd
  | some v =>
    show (if v < 0 then (v + (n : Int)).toNat else min v.toNat n) ≤ n
    by_cases hv : v < 0
    · rw [if_pos hv]; omega
    · rw [if_neg hv]; exact Nat.min_le_right _ _
theorem clip_eq (v : Int) (n d : Nat) : (if v < 0 then max (v + (n : Int)) 0 else min v (n : Int)) = ((sIx n d (some v) : Nat) : Int) := by
  show (if v < 0 then max (v + (n : Int)) 0 else min v (n : Int)) = (((if v < 0 then (v + (n : Int)).toNat else min v.toNat n) : Nat) : Int)
  by_cases hv : v < 0
  · simp only [if_pos hv]; omega
  · simp only [if_neg hv]; omega
theorem adjust_gen (lo hi : Option Int) (n : Nat) : Builtin.Slice.sliceAdjust lo hi 1 (n : Int) = (((sIx n 0 lo : Nat) : Int), ((sIx n n hi : Nat) : Int)) := by
  have h1 : ¬ ((1 : Int) < 0) := by omega
  unfold Builtin.Slice.sliceAdjust
  simp only [h1, if_false]
  refine Prod.ext ?_ ?_
  · cases lo with
    | none => rfl
    | some v => exact clip_eq v n 0
  · cases hi with
    | none => rfl
    | some v => exact clip_eq v n n
theorem places_gen (i j : Nat) : Builtin.Slice.slicePlaces (i : Int) (j : Int) 1 = j - i := by
  unfold Builtin.Slice.slicePlaces
  have h1 : (1 : Int) > 0 := by omega
  simp only [h1, if_true, Int.ediv_one]
  split <;> omega
theorem slicePart_ {v : Value} {o : Option Int} {Q : Option Int → Shared → Prop} (p : IsPart v o) (h : Q o s) : wpAny (model prog w) A (Builtin.Slice.slicePartIndex v) Q E s := by
  cases p with
  | none => exact slicePart_none h
  | int i t => exact slicePart_int h
theorem sliceApplied_gen {sl : Addr} {vl vu : Value} {lo hi : Option Int} {n : Nat} {Q : Int × Int × Nat → Shared → Prop} (hs : s.heap.IsSliceOf sl vl vu .none) (pl : IsPart vl lo) (pu : IsPart vu hi)
    (h : Q (((sIx n 0 lo : Nat) : Int), 1, sIx n n hi - sIx n 0 lo) s) : wpAny (model prog w) A (Builtin.Slice.sliceApplied (.ref sl) (pure (n : Int))) Q E s := by
  obtain ⟨os, hos, hcs, hds⟩ := id hs
  unfold Builtin.Slice.sliceApplied Builtin.Slice.sliceFields
  refine wpAny_bind (wpAny_bind (wpAny_field hos hds (x := vl) rfl (wpAny_bind (wpAny_field hos hds (x := vu) rfl (wpAny_bind (wpAny_field hos hds (x := .none) rfl (wpAny_pure ?_)))))))
  refine wpAny_bind (slicePart_none ?_)
  show wpAny _ _ (if ((1 : Int) == 0) = true then _ else _) _ _ s
  rw [if_neg (by decide)]
  refine wpAny_bind (slicePart_ pl (wpAny_bind (slicePart_ pu (wpAny_bind (wpAny_pure ?_)))))
  show wpAny _ _ (match Builtin.Slice.sliceAdjust lo hi 1 (n : Int) with | (lo, hi) => pure (lo, (1 : Int), Builtin.Slice.slicePlaces lo hi 1)) _ _ s
  rw [adjust_gen lo hi n]
  show wpAny _ _ (pure (((sIx n 0 lo : Nat) : Int), (1 : Int), Builtin.Slice.slicePlaces ((sIx n 0 lo : Nat) : Int) ((sIx n n hi : Nat) : Int) 1)) _ _ s
  rw [places_gen]
  exact wpAny_pure h
theorem pick_gen (xs : Array Value) (i k : Nat) : ((List.range k).filterMap fun (m : Nat) => xs[((i : Int) + (m : Int) * 1).toNat]?).toArray = ((xs.toList.drop i).take k).toArray := by
  have e : (fun (m : Nat) => xs[((i : Int) + (m : Int) * 1).toNat]?) = fun m => xs[i + m]? := by
    funext m
    have : ((i : Int) + (m : Int) * 1).toNat = i + m := by omega
    rw [this]
  rw [e]
  have := pick_run xs i k
  rw [List.filterMap_map] at this
  have e2 : ((fun x => xs[x]?) ∘ fun x => i + x) = fun m => xs[i + m]? := rfl
  rw [e2] at this
  rw [this]

theorem getItem_tuple_cut {t sl : Addr} {items : Array Value} {vl vu : Value} {lo hi : Option Int} {Q : Value → Shared → Prop} (ht : IsTup s.heap t items) (hs : s.heap.IsSliceOf sl vl vu .none) (pl : IsPart vl lo) (pu : IsPart vu hi)
    (hw : ¬ (sIx items.size 0 lo = 0 ∧ sIx items.size items.size hi = items.size))
    (h : Q (.ref s.heap.objs.size) { s with heap := s.heap.push { cls := .type "tuple", data := .seq ((items.toList.drop (sIx items.size 0 lo)).take (sIx items.size items.size hi - sIx items.size 0 lo)).toArray } })
    (hsz : items.size ≤ sizeLine) : wpAny (model prog w) A (getItem (.ref t) (.ref sl)) Q E s := by
  have htake : sizeOk (.seq ((items.toList.drop (sIx items.size 0 lo)).take (sIx items.size items.size hi - sIx items.size 0 lo)).toArray) := by
    show ((items.toList.drop (sIx items.size 0 lo)).take (sIx items.size items.size hi - sIx items.size 0 lo)).toArray.size ≤ sizeLine
    rw [List.size_toArray, List.length_take, List.length_drop, Array.length_toList]
    omega
  have hj : sIx items.size items.size hi ≤ items.size := sIx_le _ _ (Nat.le_refl _) hi
  obtain ⟨os, hos, hcs, hds⟩ := id hs
  have hTs : s.TypeIs (.ref sl) "slice" := ⟨os, hos, hcs⟩
  unfold getItem
  try with_reducible refine wpAny_holding ?_
  first | refine wpAny_bind (wpAny_pure ?_) | skip
  refine wpAny_bind (wpAny_sequenceKey ht.typeIs (by decide) ?_)
  refine wpAny_bind (wpAny_callSpecial?_slot (name := Str.ofString "__getitem__") ht.typeIs PyProof.Rows.slot_tuple_getitem
    (wpAny_call_entry PyProof.Rows.slot_tuple_getitem ht.typeIs entry_tuple_getitem ?_ (args_tuple_getitem _ _)))
  show wpAny _ _ (Builtin.Tuple.tupleItemsOf (.ref t) >>= _) _ _ s
  refine wpAny_bind (tupleItemsOf_ ht ?_)
  refine wpAny_bind (wpAny_typeOf hTs ?_)
  rw [if_pos (by decide)]
  refine wpAny_bind (sliceApplied_gen hs pl pu ?_)
  have hno : ¬ ((((sIx items.size 0 lo : Nat) : Int) == 0 && (1 : Int) == 1 && (sIx items.size items.size hi - sIx items.size 0 lo) == items.size) = true) := by
    intro q
    rw [Bool.and_eq_true, Bool.and_eq_true] at q
    have q1 : ((sIx items.size 0 lo : Nat) : Int) = 0 := eq_of_beq q.1.1
    have q2 : sIx items.size items.size hi - sIx items.size 0 lo = items.size := eq_of_beq q.2
    exact hw ⟨by omega, by omega⟩
  show wpAny _ _ (if (((sIx items.size 0 lo : Nat) : Int) == 0 && (1 : Int) == 1 && (sIx items.size items.size hi - sIx items.size 0 lo) == items.size) = true then _ else _) _ _ s
  rw [if_neg hno, pick_gen]
  first
    | exact wpAny_bind (m := Builtin.Tuple.tupleExact _) (wpAny_newObj_type (wpAny_pure ⟨_, rfl, wpAny_pure h⟩) htake)
    | exact wpAny_bind (m := Builtin.Tuple.tupleExact _) (wpAny_newObj_type (wpAny_bind (wpAny_pure (wpAny_pure ⟨_, rfl, wpAny_pure h⟩))) htake)
    | exact wpAny_bind (wpAny_bind (m := Builtin.Tuple.tupleExact _) (wpAny_newObj_type (wpAny_pure (wpAny_pure ⟨_, rfl, wpAny_pure h⟩)) htake))
    | exact wpAny_bind (wpAny_bind (m := Builtin.Tuple.tupleExact _) (wpAny_newObj_type (wpAny_pure ⟨_, rfl, wpAny_pure h⟩) htake))
end
end HT

namespace L2
open PySem PySem.Spec PyProof.Rows

/-! ### the parts of a slice -/
abbrev TO := St → Hp → (Option Int → Hp → Prop) → Prop
/-- a slice's part (left out, or an int) -/
def PO (X : Cx) (e : Option Expr) (t : TO) : Prop :=
  ∀ (pins : List (Addr × Obj)) (s : Shared) (σ : St) (H : Hp) (Q : Option Int → Hp → Prop), Inv X pins σ H s → t σ H Q →
    wpAny (model X.prog X.w) X.A (evalPart e X.env) (fun u s' => ∃ o H', Inv X pins σ H' s' ∧ IsPart u o ∧ Q o H') X.xe s
def tNoPart : TO := fun _ H Q => Q none H
def tPart (t : TE) : TO := fun σ H Q => t σ H fun x H1 => ∃ i, x = .int i ∧ Q (some i) H1

theorem intsAre_of {ns : List Int} : ∀ {us : List Value}, Vals (ns.map V.int) us → IntsAre us ns := by
  induction ns with
  | nil => intro us r; rw [List.map_nil] at r; cases r; exact .nil
  | cons n ns ih =>
    intro us r
    rw [List.map_cons] at r
    cases r with
    | cons r1 r2 =>
      obtain ⟨t, e⟩ := r1
      subst e
      exact .cons n t (ih r2)

section
variable {X : Cx} {e : Expr} {te : TE} {lo hi : Option Expr} {tl th : TO} {pos p2 : Pos}

theorem po_none : PO X none tNoPart := by
  intro pins s σ H Q I h
  rw [evalPart_none]
  exact wpAny_pure ⟨none, H, I, .none, h⟩
theorem po_some (h : PE X e te) : PO X (some e) (tPart te) := by
  intro pins s σ H Q I hw
  rw [evalPart_some]
  refine thn (h pins s σ H _ I hw) fun u s1 ⟨x, H1, I1, r1, q1⟩ => ?_
  obtain ⟨i, rfl, q⟩ := q1
  obtain ⟨t, rfl⟩ := r1
  exact ⟨some i, H1, I1, .int i t, q⟩

/-- what a slice of a value is, by values: the slice object stands at sl -/
def SlR (X : Cx) (r : V → Option Int → Option Int → Hp → VK → Prop) : Prop :=
  ∀ (pins : List (Addr × Obj)) (s : Shared) (σ : St) (H : Hp) (x : V) (v vl vu : Value) (lo hi : Option Int) (sl : Addr) (Q : VK), Inv X pins σ H s → RelV x v → s.heap.IsSliceOf sl vl vu .none → IsPart vl lo → IsPart vu hi → r x lo hi H Q →
    ∃ T id, typeLookup (.type T) "__getitem__" = pure (some (.builtin id)) ∧ s.TypeIs v T ∧ wpAny (model X.prog X.w) X.A (getItem v (.ref sl)) (EP X pins σ Q) X.xe s
theorem SlR.or {r r' : V → Option Int → Option Int → Hp → VK → Prop} (h : SlR X r) (h' : SlR X r') : SlR X (fun x lo hi H Q => r x lo hi H Q ∨ r' x lo hi H Q) := by
  intro pins s σ H x v vl vu lo hi sl Q I rx hs pl pu q
  rcases q with q | q
  · exact h pins s σ H x v vl vu lo hi sl Q I rx hs pl pu q
  · exact h' pins s σ H x v vl vu lo hi sl Q I rx hs pl pu q
def tSl (r : V → Option Int → Option Int → Hp → VK → Prop) (te : TE) (tl th : TO) : TE := fun σ H Q => te σ H fun x H1 => tl σ H1 fun l H2 => th σ H2 fun u H3 => r x l u H3 Q
/-- a[lo:hi], any a -/
theorem pe_slice {r : V → Option Int → Option Int → Hp → VK → Prop} (hr : SlR X r) (he : PE X e te) (hl : PO X lo tl) (hu : PO X hi th) : PE X (.Subscript e (.Slice lo hi none p2) pos) (tSl r te tl th) := by
  intro pins s σ H Q I h
  refine Subscript_ (thn (he pins s σ H _ I h) fun v s1 ⟨x, H1, I1, r1, q1⟩ => ?_)
  refine wpAny_Slice (thn (hl pins s1 σ H1 _ I1 q1) fun vl s2 ⟨l, H2, I2, pl, q2⟩ => thn (hu pins s2 σ H2 _ I2 q2) fun vu s3 ⟨u, H3, I3, pu, q3⟩ => ?_)
  rw [evalPart_none]
  refine wpAny_pure ?_
  have I4 : Inv X pins σ H3 { s3 with heap := s3.heap.push { cls := .type "slice", data := .fields #[vl, vu, .none] } } := I3.kept (t' := s3.toks) fun b ob q => Heap.get?_push_of_some _ q
  obtain ⟨T, id, hT, ht, hg⟩ := hr pins { s3 with heap := s3.heap.push { cls := .type "slice", data := .fields #[vl, vu, .none] } } σ H3 x v vl vu l u s3.heap.objs.size Q I4 r1 (Heap.IsSliceOf.new ..) pl pu q3
  show wpAny (model X.prog X.w) X.A (subscriptTail e (.Slice lo hi none p2) v (.ref s3.heap.objs.size)) (EP X pins σ Q) X.xe { s3 with heap := s3.heap.push { cls := .type "slice", data := .fields #[vl, vu, .none] } }
  exact tail_any (ops := [.ref s3.heap.objs.size, v]) ht hT hg (by with_unfolding_all rfl)

/-- the items of xs[lo:hi] -/
def cutV (xs : List V) (lo hi : Option Int) : List V := (xs.drop (HT.sIx xs.length 0 lo)).take (HT.sIx xs.length xs.length hi - HT.sIx xs.length 0 lo)
theorem cutV_length (xs : List V) (lo hi : Option Int) : (cutV xs lo hi).length ≤ xs.length := by
  unfold cutV
  rw [List.length_take, List.length_drop]
  omega
/-- t[lo:hi], not the whole of it (the whole would be t itself) -/
def rSlT (K : PySem.W.Frag) : V → Option Int → Option Int → Hp → VK → Prop := fun x lo hi H Q => ∃ a xs, x = .ref a ∧ SqT K H a xs ∧
  ¬ (HT.sIx xs.length 0 lo = 0 ∧ HT.sIx xs.length xs.length hi = xs.length) ∧ ∀ p, H p = none → Q (.ref p) (upd H p (.tup (cutV xs lo hi)))
theorem sl_tup : SlR X (rSlT X.K) := by
  intro pins s σ H x v vl vu lo hi sl Q I rx hs pl pu h
  obtain ⟨a, xs, rfl, hx, hw, q⟩ := h
  cases rx
  obtain ⟨its, r, ht, hz⟩ := I.tuple hx
  have hlen : its.toArray.size = xs.length := by rw [List.size_toArray]; exact r.length.symm
  refine ⟨"tuple", _, PyProof.Rows.slot_tuple_getitem.lookup, ht.typeIs, ?_⟩
  refine HT.getItem_tuple_cut ht hs pl pu (by rw [hlen]; exact hw) ?_ (by rw [hlen]; exact hz)
  rw [hlen]
  refine ⟨.ref s.heap.objs.size, _, I.laid (t' := s.toks) (o := .tup (cutV xs lo hi)) (fun b ob q => Heap.get?_push_of_some _ q) (Nat.le_refl _) ?_, rfl, q _ (I.hok.fresh (Nat.le_refl _))⟩
  exact ⟨Nat.le_trans (cutV_length xs lo hi) hz, _, (r.drop (HT.sIx xs.length 0 lo)).take (HT.sIx xs.length xs.length hi - HT.sIx xs.length 0 lo), IsTup.new _ _⟩

/-! ### t < u, t + u -/
/-- t + u, t not empty: u empty gives t itself -/
def rCatT (K : PySem.W.Frag) : R2 := fun x y H Q => ∃ a b xs ys, x = .ref a ∧ y = .ref b ∧ SqT K H a xs ∧ SqT K H b ys ∧ xs ≠ [] ∧ xs.length + ys.length ≤ sizeLine ∧
  (ys = [] → Q (.ref a) H) ∧ (ys ≠ [] → ∀ p, H p = none → Q (.ref p) (upd H p (.tup (xs ++ ys))))
theorem Vals.nil_iff {xs : List V} {us : List Value} (r : Vals xs us) : us = [] ↔ xs = [] := by
  cases r with
  | nil => simp
  | cons _ _ => simp
theorem op_catT : OpR X (binaryOp .Add) (rCatT X.K) := by
  intro pins s σ H x y v u Q I rx ry h
  obtain ⟨a, b, xs, ys, rfl, rfl, ha, hb, hx, hz, q1, q2⟩ := h
  cases rx
  cases ry
  obtain ⟨its, r1, p1, _⟩ := I.tuple ha
  obtain ⟨its2, r2, p2, _⟩ := I.tuple hb
  refine HT.cat_tup p1 p2 (fun z => hx (r1.nil_iff.mp z)) (fun z => ⟨.ref a, H, I, rfl, q1 (r2.nil_iff.mp z)⟩) (fun z => ?_) (by rw [← r1.length, ← r2.length]; exact hz)
  refine ⟨.ref s.heap.objs.size, _, I.laid (t' := s.toks) (o := .tup (xs ++ ys)) (fun b ob q => Heap.get?_push_of_some _ q) (Nat.le_refl _) ?_, rfl, q2 (fun w => z (r2.nil_iff.mpr w)) _ (I.hok.fresh (Nat.le_refl _))⟩
  exact ⟨by rw [List.length_append]; exact hz, _, r1.append r2, IsTup.new _ _⟩
end
end L2

namespace L2
open PySem PySem.Spec PyProof.Rows

/-! ### places -/
/-- the place that an index of any sign means -/
def ixN (n : Nat) (i : Int) : Option Nat := if 0 ≤ i then (if i < n then some i.toNat else none) else if -(n : Int) ≤ i then some (i + n).toNat else none
def atI {α : Type} (xs : List α) (i : Int) : Option α := (ixN xs.length i).bind fun j => xs[j]?
theorem ixN_seq {n : Nat} {i : Int} {j : Nat} (h : ixN n i = some j) : seqIndex? i n = some j ∧ j < n ∧ -(n : Int) ≤ i ∧ i < n := by
  unfold ixN at h
  by_cases h0 : 0 ≤ i
  · rw [if_pos h0] at h
    by_cases h1 : i < n
    · rw [if_pos h1] at h
      have e : i.toNat = j := Option.some.inj h
      exact ⟨by rw [seqIndex_of h0 h1, e], by omega, by omega, h1⟩
    · rw [if_neg h1] at h; cases h
  · rw [if_neg h0] at h
    by_cases h1 : -(n : Int) ≤ i
    · rw [if_pos h1] at h
      have e : (i + n).toNat = j := Option.some.inj h
      exact ⟨by rw [seqIndex_neg (by omega) h1, e], by omega, h1, by omega⟩
    · rw [if_neg h1] at h; cases h
theorem atI_get {α : Type} {xs : List α} {i : Int} {v : α} (h : atI xs i = some v) : ∃ j, seqIndex? i xs.length = some j ∧ xs[j]? = some v ∧ j < xs.length ∧ -(xs.length : Int) ≤ i ∧ i < xs.length := by
  unfold atI at h
  cases e : ixN xs.length i with
  | none => rw [e] at h; cases h
  | some j =>
    rw [e] at h
    obtain ⟨h1, h2, h3, h4⟩ := ixN_seq e
    exact ⟨j, h1, h, h2, h3, h4⟩
theorem atI_nat {α : Type} {xs : List α} {j : Nat} {v : α} (h : xs[j]? = some v) : atI xs (j : Int) = some v := by
  have hj : j < xs.length := (List.getElem?_eq_some_iff.mp h).1
  have e : ixN xs.length (j : Int) = some j := by
    unfold ixN
    rw [if_pos (by omega), if_pos (by omega)]; simp
  unfold atI; rw [e]; exact h
theorem atI_last {α : Type} (xs : List α) (v : α) : atI (xs ++ [v]) (-1) = some v := by
  have hl : (xs ++ [v]).length = xs.length + 1 := by simp
  have e : ixN (xs ++ [v]).length (-1) = some xs.length := by
    unfold ixN
    rw [hl, if_neg (by decide), if_pos (by omega)]
    congr 1
    omega
  unfold atI
  rw [e]
  show (xs ++ [v])[xs.length]? = some v
  simp

/-! ### what may be subscripted -/
/-- what stands as an index of a plain subscript -/
def PlainIx (b : Expr) : Prop := ∀ o i, subscripted b false o i = operate [o, i] (getItem o i)
/-- a subscript by values -/
def IxR (X : Cx) (r : R2) : Prop :=
  ∀ (value slice : Expr) (pins : List (Addr × Obj)) (s : Shared) (σ : St) (H : Hp) (x y : V) (v u : Value) (Q : VK), Inv X pins σ H s → RelV x v → RelV y u → r x y H Q →
    subscripted slice false v u = operate [v, u] (getItem v u) → wpAny (model X.prog X.w) X.A (subscriptTail value slice v u) (EP X pins σ Q) X.xe s
/-- a call of a builtin's method by values: the receiver, the arguments -/
def MtR (X : Cx) (id : String) (r : V → List V → Hp → VK → Prop) : Prop :=
  ∀ (pins : List (Addr × Obj)) (s : Shared) (σ : St) (H : Hp) (x : V) (xs : List V) (v : Value) (us : List Value) (Q : VK), Inv X pins σ H s → RelV x v → Vals xs us → r x xs H Q →
    wpAny (model X.prog X.w) X.A (call (.builtin id) (v :: us)) (EP X pins σ Q) X.xe s
section
variable {X : Cx} {a b : Expr} {ta tb : TE} {pos : Pos}
theorem IxR.or {r r' : R2} (h : IxR X r) (h' : IxR X r') : IxR X (fun x y H Q => r x y H Q ∨ r' x y H Q) := by
  intro value slice pins s σ H x y v u Q I rx ry q hs
  rcases q with q | q
  · exact h value slice pins s σ H x y v u Q I rx ry q hs
  · exact h' value slice pins s σ H x y v u Q I rx ry q hs
theorem MtR.or {id : String} {r r' : V → List V → Hp → VK → Prop} (h : MtR X id r) (h' : MtR X id r') : MtR X id (fun x xs H Q => r x xs H Q ∨ r' x xs H Q) := by
  intro pins s σ H x xs v us Q I rx rs q
  rcases q with q | q
  · exact h pins s σ H x xs v us Q I rx rs q
  · exact h' pins s σ H x xs v us Q I rx rs q
/-- a[b] -/
theorem pe_ix {r : R2} (hr : IxR X r) (ha : PE X a ta) (hb : PE X b tb) (hs : PlainIx b) : PE X (.Subscript a b pos) (tOp r ta tb) := by
  intro pins s σ H Q I h
  exact Subscript_ (binT ha hb I h fun v u s2 x y H2 I2 rx ry q => hr a b pins s2 σ H2 x y v u Q I2 rx ry q (hs _ _))

def rIxL (K : PySem.W.Frag) : R2 := fun x y H Q => ∃ p xs i v, x = .ref p ∧ y = .int i ∧ SqL K H p xs ∧ atI xs i = some v ∧ Q v H
def rIxT (K : PySem.W.Frag) : R2 := fun x y H Q => ∃ p xs i v, x = .ref p ∧ y = .int i ∧ SqT K H p xs ∧ atI xs i = some v ∧ Q v H
theorem ix_list : IxR X (rIxL X.K) := by
  intro value slice pins s σ H x y v u Q I rx ry h hs
  obtain ⟨p, xs, i, z, rfl, rfl, hq, he, q⟩ := h
  cases rx
  obtain ⟨t, rfl⟩ := ry
  obtain ⟨its, r, pl, hz⟩ := I.list hq
  obtain ⟨j, h1, h2, h3, h4, h5⟩ := atI_get he
  obtain ⟨w, ew, rw'⟩ := r.get h2
  have hl := r.length
  have hn := line63
  have fin : EP X pins σ Q w s := ⟨z, H, I, rw', q⟩
  by_cases h0 : 0 ≤ i
  · have hj : i.toNat = j := by
      rw [seqIndex_of h0 h5] at h1
      exact Option.some.inj h1
    exact item_listR pl.isList h0 (by omega) (by rw [hj]; simpa using ew) fin hs
  · have hj : (i + (its.toArray.size : Int)).toNat = j := by
      rw [seqIndex_neg (by omega) h4] at h1
      rw [List.size_toArray, ← hl]
      exact Option.some.inj h1
    exact subscriptTail_builtinR (x := w) pl.isList.typeIs slot_list_getitem.lookup
      (wpAny_getItem_list_neg (Q := fun r s' => r = w ∧ EP X pins σ Q r s') pl.isList (by omega) (by rw [List.size_toArray] <;> omega) (by omega) (by rw [hj]; simpa using ew) ⟨rfl, fin⟩) hs
theorem ix_tup : IxR X (rIxT X.K) := by
  intro value slice pins s σ H x y v u Q I rx ry h hs
  obtain ⟨p, xs, i, z, rfl, rfl, hq, he, q⟩ := h
  cases rx
  obtain ⟨t, rfl⟩ := ry
  obtain ⟨its, r, pl, hz⟩ := I.tuple hq
  obtain ⟨j, h1, h2, h3, h4, h5⟩ := atI_get he
  obtain ⟨w, ew, rw'⟩ := r.get h2
  have hl := r.length
  have hn := line63
  have fin : EP X pins σ Q w s := ⟨z, H, I, rw', q⟩
  exact subscriptTail_builtinR (x := w) pl.typeIs slot_tuple_getitem.lookup
    (getItem_tuple (j := j) (Q := fun r s' => r = w ∧ EP X pins σ Q r s') pl (by omega) (by omega) (by rw [List.size_toArray, ← hl]; exact h1) (by simpa using ew) ⟨rfl, fin⟩) hs
/-! ### xs[i] = v, any sign -/
theorem Inv.lst {pins : List (Addr × Obj)} {σ : St} {H : Hp} {s : Shared} {p : Addr} {xs : List V} (I : Inv X pins σ H s) (h : H p = some (.lst xs)) :
    ∃ (its : List Value) (n : Nat), Vals xs its ∧ s.heap.get? p = some { cls := .type "list", data := .seq its.toArray n } ∧ xs.length ≤ sizeLine := by
  obtain ⟨z, its, n, r, e⟩ := I.hok p _ h
  exact ⟨its, n, r, e, z⟩
/-! ### slices -/
/-! ### in, not in: flat items -/
def flatV : V → Bool
  | .non => true
  | .bl _ => true
  | .int _ => true
  | .str _ => true
  | _ => false
/-- == of flat values -/
def eqV : V → V → Bool
  | .non, .non => true
  | .bl a, .bl b => a == b
  | .bl a, .int b => (if a then 1 else 0) == b
  | .int a, .bl b => a == (if b then 1 else 0)
  | .int a, .int b => a == b
  | .str a, .str b => a == b
  | _, _ => false
theorem eqAt_V {A : Around} {s : Shared} {y x : V} {u v : Value} (ry : RelV y u) (rx : RelV x v) (fy : flatV y = true) (fx : flatV x = true) : SeqAt.EqAt A s u v (eqV y x) := by
  cases y with
  | non =>
    cases ry
    cases x with
    | non => cases rx; exact SeqAt.EqAt.same _
    | bl b => cases rx; exact SeqAt.EqAt.none_bool b
    | int b => obtain ⟨t, rfl⟩ := rx; exact SeqAt.EqAt.none_int b t
    | str b => obtain ⟨t, rfl⟩ := rx; exact SeqAt.EqAt.none_str b t
    | _ => exact absurd (show false = true from fx) Bool.false_ne_true
  | bl a =>
    cases ry
    cases x with
    | non => cases rx; exact SeqAt.EqAt.bool_none a
    | bl b => cases rx; exact SeqAt.EqAt.bool_bool a b
    | int b => obtain ⟨t, rfl⟩ := rx; exact SeqAt.EqAt.bool_int a b t
    | str b => obtain ⟨t, rfl⟩ := rx; exact SeqAt.EqAt.bool_str a b t
    | _ => exact absurd (show false = true from fx) Bool.false_ne_true
  | int a =>
    obtain ⟨t', rfl⟩ := ry
    cases x with
    | non => cases rx; exact SeqAt.EqAt.int_none a t'
    | bl b => cases rx; exact SeqAt.EqAt.int_bool a t' b
    | int b => obtain ⟨t, rfl⟩ := rx; exact SeqAt.EqAt.int_int a t' b t
    | str b => obtain ⟨t, rfl⟩ := rx; exact SeqAt.EqAt.int_str a t' b t
    | _ => exact absurd (show false = true from fx) Bool.false_ne_true
  | str a =>
    obtain ⟨t', rfl⟩ := ry
    cases x with
    | non => cases rx; exact SeqAt.EqAt.str_none a t'
    | bl b => cases rx; exact SeqAt.EqAt.str_bool a t' b
    | int b => obtain ⟨t, rfl⟩ := rx; exact SeqAt.EqAt.str_int a t' b t
    | str b => obtain ⟨t, rfl⟩ := rx; exact SeqAt.EqAt.str_str a t' b t
    | _ => exact absurd (show false = true from fx) Bool.false_ne_true
  | _ => exact absurd (show false = true from fy) Bool.false_ne_true
/-! ### len, list(x), tuple(x) of any list or tuple that is read -/
theorem call_len_seq : CallR X (.builtin "len") (fun xs H Q => ∃ p ys, xs = [.ref p] ∧ (SqL X.K H p ys ∨ SqT X.K H p ys) ∧ Q (.int ys.length) H) := by
  intro pins s σ H xs us Q I r h
  obtain ⟨p, ys, rfl, hq, q⟩ := h
  obtain ⟨u, rfl, rx⟩ := vals1 r
  cases rx
  have hn := line63
  rcases hq with hq | hq
  · obtain ⟨its, r', pl, hz⟩ := I.list hq
    have hlen := r'.length
    exact Calls.call_len_list pl.isList (by simp only [List.size_toArray] <;> omega) ⟨.int ys.length, H, I.tok _, ⟨s.toks + 1, by rw [List.size_toArray, hlen]⟩, q⟩
  · obtain ⟨its, r', pl, hz⟩ := I.tuple hq
    have hlen := r'.length
    exact len_tuple pl (by simp only [List.size_toArray] <;> omega) ⟨.int ys.length, H, I.tok _, ⟨s.toks + 1, by rw [List.size_toArray, hlen]⟩, q⟩
theorem CallR.or {f : Value} {r r' : List V → Hp → VK → Prop} (h : CallR X f r) (h' : CallR X f r') : CallR X f (fun xs H Q => r xs H Q ∨ r' xs H Q) := by
  intro pins s σ H xs us Q I rs q
  rcases q with q | q
  · exact h pins s σ H xs us Q I rs q
  · exact h' pins s σ H xs us Q I rs q
theorem call_list_of : CallR X (.type "list") (fun xs H Q => ∃ p ys, xs = [.ref p] ∧ (SqL X.K H p ys ∨ SqT X.K H p ys) ∧ ∀ l, H l = none → Q (.ref l) (upd H l (.lst ys))) := by
  intro pins s σ H xs us Q I r h
  obtain ⟨p, ys, rfl, hq, q⟩ := h
  obtain ⟨u, rfl, rx⟩ := vals1 r
  cases rx
  have fin : ∀ (its : List Value), Vals ys its → ys.length ≤ sizeLine → ∀ (h' : Heap) (c' : Nat), (∀ b o', s.heap.get? b = some o' → h'.get? b = some o') →
      h'.get? s.heap.objs.size = some { cls := .type "list", dict := none, data := .seq its.toArray c', slots := #[] } → EP X pins σ Q (.ref s.heap.objs.size) { s with heap := h' } := fun its r' hz h' c' kp e =>
    ⟨.ref s.heap.objs.size, _, I.laid (t' := s.toks) kp (Nat.le_refl _) (show ObjOk X.prog X.w _ h' _ (.lst ys) from ⟨hz, its, c', r', e⟩), rfl, q _ (I.hok.fresh (Nat.le_refl _))⟩
  rcases hq with hq | hq
  · obtain ⟨its, r', pl, hz⟩ := I.list hq
    have hlen := r'.length
    obtain ⟨o, ho, hc, n, hd⟩ := pl.isList
    exact call_list_seq p (.inl rfl) ho hc hd (fun h' c' kp e => fin its r' hz h' c' kp e) (by simp only [List.size_toArray] <;> omega)
  · obtain ⟨its, r', pl, hz⟩ := I.tuple hq
    have hlen := r'.length
    obtain ⟨o, ho, hc, n, hd⟩ := pl
    exact call_list_seq p (.inr rfl) ho hc hd (fun h' c' kp e => fin its r' hz h' c' kp e) (by simp only [List.size_toArray] <;> omega)
theorem call_tuple_of : CallR X (.type "tuple") (fun xs H Q => ∃ p ys, xs = [.ref p] ∧ ((SqL X.K H p ys ∧ ∀ l, H l = none → Q (.ref l) (upd H l (.tup ys))) ∨ (SqT X.K H p ys ∧ Q (.ref p) H))) := by
  intro pins s σ H xs us Q I r h
  obtain ⟨p, ys, rfl, h⟩ := h
  obtain ⟨u, rfl, rx⟩ := vals1 r
  cases rx
  rcases h with ⟨hq, q⟩ | ⟨hq, q⟩
  · obtain ⟨its, r', pl, hz⟩ := I.list hq
    have hlen := r'.length
    refine call_tuple_list pl.isList (fun h' kp => ?_) (by simp only [List.size_toArray] <;> omega)
    have I1 : Inv X pins σ H { s with heap := h' } := I.kept (t' := s.toks) kp
    have I2 : Inv X pins σ (upd H h'.objs.size (.tup ys)) { s with heap := h'.push { cls := .type "tuple", data := .seq its.toArray } } :=
      I1.laid (t' := s.toks) (fun b o e => Heap.get?_push_of_some _ e) (Nat.le_refl _) (show ObjOk X.prog X.w _ _ _ (.tup ys) from ⟨hz, its, r', IsTup.new _ _⟩)
    exact ⟨.ref h'.objs.size, _, I2, rfl, q _ (I1.hok.fresh (Nat.le_refl _))⟩
  · obtain ⟨its, r', pl, hz⟩ := I.tuple hq
    exact call_tuple_same pl ⟨.ref p, H, I, rfl, q⟩

/-! ### the call of a builtin's method: o.m(..) -/
/-- the value is of that builtin type -/
def tyV (K : PySem.W.Frag) (T : String) (x : V) (H : Hp) : Prop := match x with
  | .str _ => T = "str"
  | .int _ => T = "int"
  | .ref p => (T = "list" ∧ ∃ xs, SqL K H p xs) ∨ (T = "tuple" ∧ ∃ o, K.lookup p = some o ∧ o.cls = .type "tuple" ∧ o.dict = none) ∨
      (T = "dict" ∧ ((∃ kvs, H p = some (.dK kvs)) ∨ ∃ kvs, H p = some (.dT kvs))) ∨ (T = "set" ∧ ∃ S n, H p = some (.set S n))
  | _ => False
theorem tyV_is {pins : List (Addr × Obj)} {σ : St} {H : Hp} {s : Shared} {T : String} {x : V} {v : Value} (I : Inv X pins σ H s) (r : RelV x v) (ty : tyV X.K T x H) :
    s.TypeIs v T ∧ ∀ a, v = .ref a → ∃ ob, s.heap.get? a = some ob ∧ ob.dict = none := by
  cases x with
  | str z =>
    obtain ⟨t, rfl⟩ := r
    cases (show T = "str" from ty)
    exact ⟨typeIs_str s z t, fun _ e => nomatch e⟩
  | int i =>
    obtain ⟨t, rfl⟩ := r
    cases (show T = "int" from ty)
    exact ⟨typeIs_int s i t, fun _ e => nomatch e⟩
  | ref p =>
    cases r
    rcases ty with ⟨rfl, xs, hq⟩ | ⟨rfl, o, hk, hc, hd⟩ | ⟨rfl, hk⟩ | ⟨rfl, S, n, hk⟩
    · obtain ⟨its, _, pl, _⟩ := I.list hq
      refine ⟨pl.isList.typeIs, fun a e => ?_⟩
      cases e
      obtain ⟨o, n, e, c, hd, _⟩ := pl
      exact ⟨o, e, hd⟩
    · refine ⟨⟨o, I.kIn p o hk, hc⟩, fun a e => ?_⟩
      cases e
      exact ⟨o, I.kIn _ o hk, hd⟩
    · have z : ∃ o, s.heap.get? p = some o ∧ o.ExactDict := by
        rcases hk with ⟨kvs, hk⟩ | ⟨kvs, hk⟩
        · obtain ⟨_, _, _, _, o, _, _, e, ex, _⟩ := I.hok p _ hk
          exact ⟨o, e, ex⟩
        · obtain ⟨_, _, _, _, o, _, _, e, ex, _⟩ := I.hok p _ hk
          exact ⟨o, e, ex⟩
      obtain ⟨o, e, ex⟩ := z
      refine ⟨⟨o, e, ex.1⟩, fun a e2 => ?_⟩
      cases e2
      exact ⟨o, e, ex.2.1⟩
    · obtain ⟨o, _, _, _, e, ex, _⟩ := I.hok p _ hk
      refine ⟨⟨o, e, ex.1⟩, fun a e2 => ?_⟩
      cases e2
      exact ⟨o, e, ex.2.1⟩
  | _ => exact False.elim ty
def tBM (K : PySem.W.Frag) (T : String) (r : V → List V → Hp → VK → Prop) (to : TE) (t : TA) : TE := fun σ H Q => to σ H fun x H1 => tyV K T x H1 ∧ t σ H1 fun xs H2 => r x xs H2 Q
variable {o e : Expr} {es : List Expr} {to : TE} {t : TA} {name : Str} {apos cpos : Pos} {T id : String} {r : V → List V → Hp → VK → Prop}
theorem pe_bm (pa : PlainAttrs T) (slot : Slot T name id) (hty : typeOf (.builtin id) = pure (.type "method_descriptor")) (hm : MtR X id r) (ho : PE X o to) (ha : PA X (e :: es) t)
    (hbase : attributeBase o name X.env (eval o X.env) = eval o X.env := by rfl)
    (hfew : ((backTo cpos (starEach (e :: es) X.env)).all (fun x => !x.1) && (backToKw cpos (keywordEach [] X.env)).all (fun x => x.1.isSome)
      && decide ((e :: es).length + ([] : List Keyword).length + (if ([] : List Keyword).isEmpty then 0 else 1) < 30)) = true := by rfl)
    (hline : (apos.endLine == cpos.line) = true := by rfl) (hs : starEach (e :: es) X.env = (false, eval e X.env) :: starEach es X.env := by rfl) (hplain : (backTo cpos (starEach es X.env)).any (·.1) = false := by rfl) :
    PE X (.Call (.Attribute o name apos) (e :: es) [] cpos) (tBM X.K T r to t) := by
  intro pins s σ H Q I h
  refine wpAny_Call_method_late hbase hfew hline rfl (thn (ho pins s σ H _ I h) fun v s1 ⟨x, H1, I1, r1, ty, q1⟩ => ?_)
  obtain ⟨h1, h2⟩ := tyV_is I1 r1 ty
  refine ⟨T, id, pa, slot, hty, h1, h2, ?_⟩
  have hA := ha cpos pins s1 σ H1 _ I1 q1
  rw [hs] at hA ⊢
  refine Calls.callWith_builtin (by show (false || (backTo cpos (starEach es X.env)).any (·.1)) = false; rw [hplain] <;> rfl) (Calls.evalArgs_plain ?_)
  exact thn hA fun us s2 ⟨vs, H2, I2, r2, q2⟩ => hm pins s2 σ H2 x vs v us Q I2 r1 r2 q2
/- xs.append(e), list.index on a module's tuple .. are MtR facts of 06m -/
end
end L2

namespace L2
open PySem PySem.Spec PyProof.Rows

def MtM (X : Cx) (id : String) (r : V → List V → Hp → VK → Prop) : Prop :=
  ∀ (pins : List (Addr × Obj)) (s : Shared) (σ : St) (H : Hp) (x : V) (xs : List V) (v : Value) (us : List Value) (Q : VK), Inv X pins σ H s → RelV x v → Vals xs us → r x xs H Q →
    wpAny (model X.prog X.w) X.A (call (.builtin id) (v :: us)) (EP X pins σ Q) X.xe s

/-! ### lists of values -/
theorem Vals.one : ∀ {x : V} {us : List Value}, Vals [x] us → ∃ u, us = [u] ∧ RelV x u
  | _, _, .cons r .nil => ⟨_, rfl, r⟩
theorem Vals.two : ∀ {x y : V} {us : List Value}, Vals [x, y] us → ∃ u v, us = [u, v] ∧ RelV x u ∧ RelV y v
  | _, _, _, .cons r (.cons q .nil) => ⟨_, _, rfl, r, q⟩
theorem Vals.zero : ∀ {us : List Value}, Vals [] us → us = []
  | _, .nil => rfl
theorem Vals.dropLast {xs : List V} {us : List Value} (h : Vals xs us) : Vals xs.dropLast us.dropLast := by
  induction h with
  | nil => exact .nil
  | cons r t ih =>
    cases t with
    | nil => exact .nil
    | cons q t' => exact .cons r ih
section
variable {X : Cx} {pins : List (Addr × Obj)} {σ : St} {H : Hp} {s : Shared} {l b : Addr} {xs ys zs : List V}

/-! ### the two steps: a tracked list is rewritten, a new list is laid -/
theorem Inv.lset {its its' : List Value} {n : Nat} {f : Array Value → Array Value} {t' : Nat} (I : Inv X pins σ H s) (hH : H l = some (.lst xs))
    (e : s.heap.get? l = some { cls := .type "list", data := .seq its.toArray n }) (hf : f its.toArray = its'.toArray) (hv : Vals ys its') (hz : ys.length ≤ sizeLine) :
    Inv X pins σ (upd H l (.lst ys)) { s with heap := s.heap.update l (Obj.mapSeq f), toks := t' } := by
  have q := PySem.IsL.update e f
  rw [hf] at q
  refine I.write (x := l) (e := l) (by rw [hH]; exact trivial) (.inl rfl) (fun b' u hb hu => (Heap.get?_update_other s.heap (Obj.mapSeq f) (Ne.symm hb)).trans hu) ⟨_, q⟩ ?_
  exact ⟨hz, its', _, hv, q⟩
theorem Inv.lnew {its : List Value} {t' : Nat} (I : Inv X pins σ H s) (hv : Vals ys its) (hz : ys.length ≤ sizeLine) :
    Inv X pins σ (upd H s.heap.objs.size (.lst ys)) { s with heap := s.heap.push { cls := .type "list", data := .seq its.toArray }, toks := t' } :=
  I.laid (fun _ _ q => Heap.get?_push_of_some _ q) (Nat.le_refl _) ⟨hz, its, 0, hv, Heap.get?_push_size _ rfl⟩
theorem Inv.fresh (I : Inv X pins σ H s) : H s.heap.objs.size = none := I.hok.fresh (Nat.le_refl _)
theorem Inv.lstM (I : Inv X pins σ H s) (hH : H l = some (.lst xs)) : xs.length ≤ sizeLine ∧ ∃ (its : List Value) (n : Nat), Vals xs its ∧ xs.length = its.length ∧ s.heap.get? l = some { cls := .type "list", data := .seq its.toArray n } := by
  obtain ⟨z, its, n, r, e⟩ := I.hok l _ hH
  exact ⟨z, its, n, r, r.length, e⟩

theorem notLongL {n : Nat} (h : n ≤ sizeLine) : Builtin.List.listTooLong n = false := by
  unfold Builtin.List.listTooLong
  exact decide_eq_false (by omega)
end

section
variable {X : Cx}

/-! ### methods -/
def rAppend : V → List V → Hp → VK → Prop := fun x vs H Q => ∃ l xs y, x = .ref l ∧ vs = [y] ∧ H l = some (.lst xs) ∧ xs.length < sizeLine ∧ Q .non (upd H l (.lst (xs ++ [y])))
theorem mt_append : MtM X "list.append" rAppend := by
  intro pins s σ H x vs v us Q I rx rv h
  obtain ⟨l, xs, y, rfl, rfl, hH, hz, q⟩ := h
  cases rx
  obtain ⟨u, rfl, ru⟩ := rv.one
  obtain ⟨z, its, n, r, hl, e⟩ := I.lstM hH
  refine call_meets F.slot_list_append ⟨_, e, rfl⟩ F.entry_list_append (F.args_list_append_2 _ _) (PySem.list_append l its.toArray n u (by rw [List.size_toArray]; omega)) ⟨e, ?_⟩
  refine ⟨.non, _, I.lset (its' := its ++ [u]) hH e (by simp) (r.append (.cons ru .nil)) ?_, rfl, q⟩
  rw [List.length_append, List.length_singleton]
  omega

def rExtend : V → List V → Hp → VK → Prop := fun x vs H Q => ∃ l b xs zs, x = .ref l ∧ vs = [.ref b] ∧ H l = some (.lst xs) ∧ H b = some (.lst zs) ∧ xs.length + zs.length ≤ sizeLine ∧ Q .non (upd H l (.lst (xs ++ zs)))
theorem mt_extend : MtM X "list.extend" rExtend := by
  intro pins s σ H x vs v us Q I rx rv h
  obtain ⟨l, b, xs, zs, rfl, rfl, hH, hB, hz, q⟩ := h
  cases rx
  obtain ⟨u, rfl, ru⟩ := rv.one
  cases ru
  obtain ⟨z, its, n, r, hl, e⟩ := I.lstM hH
  obtain ⟨z2, its2, n2, r2, hl2, e2⟩ := I.lstM hB
  have hsz : its.toArray.size + its2.toArray.size ≤ sizeLine := by rw [List.size_toArray, List.size_toArray]; omega
  have hlong : ¬ (!its.toArray.isEmpty && Builtin.List.listTooLong (its.toArray.size + its2.toArray.size)) = true := by
    rw [notLongL hsz, Bool.and_false]
    exact Bool.false_ne_true
  refine call_meets F.slot_list_extend ⟨_, e, rfl⟩ F.entry_list_extend (F.args_list_extend_2 _ _)
    (AutoSeq1.list_extend_list_list_0 l its.toArray n b its2.toArray n2 hlong (by rw [List.size_toArray]; omega) (by omega)) ⟨e, e2, ?_⟩
  refine ⟨.non, _, I.lset (its' := its ++ its2) hH e (by simp) (r.append r2) ?_, rfl, q⟩
  rw [List.length_append]
  omega

/-! ### list + list, list += list, list * int -/
def rCat : R2 := fun x y H Q => ∃ l b xs zs, x = .ref l ∧ y = .ref b ∧ H l = some (.lst xs) ∧ H b = some (.lst zs) ∧ xs.length + zs.length ≤ sizeLine ∧ ∀ p, H p = none → Q (.ref p) (upd H p (.lst (xs ++ zs)))
theorem op_cat : OpR X (binaryOp .Add) rCat := by
  intro pins s σ H x y v u Q I rx ry h
  obtain ⟨l, b, xs, zs, rfl, rfl, hH, hB, hz, q⟩ := h
  cases rx
  cases ry
  obtain ⟨z, its, n, r, hl, e⟩ := I.lstM hH
  obtain ⟨z2, its2, n2, r2, hl2, e2⟩ := I.lstM hB
  refine PySem.P.add_list e e2 ?_ (by rw [List.size_toArray, List.size_toArray]; omega)
  have ea : its.toArray ++ its2.toArray = (its ++ its2).toArray := by simp
  rw [ea]
  exact ⟨.ref _, _, I.lnew (t' := s.toks) (r.append r2) (by rw [List.length_append]; omega), rfl, q _ I.fresh⟩
/-! ### del xs[i] -/
end

/-! ### xs[a:b] = ys -/
section
variable {prog : Program} {w : World} {A : Around} {E : Value → Shared → Prop} {s : Shared}
end

section
variable {X : Cx}
end
end L2

namespace Att
open PySem PySem.W PySem.Calls PyProof.Rows

/-! ### the script -/
theorem ints_of_wellAll {P : Params} {h : Heap} : ∀ (ns : List Int) (vs : List Value), WellAll P h vs (ns.map WData.int) → IntsAre vs ns := by
  intro ns
  induction ns with
  | nil =>
    intro vs w
    rw [List.map_nil] at w
    cases w
    exact .nil
  | cons n ns ih =>
    intro vs w
    rw [List.map_cons] at w
    cases w with
    | cons a b =>
      cases a
      exact .cons _ _ (ih _ b)

theorem script_of {l : OpenLaw} {n : Nat} (hn : l.most = some n) {P : Params} {h : Heap} {args : List WData} {vals : List Value}
    (hpre : l.row.toRowW.claim.pre args = true) (hwl : WellAll P h vals args) :
    ∃ a vs ns, vals = [Value.ref a] ∧ args = [WData.list (ns.map WData.int)] ∧ h.get? a = some { cls := .type "list", data := .seq vs.toArray } ∧ IntsAre vs ns ∧ ns.length ≤ n := by
  have hsh : WShape.hasAll [] args [.list .int] = true := (pre_splitW hpre).1
  have hc : l.pre.holds [] { args := args } = true := (pre_splitW hpre).2
  obtain ⟨d, r, rfl, h1, h2⟩ := hasAllW_cons hsh
  obtain rfl := hasAllW_nil h2
  obtain ⟨xs, rfl, h3⟩ := hasW_list h1
  obtain ⟨ns, rfl⟩ := items_int h3
  have hlen : ns.length ≤ n := by
    unfold OpenLaw.pre at hc
    have h4 : (WTm.not (.lt (.lit (.int (n : Int))) (.len (.arg 0)))).holds [] { args := [.list (ns.map .int)] } = true := by
      have h4 := (holds_andW hc).1
      rw [hn] at h4
      exact h4
    have h5 := condW_of h4 (w_not (w_lt w_lit (w_len_list (w_arg rfl))))
    rw [List.length_map] at h5
    refine Nat.le_of_not_lt fun q => ?_
    have q' : (n : Int) < ((ns.length : Nat) : Int) := by omega
    first
      | (rw [decide_eq_true q'] at h5; exact absurd h5 (by decide))
      | (simp at h5; omega)
  cases hwl with
  | cons w1 w2 =>
    cases w2
    cases w1 with
    | list ho hall => exact ⟨_, _, ns, rfl, rfl, ho, ints_of_wellAll ns _ hall, hlen⟩

theorem post_true (l : OpenLaw) (args : List WData) : l.row.toRowW.claim.post args (.bool true) args = true :=
  postW_of (r := l.row.toRowW) (X := (true == true))
    (show WShape.has [] (.bool true) .bool = true by first | rfl | decide | simp [WShape.has, WShape.arms, WShape.armsAll])
    (show (WTm.eq .res (.lit (.bool true))).value [] { args := args, res := some (.bool true), after := args } = some (.bool (true == true)) from w_eq_bool (w_res rfl) w_lit) rfl

/-! ### the attachment: holds_open's last premise (the goal 'hc' behind k_head) from a wpAny of the law's body -/
/-- the same from a codeAny of the CALL (for a layer whose function contracts speak of calls) -/
theorem attach_call {l : OpenLaw} {n : Nat} {q : Program} {loose : List Str} {XP : (Str → Option Value) → Heap → Prop} {YP : World → Heap → Prop} {d : DefRec}
    (hn : l.most = some n) (hdf : d.params.defaults = [])
    (call : ∀ (w : World) (s₀ s₁ : Shared) (mg mb : Str → Option Value) (fa : Addr) (o : Obj) (pm cd doc : Value) (a : Addr) (vs : List Value) (ns : List Int),
      Ground q loose [] XP w s₀ mg mb s₁.heap → YP w s₁.heap →
      s₁.heap.get? fa = some o → o.data = .func (docDef d.name d.params d.body d.scope pm cd doc) → s₁.heap.CodeRec cd d.name → mg d.name = some (.ref fa) →
      s₁.heap.get? a = some { cls := .type "list", data := .seq vs.toArray } → IntsAre vs ns → ns.length ≤ n → s₁.gens = #[] →
      codeAny (model l.prog w) callerA (.call (.ref fa) ⟨[.ref a], []⟩) (fun r s' => r = .ok (.ret (.bool true)) ∧ OldK s₁.heap s'.heap ∧ s'.os = s₁.os ∧ AllBare s'.gens) s₁) :
    WalkO q loose XP YP l.row.toRowW d [] (fun f vs => PySem.call f vs) := by
  intro w s₀ s₁ mg mb G Y fa o pm cd doc dV kV ho hd hcd hD hmg hg args vals as hpre hlay hrd hwl hlo
  obtain rfl : dV = .none := Dflts.none hD hdf
  obtain rfl : kV = .none := Dflts.noKw hD
  obtain ⟨a, vs, ns, rfl, rfl, hobj, hints, hlen⟩ := script_of hn hpre hwl
  refine enter_call (codeAny_mono (call w s₀ s₁ mg mb fa o pm cd doc a vs ns G Y ho (fd_plain hd) hcd hmg hobj hints hlen hg) fun r s' hq => ?_)
  obtain ⟨rfl, h2, h3, h4⟩ := hq
  exact ⟨.inl ⟨.bool true, .bool true, [], rfl, fun _ => rfl, .bool true, post_true l _, fun _ => ⟨List.Pairwise.nil, fun _ hm => (nomatch hm)⟩⟩, h2, h3, h4⟩

/-! ### rules over ANY heap (no ledger) from facts about the written part K: the library's own take a ledger (News) for what they write -/
section
variable {prog : Program} {w : World} {A : Around} {E : Value → Shared → Prop} {s : Shared} {K : Frag}

/-! the whole heap as the ledger: makes every rule that writes through a ledger a rule over any heap -/
def ledger (h : Heap) (L d : Addr) : List (Addr × Obj) := (List.range h.objs.size).filterMap fun a => if a = L ∨ a = d then none else (h.get? a).map fun o => (a, o)
end
end Att

namespace L2
open PySem PySem.Spec PyProof.Rows

theorem vals_ints : ∀ {vs : List Value} {ns : List Int}, IntsAre vs ns → Vals (ns.map V.int) vs
  | _, _, .nil => .nil
  | _, _, .cons n t h => .cons ⟨t, rfl⟩ (vals_ints h)

/-- nothing is tracked but the script, known to the object (or it is an object of the module) -/
def Only (H : Hp) : Prop := ∀ b, H b = none ∨ ∃ o xs, H b = some (.frz o (.lst xs))

/-- THE HEAD: the law's promise, at the heap behind the top. F, the promise of the law's def, may use that base is part of the heap (so K.In base, base.Ns mainGlobals mg stand in Mod) -/
theorem law_call {P : Program} {w : World} {K : PySem.W.Frag} {mg mb : Str → Option Value} {CX : CXT} {k : Nat} {fa a : Addr} {fd : FuncData} {x : Str} {sp : Sp} {s₁ : Shared} {vs : List Value} {ns : List Int}
    (KX : K.In s₁.heap) (hns : s₁.heap.Ns mainGlobals mg) (hb : s₁.heap.Ns builtinsNs mb) (hbb : ∀ x : Str, x ≠ "__name__" → mb x = bootBuiltins x) (hlim : s₁.heap.NoLimit) (hg : s₁.gens = #[])
    (ha : s₁.heap.get? a = some { cls := .type "list", data := .seq vs.toArray }) (hi : IntsAre vs ns) (hl : ns.length ≤ sizeLine) (hr : Room k callerA)
    (F : ∀ base : Heap, K.In base → base.Ns mainGlobals mg → FnOk P w K mg base CX k fa fd [x] sp) (hbind : ∀ (s : Shared) (u : Value), BindsTo s fd ⟨[u], []⟩ [(x, u)])
    (hsp : ∀ H : Hp, Only H → SqL K H a (ns.map V.int) → sp [.ref a] H (fun v _ => v = .bl true) fun _ _ _ => False)
    (hCX : ∀ H e s', CX [] H s₁ (fun _ _ _ => False) e s' → False) :
    codeAny (model P w) callerA (.call (.ref fa) ⟨[.ref a], []⟩) (fun r s' => r = .ok (.ret (.bool true)) ∧ OldK s₁.heap s'.heap ∧ s'.os = s₁.os ∧ AllBare s'.gens) s₁ := by
  have rv := vals_ints hi
  have lenV := hi.length
  -- from an abstract heap in which nothing but the script may be tracked
  have core : ∀ H : Hp, Only H → SqL K H a (ns.map V.int) → HOk P w H s₁.heap → (∀ b, H b ≠ none → b = a) → (H a ≠ none → K.lookup a = none) →
      codeAny (model P w) callerA (.call (.ref fa) ⟨[.ref a], []⟩) (fun r s' => r = .ok (.ret (.bool true)) ∧ OldK s₁.heap s'.heap ∧ s'.os = s₁.os ∧ AllBare s'.gens) s₁ := by
    intro H hO hS hok hA hK
    have base_of : ∀ {b : Addr} {o : Obj}, s₁.heap.get? b = some o → H b = none → (hidT s₁.heap H).get? b = some o := fun e n => hidT_get e n
    have noA : ∀ {b : Addr} {o : Obj} {es : Array DictEntry} {ep : Nat}, s₁.heap.get? b = some o → o.data = .dict es ep → H b = none := fun {b o es ep} e d => by
      cases q : H b with
      | none => rfl
      | some u =>
        have e' : b = a := hA b (by rw [q]; simp)
        subst e'
        rw [ha] at e; cases e
        have d' : Data.seq vs.toArray _ = Data.dict es ep := d
        cases d'
    have nsK : ∀ {b : Addr} {m : Str → Option Value}, s₁.heap.Ns b m → (hidT s₁.heap H).Ns b m := fun {b m} ⟨o, es, ep, e, d, r⟩ => ⟨o, es, ep, base_of e (noA e d), d, r⟩
    have hKb : K.In (hidT s₁.heap H) := fun b o e => base_of (KX b o e) (by
      cases q : H b with
      | none => rfl
      | some u =>
        have e' : b = a := hA b (by rw [q]; simp)
        subst e'
        rw [hK (by rw [q]; simp)] at e; cases e)
    have hM : Mod K mg (hidT s₁.heap H) := ⟨hKb, nsK hns, ⟨mb, nsK hb, hbb⟩, let ⟨mc, h1, h2⟩ := hlim; ⟨mc, nsK h1, h2⟩⟩
    have e0 : Env0 P w K mg (hidT s₁.heap H) callerA [] s₁ H := ⟨rfl, hM, fun b o e => of_hidT e, Nat.le_of_eq (hidT_size _ _), trivial, fun b hb => absurd (show b ∈ ([] : List Addr) from hb) (by simp), hok, .of_eq hg⟩
    refine codeAny_mono ((F _ hKb (nsK hns)).run callerA [] s₁ H ⟨[.ref a], []⟩ [.ref a] [.ref a] _ _ hr e0 (hbind s₁ (.ref a)) (.cons rfl .nil) (hsp H hO hS)) fun r s' h => ?_
    cases r with
    | error e => exact (hCX H e s' h).elim
    | ok fl =>
      cases fl with
      | next => exact False.elim h
      | brk => exact False.elim h
      | cont => exact False.elim h
      | ret u =>
        obtain ⟨v, H', os, bare, un, hok', r', q⟩ := h
        have q' : v = .bl true := q
        subst q'
        obtain rfl : u = Value.bool true := r'
        refine ⟨rfl, OldK.of_keep fun b o e => ?_, os, bare⟩
        cases q : H b with
        | none => exact un.keep b o e q (by intro z; exact absurd (show b ∈ ([] : List Addr) from z) (by simp)) (by simp)
        | some u =>
          rcases hO b with z | ⟨ob, xs, z⟩
          · rw [q] at z; cases z
          · have z2 := un.frzs b ob _ z
            obtain ⟨e1, _⟩ := hok b _ z
            obtain ⟨e2, _⟩ := hok' b _ z2
            rw [e] at e1; cases e1
            exact e2
  cases hk : K.lookup a with
  | some o =>
    -- the script is one of the module's own objects
    have e := KX a o hk
    rw [ha] at e
    cases e
    refine core (fun _ => none) (fun _ => .inl rfl) (.inr ⟨_, vs.toArray, _, hk, rfl, rfl, rfl, by rw [List.size_toArray, lenV]; exact hl, by simpa using rv⟩) (fun b u z => by have z' : (none : Option HO) = some u := z; cases z') (fun b z => absurd rfl z) fun z => absurd rfl z
  | none =>
    refine core (fun b => if b = a then some (.frz { cls := .type "list", data := .seq vs.toArray } (.lst (ns.map V.int))) else none) (fun b => ?_) (.inl (.inr ⟨{ cls := .type "list", data := .seq vs.toArray }, if_pos rfl⟩)) (fun b u z => ?_) (fun b z => ?_) fun _ => hk
    · by_cases hb : b = a
      · exact .inr ⟨_, _, if_pos hb⟩
      · exact .inl (if_neg hb)
    · by_cases hb : b = a
      · have z' := (if_pos hb).symm.trans z
        cases z'
        subst hb
        exact ⟨ha, by rw [List.length_map]; exact hl, vs, _, rv, ha⟩
      · have z' := (if_neg hb).symm.trans z
        cases z'
    · by_cases hb : b = a
      · exact hb
      · exact absurd (if_neg hb) z
end L2

namespace L2
open PySem PySem.Spec PyProof.Rows

abbrev KOf {K : PySem.W.Frag} {h : Heap} (_ : K.In h) : PySem.W.Frag := K

/-- the goal that k_head leaves (case hc), from the law's promise. F gives the function object fd (K's own) once, then the promise over every base -/
theorem walk_of {l : PySem.W.OpenLaw} {n k : Nat} {q : Program} {loose : List Str} {XP : (Str → Option Value) → Heap → Prop} {YP : World → Heap → Prop} {d : DefRec} {K : Params → PySem.W.Frag} {CX : World → CXT} {sp : World → Sp} {x : Str}
    (hn : l.most = some n) (hn2 : n ≤ sizeLine) (hdf : d.params.defaults = []) (hr : Room k callerA)
    (hY : ∀ (w : World) (h : Heap), YP w h → (K w.params).In h)
    (F : ∀ (w : World) (mg : Str → Option Value) (fa : Addr) (h : Heap), (K w.params).In h → h.Ns mainGlobals mg → mg d.name = some (.ref fa) →
      ∃ fd : FuncData, (∀ (s : Shared) (u : Value), BindsTo s fd ⟨[u], []⟩ [(x, u)]) ∧
        ∀ base : Heap, (K w.params).In base → base.Ns mainGlobals mg → FnOk l.prog w (K w.params) mg base (CX w) k fa fd [x] (sp w))
    (hsp : ∀ (w : World) (H : Hp) (a : Addr) (ns : List Int), ns.length ≤ n → Only H → SqL (K w.params) H a (ns.map V.int) → sp w [.ref a] H (fun v _ => v = .bl true) fun _ _ _ => False)
    (hCX : ∀ (w : World) (H : Hp) (s : Shared) (e : Value) (s' : Shared), CX w [] H s (fun _ _ _ => False) e s' → False) :
    PySem.W.WalkO q loose XP YP l.row.toRowW d [] (fun f vs => PySem.call f vs) := by
  refine Att.attach_call hn hdf fun w s₀ s₁ mg mb fa o pm cd doc a vs ns G Y ho hd hcd hmg hobj hints hlen hg => ?_
  have KX := hY w _ Y
  obtain ⟨fd, hb, hF⟩ := F w mg fa _ KX G.T.g hmg
  exact law_call KX G.T.g G.T.b G.T.builtins G.T.nolimit hg hobj hints (Nat.le_trans hlen hn2) hr hF hb (fun H hO hS => hsp w H a ns hlen hO hS) fun H e s' => hCX w H s₁ e s'
end L2

/- THE LAST THEOREM (shape; LID, My.* are yours):
   My.Adr: a structure of the addresses that your layer names (classes, functions); My.Txt K t: a structure (Prop) of the equations over K;
   My.txt_mk : {K} {implicit addresses ..} (e1 : nsIn K mainGlobals "law" = some (some (.ref f))) (e2 : K.lookup f = some ⟨oc, od, .func (fnOf "law" "law" params body scope dV kV doc pm an cdv ct), sl⟩) (e3 : codeIn K cdv "law" = true) .. : ∃ t, My.Txt K t

set_option maxRecDepth 100000 in
set_option maxHeartbeats 0 in
theorem PySem.Challenge.cw_LID_holds : PySem.Challenge.rw_LID.Holds := by
  w_on; o_law; k_head; (case hw => w_witness2)
  k_fill
  refine L2.walk_of (l := PySem.Challenge.rw_LID) (n := 63) (k := 40) (x := "script") (CX := fun w => ..) (sp := fun _ => My.sp_law) rfl (by decide) rfl ⟨rfl, by decide, by decide⟩ (fun w h Y => PySem.W.kIn_of Y) ?F ?S ?C
  case F =>
    intro w mg fa h KX G hmg
    have T : ∃ t, My.Txt (L2.KOf KX) t := by
      dsimp only [L2.KOf]                          -- K must stand as «<heap const> w.params» for k_is
      refine' My.txt_mk ?e1 ?e2 ?e3 ..
      (case e1 => PySem.W.k_is)                    -- in the order: a name -> its address -> its object -> its parts
      (case e2 => PySem.W.k_is)
      ..
    obtain ⟨t, T⟩ := T
    have e0 := hmg.symm.trans (PySem.W.mg_of KX G T.law)
    cases e0                                       -- fa is the law's own address
    exact ⟨_, fun s u => .of_eq rfl, fun base kb nb => My.law_fn T kb nb⟩     -- if «.of_eq rfl» comes too early: refine' ⟨_, ?b, fun base kb nb => My.law_fn T kb nb⟩; exact fun s u => .of_eq rfl
  case S => exact fun w H a ns hl hO hS => ..
  case C => exact ..
(the tactic k_is has no namespace: write k_is) -/

/-! SHORT WORDS over the layer: a def of the text, its body, what a loop and a test want. -/
namespace L2
open PySem PySem.Spec PyProof.Rows

/-! ### the text by places -/
/-- the j-th statement of a class's body -/
def inClass (s : Stmt) (j : Nat) : Stmt := match s with
  | .ClassDef _ _ _ body _ _ _ _ _ _ _ => body.getD j (.Pass ⟨0, 0, 0, 0⟩)
  | _ => .Pass ⟨0, 0, 0, 0⟩
def defArgs (s : Stmt) : Arguments := match s with
  | .FunctionDef _ a _ _ _ _ _ _ _ _ => a
  | _ => { posonlyargs := [], args := [], vararg := none, kwonlyargs := [], kw_defaults := [], kwarg := none, defaults := [] }
def defBody (s : Stmt) : List Stmt := match s with
  | .FunctionDef _ _ b _ _ _ _ _ _ _ => b
  | _ => []
def defScope (s : Stmt) : Scope := match s with
  | .FunctionDef _ _ _ _ _ _ sc _ _ _ => sc
  | _ => { kind := .function, names := [], isGenerator := false, isCoroutine := false }

/-! ### no exception leaves a def -/
abbrev CX0 : CXT := fun _ _ _ _ _ _ => False
abbrev E0 : XK := fun _ _ _ => False
theorem pass0 {X : Cx} : Passes CX0 X E0 := fun _ _ _ _ _ _ _ h => h.elim

/-! ### a def (or method) of the text as it stands behind the top -/
structure Fun (K : PySem.W.Frag) (x qual : Str) (st : Stmt) (f : Addr) (fd : FuncData) : Prop where
  ex : ∃ (oc : Value) (od : Option Addr) (kV doc pm : Value) (an : Option Addr) (cdv ct : Value) (osl : Array (Option Value)),
    fd = PySem.W.fnOf x qual (defArgs st) (defBody st) (defScope st) .none kV doc pm an cdv ct ∧ K.lookup f = some ⟨oc, od, .func fd, osl⟩ ∧ PySem.W.codeIn K cdv qual = true
  kp : PySem.W.keepIn K (.ref f) = true
section
variable {P : Program} {w : World} {K : PySem.W.Frag} {mg : Str → Option Value} {base : Heap}
/-- THE RULE for a def: its body as a term of rules, and the reading of that term -/
theorem Fun.ok {x qual : Str} {st : Stmt} {f : Addr} {fd : FuncData} {N ps : List Str} {k : Nat} {sp : Sp} (F : Fun K x qual st f fd) (S : FnScope N ps (defScope st)) (len : ∀ vs H Q E, sp vs H Q E → vs.length = ps.length)
    (hbody : ∀ (cdv : Value) (A : Around) (outer : List Env) (s : Shared) (H : Hp) (vs : List V) (Q : VK) (E : XK), Room k (A.deeper (envOfC qual (defScope st) s.heap.objs.size f cdv)) → sp vs H Q E →
      ∃ t, PSs (cxOf CX0 P w K mg base N qual (defScope st) f cdv A outer s H E).nox (defBody st) t ∧ t { nx := fun _ H' => Q .non H', rt := Q } (start N vs) H) : FnOk P w K mg base CX0 (k + 1) f fd ps sp := by
  obtain ⟨oc, od, kV, doc, pm, an, cdv, ct, osl, rfl, lk, hcd⟩ := F.ex
  refine fn_of lk hcd S len fun A outer s H vs Q E hr hsp => ?_
  obtain ⟨t, h, q⟩ := hbody cdv A outer s H vs Q E hr hsp
  exact ⟨t, h.nox, q⟩
/-- how its arguments bind (no defaults): h is «fun _ _ _ _ _ _ us hl => match us, hl with | [_, _], _ => rfl», one _ a parameter -/
theorem Fun.binds {x qual : Str} {st : Stmt} {f : Addr} {fd : FuncData} {ps : List Str} (F : Fun K x qual st f fd)
    (h : ∀ (kV doc pm : Value) (an : Option Addr) (cdv ct : Value) (us : List Value), us.length = ps.length → bindArgs (PySem.W.fnOf x qual (defArgs st) (defBody st) (defScope st) .none kV doc pm an cdv ct) ⟨us, []⟩ = pure (ps.zip us)) : Binds K fd ps [] := by
  obtain ⟨oc, od, kV, doc, pm, an, cdv, ct, osl, rfl, lk, hcd⟩ := F.ex
  exact .all (h kV doc pm an cdv ct)
theorem fun_mk {x qual : Str} {st : Stmt} {f : Addr} {oc : Value} {od an : Option Addr} {osl : Array (Option Value)} {kV doc pm cdv ct : Value} (l : K.lookup f = some ⟨oc, od, .func (PySem.W.fnOf x qual (defArgs st) (defBody st) (defScope st) .none kV doc pm an cdv ct), osl⟩)
    (c : PySem.W.codeIn K cdv qual = true) (k : PySem.W.keepIn K (.ref f) = true) : Fun K x qual st f (PySem.W.fnOf x qual (defArgs st) (defBody st) (defScope st) .none kV doc pm an cdv ct) := ⟨⟨oc, od, kV, doc, pm, an, cdv, ct, osl, rfl, l, c⟩, k⟩
end
/-! ### expressions in short: the name that stands in the i-th slot -/
section
variable {X : Cx}
theorem pv (i : Nat) {x : Str} {pos : Pos} (hN : X.N[i]? = some x := by rfl) (hv : Vis X.env.scope x := by first | exact Or.inl rfl | exact Or.inr (Or.inl rfl) | exact Or.inr (Or.inr rfl)) (hd : (x == ("__debug__" : Str)) = false := by decide)
    (hcd : (x == ("__classdict__" : Str)) = false := by decide) : PE X (.Name x pos) (tVar i) := pe_var hN hv hd hcd
end

/-! ### tests -/
theorem iteF {A B : Prop} (h : B) : if false = true then A else B := by
  rw [if_neg Bool.false_ne_true]
  exact h
theorem iteT {A B : Prop} (h : A) : if true = true then A else B := by
  rw [if_pos rfl]
  exact h
theorem ite2 {c A B : Prop} [Decidable c] (h1 : c → A) (h2 : ¬ c → B) : if c then A else B := by
  by_cases h : c
  · rw [if_pos h]
    exact h1 h
  · rw [if_neg h]
    exact h2 h
theorem iteNS {c A B : Prop} [Decidable c] (hc : c) (h : B) : if (!decide c) = true then A else B := by
  rw [decide_eq_true hc]
  exact iteF h

/-! ### heaps -/
/-- all that was tracked is as it was -/
def Same (H H' : Hp) : Prop := ∀ b o, H b = some o → H' b = some o
theorem Same.refl (H : Hp) : Same H H := fun _ _ h => h
theorem Same.trans {H H1 H2 : Hp} (a : Same H H1) (b : Same H1 H2) : Same H H2 := fun c o h => b c o (a c o h)
theorem Same.free {H H' : Hp} (e : Same H H') {l : Addr} (h : H' l = Option.none) : H l = Option.none := by
  cases q : H l with
  | none => rfl
  | some o =>
    rw [e l o q] at h
    cases h
theorem Same.seq {K : PySem.W.Frag} {H H' : Hp} {a : Addr} {xs : List V} (e : Same H H') (h : SqL K H a xs) : SqL K H' a xs := by
  rcases h with (h | ⟨o, h⟩) | h
  · exact .inl (.inl (e _ _ h))
  · exact .inl (.inr ⟨o, e _ _ h⟩)
  · exact .inr h

end L2

namespace L2
open PySem PySem.Spec PyProof.Rows

/-! ### comprehensions: a clause's body, the clauses, the block -/
/-- the body of a comprehension from some place on; N: what stands behind it -/
abbrev TB := St → Hp → (St → Hp → Prop) → Prop
/-- the tests of a clause -/
def PTs (X : Cx) (ifs : List Expr) (t : TT) : Prop :=
  ∀ (pins : List (Addr × Obj)) (s : Shared) (σ : St) (H : Hp) (Q : Bool → Hp → Prop), Inv X pins σ H s → t σ H Q →
    wpAny (model X.prog X.w) X.A (forIn ifs true fun c r => if r = true then do let ok ← isTrue c X.env (eval c X.env); pure (ForInStep.yield ok) else pure (ForInStep.yield r)) (TP X pins σ Q) X.xe s
def tYes : TT := fun _ H Q => Q true H
theorem pts_nil {X : Cx} : PTs X [] tYes := fun _ _ _ H _ I h => wpAny_tests_nil ⟨H, I, h⟩
theorem pts_one {X : Cx} {c : Expr} {t : TT} (h : PT X c t) : PTs X [c] t := fun pins s σ H Q I hq => wpAny_tests_one (h pins s σ H Q I hq)

def compAfter (elt : Expr) (gens : List Comprehension) (scope : Scope) (pos : Pos) (d : Nat) (it acc : Value) (env : Env) : Sem Fin :=
  match gens[d + 1]? with
  | some g' => do
    let x ← eval g'.iter env
    standAt g'.iter.pos
    let x ← if g'.is_async != 0 then foldedIterable g'.iter x else foldedSetIterable g'.iter env x
    let _ ← runOwn (.compStart (.ListComp elt gens scope pos) (d + 1) (← holding [x] (if g'.is_async != 0 then asyncIter x else pyIter x)) acc env) env
    again (.compLoop (.ListComp elt gens scope pos) d it acc env)
  | none => do
    (do let _ ← call (.builtin "list.append") [acc, ← eval elt env])
    again (.compLoop (.ListComp elt gens scope pos) d it acc env)

theorem compTurn_at (elt : Expr) (gens : List Comprehension) (scope : Scope) (pos : Pos) (d : Nat) (it acc : Value) (env : Env) (target iter : Expr) (ifs : List Expr) (hg : gens[d]? = some ⟨target, iter, ifs, 0⟩) :
    compTurn (.ListComp elt gens scope pos) d it acc env = (do
      standAt iter.pos
      match ← pyNext it with
      | none => pure (.done .next)
      | some v => do
        letOwnedTupleGo target it v
        assign target env v
        let ok ← forIn ifs true fun c r => if r = true then do let ok ← isTrue c env (eval c env); pure (ForInStep.yield ok) else pure (ForInStep.yield r)
        if ok then compAfter elt gens scope pos d it acc env
        else again (.compLoop (.ListComp elt gens scope pos) d it acc env)) := by
  unfold compTurn compAfter
  simp only [hg]
  rfl

def bWalk (J : It) (g : TG) (t : TT) (b : TB) (N : St → Hp → Prop) (σ : St) (H : Hp) : Prop :=
  ∃ W : Nat → Nat → St → Hp → Prop, (∃ m, W 0 m σ H) ∧ ∀ i m σ H, W i m σ H →
    (J.stop i H ∧ N σ H) ∨ (J.go i H ∧ ∃ N' : St → Hp → Prop, (∀ σ' H', N' σ' H' → ∃ m', m' < m ∧ W (i + 1) m' σ' H') ∧ ∀ x H', J.yld i H x H' → g x σ H' fun σ2 H2 => t σ2 H2 fun k H3 => if k = true then b σ2 H3 N' else N' σ2 H3)
/-- what stands behind the tests of a clause -/
def PAf (X : Cx) (elt : Expr) (gens : List Comprehension) (scope : Scope) (pos : Pos) (d : Nat) (it acc : Value) (b : TB) : Prop :=
  ∀ (pins : List (Addr × Obj)) (s : Shared) (σ : St) (H : Hp) (N : St → Hp → Prop), Inv X pins σ H s → b σ H N →
    wpAny (model X.prog X.w) X.A (compAfter elt gens scope pos d it acc X.env) (fun fin s' => fin = .again (.compLoop (.ListComp elt gens scope pos) d it acc X.env) ∧ ∃ σ' H', Inv X pins σ' H' s' ∧ N σ' H') X.xe s
section
variable {X : Cx} {elt tg iter : Expr} {ifs : List Expr} {gens : List Comprehension} {scope : Scope} {pos : Pos} {d : Nat} {acc : Value}
theorem comp_loop {g : TG} {t : TT} {b : TB} {N : St → Hp → Prop} {J : It} {fp : List Addr} {it : Addr} {tn : Nat → Heap → Prop} {pins : List (Addr × Obj)} {s : Shared} {σ : St} {H : Hp}
    (hx : X.xe = fun _ _ => False) (hc : X.calm = true) (hg : gens[d]? = some ⟨tg, iter, ifs, 0⟩) (hgt : PG X tg g) (ht : PTs X ifs t) (hb : PAf X elt gens scope pos d (.ref it) acc b)
    (T : Turn X.prog X.w X.K tg J fp it tn) (I : Inv X pins σ H s) (st : tn 0 s.heap) (f2 : ∀ b ∈ fp, FpOk X pins H b) (w : bWalk J g t b N σ H) :
    codeAny (model X.prog X.w) X.A (.compLoop (.ListComp elt gens scope pos) d (.ref it) acc X.env) (fun r s' => match r with | .ok _ => ∃ σ' H', Inv X pins σ' H' s' ∧ N σ' H' | .error _ => False) s := by
  obtain ⟨W, ⟨m0, w0⟩, turn⟩ := w
  have stat : ∀ {H' : Hp}, (∀ b ∈ fp, H' b = none) → ∀ b ∈ fp, FpOk X pins H' b := fun hn b hb => ⟨hn b hb, (f2 b hb).2⟩
  refine codeAny_loop rfl (fun n s' => ∃ i σ' H', Inv X pins σ' H' s' ∧ tn i s'.heap ∧ (∀ b ∈ fp, H' b = none) ∧ W i n σ' H') ?_ m0 ⟨0, σ, H, I, st, fun b hb => (f2 b hb).1, w0⟩
  rintro n s3 ⟨i, σ3, H3, I3, st3, fr3, w3⟩
  show wpAny _ X.A ((compTurn (.ListComp elt gens scope pos) d (.ref it) acc X.env).onRaise (fun x => do noteFrame x X.env; theTreesLotGoes x)) _ _ s3
  refine wpAny_noted ?_
  rw [compTurn_at _ _ _ _ _ _ _ _ _ _ _ hg]
  have weak : ∀ {α : Type} {m : Sem α} {Q Q' : α → Shared → Prop} {E' : Value → Shared → Prop} {s : Shared}, wpAny (model X.prog X.w) X.A m Q X.xe s → (∀ a s, Q a s → Q' a s) → wpAny (model X.prog X.w) X.A m Q' E' s := fun h hQ => by
    rw [hx] at h
    exact wpAny_mono h hQ fun _ _ z => False.elim z
  refine wpAny_bind (wpAny_standAt (wpAny_bind ?_))
  rcases turn i n σ3 H3 w3 with ⟨stop, qn⟩ | ⟨go, N', hN, step⟩
  · refine weak (T.done X rfl rfl rfl hc i pins s3 σ3 H3 X.xe I3 (stat fr3) st3 stop) fun r s4 ⟨hr, I4⟩ => ?_
    subst hr
    exact wpAny_pure ⟨σ3, H3, I4, qn⟩
  · refine weak (T.item X rfl rfl rfl hc i pins s3 σ3 H3 X.xe I3 (stat fr3) st3 go) fun r s4 ⟨u, hr, h4⟩ => ?_
    subst hr
    refine wpAny_bind (weak h4 fun _ s5 ⟨x, H5, I5, r5, y5, st5, fr5⟩ => ?_)
    have I5' := I5.pinned (stat fr5) (T.obj _ _ st5)
    refine wpAny_bind (weak (hgt _ s5 σ3 H5 x u _ I5' r5 (step x H5 y5)) fun _ s6 ⟨σ6, H6, I6, q6⟩ => ?_)
    refine wpAny_bind (weak (ht _ s6 σ6 H6 _ I6 q6) fun k s7 ⟨H7, I7, q7⟩ => ?_)
    have again : ∀ {s8 : Shared} {σ8 : St} {H8 : Hp}, Inv X (pins ++ pinsAt fp s5.heap) σ8 H8 s8 → N' σ8 H8 → ∃ m, m < n ∧ ∃ i σ' H', Inv X pins σ' H' s8 ∧ tn i s8.heap ∧ (∀ b ∈ fp, H' b = none) ∧ W i m σ' H' := fun {s8 σ8 H8} I8 n8 => by
      obtain ⟨m', hm, w8⟩ := hN σ8 H8 n8
      refine ⟨m', hm, i + 1, σ8, H8, I8.unpinned, T.keep _ _ _ st5 fun b hb o e => (I8.pin (b, o) (List.mem_append_right _ (List.mem_append_right _ (mem_pinsAt hb e)))).1, fun b hb => ?_, w8⟩
      obtain ⟨o, e, d⟩ := T.obj _ _ st5 b hb
      exact (I8.pin (b, o) (List.mem_append_right _ (List.mem_append_right _ (mem_pinsAt hb e)))).2.1
    cases k with
    | false => exact wpAny_pure ⟨rfl, again I7 q7⟩
    | true =>
      refine weak (hb _ s7 σ6 H7 N' I7 q7) fun fin s8 ⟨e, σ8, H8, I8, q8⟩ => ?_
      subst e
      exact ⟨rfl, again I8 q8⟩
/-- the start of a clause: it is asked for its iterator again -/
theorem comp_start {R : Result → Shared → Prop} {it : Value} {s : Shared} {env : Env} {P : Program} {w : World} {A : Around} (hg : gens[d]? = some ⟨tg, iter, ifs, 0⟩)
    (h0 : codeAny (model P w) A (.compLoop (.ListComp elt gens scope pos) d it acc env) R s)
    (h : wpAny (model P w) A (pyIter it) (fun it' s' => codeAny (model P w) A (.compLoop (.ListComp elt gens scope pos) d it' acc env) R s') (notedBy (model P w) A env fun x s' => R (.error x) s') s) :
    codeAny (model P w) A (.compStart (.ListComp elt gens scope pos) d it acc env) R s := by
  refine codeAny_of_tree ?_
  show wpAny _ _ ((compStart (.ListComp elt gens scope pos) d it acc env).onRaise (fun x => do noteFrame x env; standAt theWindowsPlace)) _ _ s
  refine wpAny_notedAt ?_
  unfold compStart
  show wpAny _ _ (if (gens[d]?).elim false (·.is_async != 0) = true then _ else _) _ _ s
  rw [hg]
  show wpAny _ _ (ask >>= _) _ _ s
  refine wpAny_bind (wpAny_askSetting (wpAny_ite ?_))
  split
  · first
      | exact wpAny_bind (wpAny_pure (wpAny_pure (And.intro rfl h0)))
      | exact wpAny_pure (And.intro rfl h0)
  · refine wpAny_bind (wpAny_rule ?_)
    dsimp only [clausesOf]
    rw [hg]
    exact wpAny_bind (wpAny_standAt (wpAny_bind (wpAny_mono h (fun it' s' h' => wpAny_pure (And.intro rfl h')) fun _ _ x => x)))
/-- the last clause: the element is put behind the list -/
def bEmit (acc : Addr) (te : TE) : TB := fun σ H N => te σ H fun x H1 => ∃ xs, H1 acc = some (.lst xs) ∧ xs.length < sizeLine ∧ N σ (upd H1 acc (.lst (xs ++ [x])))
theorem paf_emit {it : Value} {a : Addr} {te : TE} (h1 : gens[d + 1]? = none) (he : PE X elt te) : PAf X elt gens scope pos d it (.ref a) (bEmit a te) := by
  intro pins s σ H N I h
  unfold compAfter
  rw [h1]
  refine wpAny_bind (wpAny_bind (thn (he pins s σ H _ I h) fun v s1 ⟨x, H1, I1, r1, xs, e, z, q⟩ => ?_))
  refine wpAny_bind (thn (mt_append pins s1 σ H1 (.ref a) [x] (.ref a) [v] (fun _ H2 => N σ H2) I1 rfl (.cons r1 .nil) ⟨a, xs, x, rfl, rfl, e, z, q⟩) fun _ s2 ⟨_, H2, I2, _, q2⟩ => ?_)
  exact wpAny_pure (wpAny_pure ⟨rfl, σ, H2, I2, q2⟩)
/-- a further clause -/
def bFor (wi : TI) (g : TG) (t : TT) (b : TB) : TB := fun σ H N => wi σ H fun J H1 => bWalk J g t b N σ H1
theorem paf_for {it : Value} {tg' iter' : Expr} {ifs' : List Expr} {wi : TI} {g : TG} {t : TT} {b : TB} (hx : X.xe = fun _ _ => False) (hc : X.calm = true) (h1 : gens[d + 1]? = some ⟨tg', iter', ifs', 0⟩)
    (hi : PI X tg' iter' wi) (hgt : PG X tg' g) (ht : PTs X ifs' t) (hb : ∀ it', PAf X elt gens scope pos (d + 1) (.ref it') acc b)
    (hs : ∀ x, foldedSetIterable iter' X.env x = pure x := by intro _; rfl) : PAf X elt gens scope pos d it acc (bFor wi g t b) := by
  intro pins s σ H N I h
  unfold compAfter
  rw [h1]
  refine wpAny_bind (thn (hi pins s σ H _ I h) fun v s1 hi1 => ?_)
  refine wpAny_bind (wpAny_standAt ?_)
  show wpAny _ _ (foldedSetIterable iter' X.env v >>= _) _ _ s1
  refine wpAny_bind (wpAny_of_eq (hs v) (wpAny_bind (wpAny_holding (thn hi1 fun itv s2 h2 => ?_))))
  obtain ⟨it', fp, tn, J, H2, e, I2, T, st2, f2, w2⟩ := h2
  subst e
  have lp := comp_loop (elt := elt) (scope := scope) (pos := pos) hx hc h1 hgt ht (hb it') T I2 st2 f2 w2
  refine wpAny_bind (wpAny_runOwn (codeAny_mono (R := fun r s' => match r with | .ok _ => ∃ σ' H', Inv X pins σ' H' s' ∧ N σ' H' | .error _ => False) (comp_start h1 lp (T.self _ _ _ _ _ st2 lp)) fun r s3 q3 => ?_))
  cases r with
  | ok f =>
    exact wpAny_pure ⟨rfl, q3⟩
  | error e => exact False.elim q3
end
end L2

namespace L2
open PySem PySem.Spec PyProof.Rows

theorem closure_of {env : Env} {scope : Scope} (h : ∀ x ∈ scope.names, x.2 = .free → ∃ c, env.cells.lookup x.1 = some c) :
    ∃ cl, closureFor scope env = pure cl ∧ (∀ x c, cl.lookup x = some c → env.cells.lookup x = some c) ∧ ∀ x ∈ scope.names, x.2 = .free → ∃ c, cl.lookup x.1 = some c := by
  have key : ∀ (names : List (Str × NameKind)) (acc : List (Str × Addr)), (∀ x ∈ names, x.2 = .free → ∃ c, env.cells.lookup x.1 = some c) → (∀ x c, acc.lookup x = some c → env.cells.lookup x = some c) →
      ∃ cl : List (Str × Addr), (forIn names acc fun (x : Str × NameKind) (r : List (Str × Addr)) => if (x.2 == NameKind.free) = true then do let a ← cellOf env x.1; pure (ForInStep.yield ((x.1, a) :: r)) else pure (ForInStep.yield r) : Sem (List (Str × Addr))) = pure cl ∧
        (∀ x c, cl.lookup x = some c → env.cells.lookup x = some c) ∧ (∀ x c, acc.lookup x = some c → ∃ c', cl.lookup x = some c') ∧ ∀ x ∈ names, x.2 = .free → ∃ c, cl.lookup x.1 = some c := by
    intro names
    induction names with
    | nil => intro acc _ ha; exact ⟨acc, rfl, ha, fun x c e => ⟨c, e⟩, fun _ z => nomatch z⟩
    | cons x r ih =>
      intro acc hn ha
      by_cases hk : (x.2 == NameKind.free) = true
      · obtain ⟨c, hc⟩ := hn x List.mem_cons_self (by simpa using hk)
        have ha' : ∀ y d, List.lookup y ((x.1, c) :: acc) = some d → env.cells.lookup y = some d := by
          intro y d e
          rw [List.lookup_cons] at e
          cases hy : y == x.1 with
          | true => rw [hy] at e; cases e; rw [beq_iff_eq.mp hy]; exact hc
          | false => rw [hy] at e; exact ha y d e
        obtain ⟨cl, e1, e2, e3, e4⟩ := ih ((x.1, c) :: acc) (fun y hy => hn y (List.mem_cons_of_mem _ hy)) ha'
        refine ⟨cl, ?_, e2, fun y d e => ?_, fun y hy hf => ?_⟩
        · rw [List.forIn_cons]
          simp only [hk, if_true, cellOf, hc]
          exact e1
        · cases hy : y == x.1 with
          | true => exact e3 y c (by rw [List.lookup_cons, hy])
          | false => exact e3 y d (by rw [List.lookup_cons, hy]; exact e)
        · rcases List.mem_cons.mp hy with rfl | hy
          · exact e3 y.1 c (by rw [List.lookup_cons, beq_self_eq_true])
          · exact e4 y hy hf
      · obtain ⟨cl, e1, e2, e3, e4⟩ := ih acc (fun y hy => hn y (List.mem_cons_of_mem _ hy)) ha
        refine ⟨cl, ?_, e2, e3, fun y hy hf => ?_⟩
        · rw [List.forIn_cons]
          simp only [hk, if_false]
          exact e1
        · rcases List.mem_cons.mp hy with rfl | hy
          · exact absurd (by simpa using hf) hk
          · exact e4 y hy hf
  obtain ⟨cl, e1, e2, _, e4⟩ := key scope.names [] h (fun _ _ z => by simp at z)
  refine ⟨cl, ?_, e2, e4⟩
  unfold closureFor
  show (forIn scope.names [] _ >>= fun cs => pure cs) = _
  exact (congrArg (fun m => m >>= fun cs => (pure cs : Sem _)) e1)
theorem relabel_free {env : Env} : ∀ {names : List (Str × NameKind)} {x : Str}, names.lookup x = some .free →
    ∃ k, (k = NameKind.cell ∨ k = NameKind.free) ∧ (names.map fun (n, k) => if (k == NameKind.free && env.scope.kind == .function && env.kindOf n == some .cell) then (n, NameKind.cell) else (n, k)).lookup x = some k
  | [], _, h => by simp at h
  | (n, k) :: r, x, h => by
    have ih := @relabel_free env r x
    show ∃ k', _ ∧ List.lookup x ((if (k == NameKind.free && env.scope.kind == .function && env.kindOf n == some .cell) = true then (n, NameKind.cell) else (n, k)) :: _) = _
    cases hx : x == n with
    | true =>
      simp only [List.lookup_cons, hx] at h
      cases h
      by_cases hc : (NameKind.free == NameKind.free && env.scope.kind == .function && env.kindOf n == some .cell) = true
      · rw [if_pos hc]; exact ⟨.cell, .inl rfl, by simp only [List.lookup_cons, hx]⟩
      · rw [if_neg hc]; exact ⟨.free, .inr rfl, by simp only [List.lookup_cons, hx]⟩
    | false =>
      simp only [List.lookup_cons, hx] at h
      obtain ⟨k', hk', e⟩ := ih h
      refine ⟨k', hk', ?_⟩
      by_cases hc : (k == NameKind.free && env.scope.kind == .function && env.kindOf n == some .cell) = true
      · rw [if_pos hc]; simp only [List.lookup_cons, hx]; exact e
      · rw [if_neg hc]; simp only [List.lookup_cons, hx]; exact e
theorem of_relabel {env : Env} : ∀ {names : List (Str × NameKind)} {x : Str} {k' : NameKind}, (k' = .cell ∨ k' = .free) → (∀ y ∈ names, y.2 ≠ .cell) →
    (names.map fun (n, k) => if (k == NameKind.free && env.scope.kind == .function && env.kindOf n == some .cell) then (n, NameKind.cell) else (n, k)).lookup x = some k' → (x, NameKind.free) ∈ names
  | [], _, _, _, _, h => by simp at h
  | (n, k) :: r, x, k', hk', hc, h => by
    have h2 : List.lookup x ((if (k == NameKind.free && env.scope.kind == .function && env.kindOf n == some .cell) = true then (n, NameKind.cell) else (n, k)) :: (r.map fun (n, k) => if (k == NameKind.free && env.scope.kind == .function && env.kindOf n == some .cell) then (n, NameKind.cell) else (n, k))) = some k' := h
    have ih := @of_relabel env r x k' hk' (fun y hy => hc y (List.mem_cons_of_mem _ hy))
    cases hx : x == n with
    | true =>
      have e : x = n := beq_iff_eq.mp hx
      subst e
      by_cases hk : k = .free
      · subst hk; exact List.mem_cons_self
      · have hkf : (k == NameKind.free) = false := by simpa using hk
        simp only [hkf, Bool.false_and, Bool.false_eq_true, if_false, List.lookup_cons, beq_self_eq_true, Option.some.injEq] at h2
        subst h2
        rcases hk' with z | z
        · exact absurd z (hc (x, k) List.mem_cons_self)
        · exact absurd z hk
    | false =>
      refine List.mem_cons_of_mem _ (ih ?_)
      by_cases hcc : (k == NameKind.free && env.scope.kind == .function && env.kindOf n == some .cell) = true
      · rw [if_pos hcc] at h2; simp only [List.lookup_cons, hx] at h2; exact h2
      · rw [if_neg hcc] at h2; simp only [List.lookup_cons, hx] at h2; exact h2
end L2

namespace L2
open PySem PySem.Spec PyProof.Rows

/-- the slots of a comprehension's block: for each of its names the outer slot that it is caught from, or none (its own) -/
def capt (cap : List (Option Nat)) (σ : St) : St := cap.map fun o => match o with | some i => (σ[i]?).join | none => none
def blkOk (No : List Str) (sc : Scope) (N : List Str) (cap : List (Option Nat)) (scope : Scope) : Bool :=
  scope.kind == .function && cap.length == N.length
    && scope.names.all (fun y => y.2 != .cell && (y.2 != .local || scope.names.lookup y.1 == some .local) && (y.2 != .free || (sc.names.lookup y.1 == some .cell || sc.names.lookup y.1 == some .free)))
    && (cap.zip N).all (fun p => match p.1 with | none => true | some i => No[i]? == some p.2 && scope.names.lookup p.2 == some .free)
structure BlkOk (No : List Str) (sc : Scope) (N : List Str) (cap : List (Option Nat)) (scope : Scope) : Prop where
  kind : scope.kind = .function
  len : cap.length = N.length
  cell : ∀ y ∈ scope.names, y.2 ≠ .cell
  names : ∀ y ∈ scope.names, y.2 = .local → scope.names.lookup y.1 = some .local
  free : ∀ y ∈ scope.names, y.2 = .free → sc.names.lookup y.1 = some .cell ∨ sc.names.lookup y.1 = some .free
  cap : ∀ (j i : Nat) (x : Str), cap[j]? = some (some i) → N[j]? = some x → No[i]? = some x ∧ scope.names.lookup x = some .free
theorem blk_of {No : List Str} {sc : Scope} {N : List Str} {cap : List (Option Nat)} {scope : Scope} (h : blkOk No sc N cap scope = true) : BlkOk No sc N cap scope := by
  unfold blkOk at h
  simp only [Bool.and_eq_true, List.all_eq_true, beq_iff_eq, bne_iff_ne, Bool.or_eq_true] at h
  obtain ⟨⟨⟨h1, h2⟩, h3⟩, h4⟩ := h
  refine ⟨h1, h2, fun y hy => (h3 y hy).1.1, fun y hy hl => ?_, fun y hy hf => ?_, fun j i x e1 e2 => ?_⟩
  · rcases (h3 y hy).1.2 with z | z
    · exact absurd hl z
    · exact z
  · rcases (h3 y hy).2 with z | z
    · exact absurd hf z
    · exact z
  · have hm : (some i, x) ∈ cap.zip N := by
      refine List.mem_of_getElem? (i := j) ?_
      rw [List.getElem?_zip_eq_some]
      exact ⟨e1, e2⟩
    have := h4 _ hm
    simpa using this
abbrev Cx.blk (X : Cx) (N : List Str) (scope : Scope) (cl : List (Str × Addr)) (C : Addr) (s3 : Shared) (H3 : Hp) (fp : List Addr) : Cx :=
  { X with N := N, s₀ := s3, H₀ := H3, env := compEnvC scope cl C X.env, outer := X.stack, ex := fp, fn := fun _ => false, pn := [], xe := fun _ _ => False }
section
variable {X : Cx} {N : List Str} {cap : List (Option Nat)} {scope : Scope} {cl : List (Str × Addr)} {C : Addr} {s3 : Shared} {H3 : Hp} {fp : List Addr} {pins : List (Addr × Obj)} {σ : St}
theorem blk_in {h4 : Heap} {m : Str → Option Value} {tk : Nat} (I : Inv X pins σ H3 s3) (ok : BlkOk X.N X.env.scope N cap scope)
    (cl1 : ∀ x c, cl.lookup x = some c → X.env.cells.lookup x = some c) (cl2 : ∀ x ∈ scope.names, x.2 = .free → ∃ c, cl.lookup x.1 = some c)
    (hf : ∀ b ∈ fp, FpOk X pins H3 b ∧ b < s3.heap.objs.size) (hC : s3.heap.objs.size = C) (hn : h4.Ns C m) (hk : ∀ b o, s3.heap.get? b = some o → h4.get? b = some o) :
    Inv (X.blk N scope cl C s3 H3 fp) [] (capt cap σ) H3 { s3 with heap := h4, toks := tk } := by
  have ltC : ∀ b o, s3.heap.get? b = some o → b ≠ C := fun b o e => Nat.ne_of_lt (hC ▸ Heap.lt_size e)
  have cellK : ∀ x c, cl.lookup x = some c → ∃ v, h4.IsCell c v := fun x c e => by
    obtain ⟨v, o, ho, hd⟩ := I.cell x c (cl1 x c e)
    exact ⟨v, o, hk c o ho, hd⟩
  have fr : H3 C = none := I.hok.fresh (Nat.le_of_eq hC)
  refine ⟨⟨I.ok.mod, ?_, I.ok.glob, I.ok.blt, ?_, fun x y c e1 e2 => I.ok.inj x y c (cl1 _ _ e1) (cl1 _ _ e2), fun x hx => ?_, (fun x c z => nomatch z), I.ok.hd, I.ok.frames, .inl rfl, fun b hb => ⟨?_, fun x c e => ?_⟩,
    I.bs, Nat.le_trans I.ok.bsz I.sz, fun b o e hb => ?_, fun b hb hb2 => ?_, I.stack, I.stkFree⟩, rfl, I.bare, Un.kept hk, ⟨m, hn, fun j x v e1 e2 e3 => ?_⟩, cellK, fr, fun x c e => I.freeC x c (cl1 x c e), fun p hp => ?_, I.hok.kept hk, ?_⟩
  · exact ok.kind
  · exact Nat.le_of_eq hC
  · have hx' : ∃ k', (k' = NameKind.cell ∨ k' = NameKind.free) ∧ (relabel scope X.env).names.lookup x = some k' := by
      rcases hx with z | z
      · exact ⟨_, .inl rfl, z⟩
      · exact ⟨_, .inr rfl, z⟩
    obtain ⟨k', hk', z⟩ := hx'
    exact cl2 (x, .free) (of_relabel hk' ok.cell z) rfl
  · exact Nat.ne_of_lt (hC ▸ (hf b hb).2)
  · exact (hf b hb).1.2.2.2.2.1 x c (cl1 x c e)
  · rcases (hf b hb).1.2.2.2.1 with z | z
    · exact I.ok.noex b o e z
    · exact absurd (Nat.lt_of_lt_of_le (Heap.lt_size e) (Nat.le_trans I.ok.bsz z)) (Nat.lt_irrefl _)
  · rcases List.mem_cons.mp (I.stkSub b hb2) with z | z
    · exact (hf b hb).1.2.1 z
    · exact (hf b hb).1.2.2.1 z
  · unfold capt at e2
    rw [List.getElem?_map] at e2
    cases hj : cap[j]? with
    | none => rw [hj] at e2; cases e2
    | some o =>
      rw [hj] at e2
      cases o with
      | none => cases e2
      | some i =>
        obtain ⟨h1, h2⟩ := ok.cap j i x hj e1
        have e2' : (σ[i]?).join = some v := Option.some.inj e2
        have e4 : σ[i]? = some (some v) := by
          cases hs : σ[i]? with
          | none => rw [hs] at e2'; cases e2'
          | some o => rw [hs] at e2'; exact congrArg some e2'
        have hmem : (x, NameKind.free) ∈ scope.names := by
          have key : ∀ (l : List (Str × NameKind)), l.lookup x = some NameKind.free → (x, NameKind.free) ∈ l := by
            intro l
            induction l with
            | nil => intro z; simp at z
            | cons y r ih =>
              intro z
              rw [List.lookup_cons] at z
              cases hxy : x == y.1 with
              | true => rw [hxy] at z; have := beq_iff_eq.mp hxy; have z2 : y.2 = .free := Option.some.inj z; rw [this, ← z2]; exact List.mem_cons_self
              | false => rw [hxy] at z; exact List.mem_cons_of_mem _ (ih z)
          exact key _ h2
        have hout := ok.free _ hmem rfl
        obtain ⟨m', hn', hl'⟩ := I.loc
        obtain ⟨u, r, l⟩ := hl' i x v h1 e4 (.inr hout)
        refine ⟨u, r, .inr ⟨?_, ?_⟩⟩
        · obtain ⟨k', hk', e⟩ := relabel_free (env := X.env) h2
          rcases hk' with rfl | rfl
          · exact .inl e
          · exact .inr e
        · rcases l with ⟨kl, _⟩ | ⟨_, c, hc, o, ho, hd⟩
          · rcases hout with z | z
            · rw [show X.env.kindOf x = some .cell from z] at kl; cases kl
            · rw [show X.env.kindOf x = some .free from z] at kl; cases kl
          · obtain ⟨c', hc'⟩ := cl2 _ hmem rfl
            have e := cl1 _ _ hc'
            have e' : X.env.cells.lookup x = some c' := e
            rw [hc] at e'
            cases e'
            exact ⟨c, hc', o, hk c o ho, hd⟩
  · exact nomatch hp
  · unfold capt; rw [List.length_map]; exact ok.len
theorem blk_out {σ' : St} {H' : Hp} {s' : Shared} {h' : Heap} (I : Inv X pins σ H3 s3) (I' : Inv (X.blk N scope cl C s3 H3 fp) [] σ' H' s') (hf : ∀ b ∈ fp, FpOk X pins H3 b) (hs : Heap.SameBut C s'.heap h') (hC : s3.heap.objs.size = C) :
    Inv X pins σ H' { s' with heap := h' } := by
  have hb := I'.base
  have neC : ∀ b o, s3.heap.get? b = some o → b ≠ C := fun b o e => Nat.ne_of_lt (hC ▸ Heap.lt_size e)
  have ext : ∀ b o, b ≠ C → s'.heap.get? b = some o → h'.get? b = some o := fun b o n e => hs.extBut b o n e
  refine I.call' (ch := fp) I'.os ⟨fun b o e n h1 h2 => ext b o (neC b o e) (hb.keep b o e n h1 h2), fun b o e n h1 h2 => ?_, fun b o e n h2 => hb.free b o e n h2, fun b o e h2 => ?_, hb.tups, hb.frzs, hb.tbls⟩ (fun b u e => ?_) I'.bare fun b hb => ?_
  · obtain ⟨sl, q⟩ := hb.slot b o e n h1 h2
    exact ⟨sl, ext b _ (neC b o e) q⟩
  · obtain ⟨o', q⟩ := hb.there b o e h2
    exact ⟨o', ext b o' (neC b o e) q⟩
  · have fr : H' C = none := I'.free
    refine (I'.hok b u e).stay (fun c v hc q => ext c v ?_ q) (fun _ q => q) fun _ _ q => q
    rintro rfl
    rcases hc with z | z
    · rw [← z, fr] at e; cases e
    · rw [fr] at z; cases z
  · obtain ⟨f0, f1, f2, f3, f4, f5⟩ := hf b hb
    exact ⟨f3, f1, f4, f5⟩
end
end L2

namespace L2
open PySem PySem.Spec PyProof.Rows

def tComp (wi : TI) (cap : List (Option Nat)) (g : TG) (t : TT) (b : Addr → TB) : TE := fun σ H Q =>
  wi σ H fun J H1 => ∀ acc, H1 acc = none → bWalk J g t (b acc) (fun _ H2 => Q (.ref acc) H2) (capt cap σ) (upd H1 acc (.lst []))
section
variable {X : Cx} {elt tg iter : Expr} {ifs : List Expr} {rest : List Comprehension} {scope : Scope} {pos : Pos} {N : List Str} {cap : List (Option Nat)} {wi : TI} {g : TG} {t : TT} {b : Addr → TB}
/-- the block, from its iterator on; RR: what is wanted behind it -/
theorem comp_block {pins : List (Addr × Obj)} {σ : St} {Q : VK} {s2 : Shared} {itv : Value} {cl : List (Str × Addr)} {RR : Value → Addr → Result → Shared → Prop} (hc : X.calm = true) (ok : BlkOk X.N X.env.scope N cap scope)
    (cl1 : ∀ x c, cl.lookup x = some c → X.env.cells.lookup x = some c) (cl2 : ∀ x ∈ scope.names, x.2 = .free → ∃ c, cl.lookup x.1 = some c)
    (hb : ∀ cl C s3 H3 fp, PG (X.blk N scope cl C s3 H3 fp) tg g ∧ PTs (X.blk N scope cl C s3 H3 fp) ifs t ∧ ∀ it acc, PAf (X.blk N scope cl C s3 H3 fp) elt (⟨tg, iter, ifs, 0⟩ :: rest) scope pos 0 (.ref it) (.ref acc) (b acc))
    (h : PIE X pins σ tg (fun J H1 => ∀ acc, H1 acc = none → bWalk J g t (b acc) (fun _ H2 => Q (.ref acc) H2) (capt cap σ) (upd H1 acc (.lst []))) itv s2)
    (hR : ∀ (acc C : Addr) (H' : Hp) (s' : Shared) (m : Str → Option Value), s'.heap.Ns C m → H' C = none → X.s₀.heap.objs.size ≤ C → C ≠ X.env.locals → (∀ x c, X.env.cells.lookup x = some c → c ≠ C) → (∀ p ∈ X.pn ++ pins, p.1 ≠ C) → (∀ h', Heap.SameBut C s'.heap h' → Inv X pins σ H' { s' with heap := h' }) → Q (.ref acc) H' → RR (.ref acc) C (.ok .next) s') :
    wpAny (model X.prog X.w) X.A (newList []) (fun acc s₃ => wpAny (model X.prog X.w) X.A (newFunctionEnv scope X.env.globals cl [] X.env.qual none .none (some X.env)) (fun cenv s₄ =>
      codeAny (model X.prog X.w) X.A (.compStart (.ListComp elt (⟨tg, iter, ifs, 0⟩ :: rest) scope pos) 0 itv acc { cenv with scope := relabel scope X.env }) (fun r s' => match r with | .ok _ => RR acc cenv.locals (.ok .next) s' | .error _ => False) s₄) X.xe s₃) X.xe s2 := by
  obtain ⟨it, fp, tn, J, H2, e, I2, T, st2, f2, q⟩ := h
  subst e
  refine wpAny_newObj_type (wpAny_newFunctionEnv ok.cell (by intro y hy; simp at hy) (fun h₁ hns₁ hsb₁ => ?_) ok.kind)
  dsimp only at hns₁ hsb₁ ⊢
  have I3 := I2.lnew (its := []) (ys := []) (t' := s2.toks) .nil (Nat.zero_le _)
  have fr : H2 s2.heap.objs.size = none := I2.hok.fresh (Nat.le_refl _)
  have hlt : ∀ b ∈ fp, b < s2.heap.objs.size := fun b hb => by
    obtain ⟨o, e, _⟩ := T.obj 0 _ st2 b hb
    exact Heap.lt_size e
  generalize hS3 : ({ s2 with heap := s2.heap.push { cls := .type "list", dict := none, data := .seq ([] : List Value).toArray } } : Shared) = s3 at *
  have hS : s3.heap = s2.heap.push { cls := .type "list", dict := none, data := .seq ([] : List Value).toArray } := by rw [← hS3]
  have hsz : s3.heap.objs.size = s2.heap.objs.size + 1 := by rw [hS, Heap.size_push]
  have I3' : Inv X pins σ (upd H2 s2.heap.objs.size (.lst [])) s3 := I3
  have hf3 : ∀ b ∈ fp, FpOk X pins (upd H2 s2.heap.objs.size (.lst [])) b ∧ b < s3.heap.objs.size := fun b hb => by
    have hl := hlt b hb
    refine ⟨⟨?_, (f2 b hb).2⟩, ?_⟩
    · rw [upd_ne (Nat.ne_of_lt hl)]; exact (f2 b hb).1
    · rw [hsz]; exact Nat.lt_succ_of_lt hl
  rw [← hS] at hns₁ hsb₁
  have kp : ∀ b o, s3.heap.get? b = some o → h₁.get? b = some o := fun b o e => hsb₁.extBut b o (Nat.ne_of_lt (Heap.lt_size e)) (Heap.get?_push_of_some _ e)
  have kp2 : ∀ b o, s2.heap.get? b = some o → h₁.get? b = some o := fun b o e => kp b o (by rw [hS]; exact Heap.get?_push_of_some _ e)
  rw [← hS]
  obtain ⟨hb1, hb2, hb3⟩ := hb cl s3.heap.objs.size s3 (upd H2 s2.heap.objs.size (.lst [])) fp
  have e4 : ∀ tk, ({ s2 with heap := h₁, toks := tk } : Shared) = { s3 with heap := h₁, toks := tk } := fun tk => by rw [← hS3]
  show codeAny _ _ (.compStart _ 0 (.ref it) (.ref s2.heap.objs.size) (compEnvC scope cl s3.heap.objs.size X.env)) _ _
  have I4 : Inv (X.blk N scope cl s3.heap.objs.size s3 (upd H2 s2.heap.objs.size (.lst [])) fp) [] (capt cap σ) (upd H2 s2.heap.objs.size (.lst [])) { s3 with heap := h₁, toks := s3.toks } :=
    blk_in (tk := s3.toks) I3' ok cl1 cl2 hf3 rfl hns₁ kp
  have f4 : ∀ b ∈ fp, FpOk (X.blk N scope cl s3.heap.objs.size s3 (upd H2 s2.heap.objs.size (.lst [])) fp) [] (upd H2 s2.heap.objs.size (.lst [])) b := fun b hb => by
    obtain ⟨⟨g0, g1, g2, g3, g4, g5⟩, g6⟩ := hf3 b hb
    refine ⟨g0, Nat.ne_of_lt g6, fun z => ?_, .inl hb, fun x c e => g4 x c (cl1 x c e), fun p hp => nomatch hp⟩
    rcases List.mem_cons.mp (I3'.stkSub b z) with z | z
    · exact g1 z
    · exact g2 z
  have st4 : tn 0 h₁ := T.keep 0 _ _ st2 fun b hb o e => kp2 b o e
  have lp : ∀ s4 : Shared, s4 = { s3 with heap := h₁, toks := s3.toks } → codeAny (model X.prog X.w) X.A (.compLoop (.ListComp elt (⟨tg, iter, ifs, 0⟩ :: rest) scope pos) 0 (.ref it) (.ref s2.heap.objs.size) (compEnvC scope cl s3.heap.objs.size X.env)) (fun r s' => match r with | .ok _ => RR (.ref s2.heap.objs.size) s3.heap.objs.size (.ok .next) s' | .error _ => False) s4 := by
    intro s4 e4
    rw [e4]
    have lp := comp_loop (X := X.blk N scope cl s3.heap.objs.size s3 (upd H2 s2.heap.objs.size (.lst [])) fp) (d := 0) (N := fun _ H2' => Q (.ref s2.heap.objs.size) H2') rfl hc rfl hb1 hb2 (hb3 it s2.heap.objs.size) T I4 st4 f4 (q _ fr)
    refine codeAny_mono lp fun r s' hr => ?_
    cases r with
    | error e => exact hr
    | ok f =>
      obtain ⟨σ', H', I', q'⟩ := hr
      obtain ⟨m, hn, _⟩ := I'.loc
      exact hR _ _ H' s' m hn I'.free I3'.sz (Nat.ne_of_gt I3'.lt) (fun x c e => by
        obtain ⟨v, z⟩ := I3'.cell x c e
        exact Nat.ne_of_lt z.lt) (fun p hp => Nat.ne_of_lt (Heap.lt_size (I3'.pin p hp).1)) (fun h' hs => blk_out I3' I' (fun b hb => (hf3 b hb).1) hs rfl) q'
  refine comp_start rfl (lp _ ?_) (T.self _ 0 _ _ _ st4 (lp _ ?_))
  · rw [← hS3]; rfl
  · rw [← hS3]; rfl

theorem clos_of {pins : List (Addr × Obj)} {σ : St} {H : Hp} {s : Shared} (I : Inv X pins σ H s) (ok : BlkOk X.N X.env.scope N cap scope) :
    ∃ cl, closureFor scope X.env = pure cl ∧ (∀ x c, cl.lookup x = some c → X.env.cells.lookup x = some c) ∧ ∀ x ∈ scope.names, x.2 = .free → ∃ c, cl.lookup x.1 = some c :=
  closure_of fun x hx hf => I.ok.has x.1 (ok.free x hx hf)

/-- [elt for tg in iter if .. for ..] -/
theorem pe_comp (hc : X.calm = true) (hok : blkOk X.N X.env.scope N cap scope = true) (hi : PI X tg iter wi)
    (hb : ∀ cl C s3 H3 fp, PG (X.blk N scope cl C s3 H3 fp) tg g ∧ PTs (X.blk N scope cl C s3 H3 fp) ifs t ∧ ∀ it acc, PAf (X.blk N scope cl C s3 H3 fp) elt (⟨tg, iter, ifs, 0⟩ :: rest) scope pos 0 (.ref it) (.ref acc) (b acc))
    (hs : ∀ x, foldedSetIterable iter X.env x = pure x := by intro _; rfl) : PE X (.ListComp elt (⟨tg, iter, ifs, 0⟩ :: rest) scope pos) (tComp wi cap g t b) := by
  intro pins s σ H Q I h
  have ok := blk_of hok
  obtain ⟨cl, e0, cl1, cl2⟩ := clos_of I ok
  rw [eval_ListComp]
  refine wpAny_comprehension_free (use := none) rfl hs e0 ok.kind ok.names (thn (hi pins s σ H _ I h) fun v s1 h1 => thn h1 fun itv s2 h2 => ?_)
  refine thn (comp_block (RR := fun acc C => compPost (model X.prog X.w) X.A X.xe none (EP X pins σ Q) acc C) hc ok cl1 cl2 hb h2 ?_) fun acc s3 h3 => thn h3 fun cenv s4 h4 => codeAny_mono h4 fun r s' hr => ?_
  · intro acc C H' s' m hn _ _ _ _ _ hI q
    exact ⟨m, hn, fun h' hs' => ⟨.ref acc, H', hI h' hs', rfl, q⟩⟩
  · cases r with
    | ok f => exact hr
    | error e => exact False.elim hr
/-- x = [elt for ..] where the store stands ahead of the block's end -/
theorem ps_setComp {i : Nat} {y : Str} {py spos : Pos} (hc : X.calm = true) (hok : blkOk X.N X.env.scope N cap scope = true) (hN : X.N.Nodup) (hy : X.N[i]? = some y) (hx : X.env.scope.names.lookup y = some .local) (hi : PI X tg iter wi)
    (hb : ∀ cl C s3 H3 fp, PG (X.blk N scope cl C s3 H3 fp) tg g ∧ PTs (X.blk N scope cl C s3 H3 fp) ifs t ∧ ∀ it acc, PAf (X.blk N scope cl C s3 H3 fp) elt (⟨tg, iter, ifs, 0⟩ :: rest) scope pos 0 (.ref it) (.ref acc) (b acc))
    (hs : ∀ x, foldedSetIterable iter X.env x = pure x := by intro _; rfl)
    (hsw : swapsWith (.ListComp elt (⟨tg, iter, ifs, 0⟩ :: rest) scope pos) (some (.Name y py)) spos.line X.env = pure true := by rfl) :
    PS X (.Assign [.Name y py] (.ListComp elt (⟨tg, iter, ifs, 0⟩ :: rest) scope pos) spos) (tAsg (tComp wi cap g t b) (gName i)) := by
  intro pins s σ H D I h
  have ok := blk_of hok
  obtain ⟨cl, e0, cl1, cl2⟩ := clos_of I ok
  rw [exec_Assign_Name_used _ _ _ _ hsw]
  refine wpAny_bind (wpAny_standAt (wpAny_bind ?_))
  show wpAny _ X.A (do let _ ← comprehension (.ListComp elt (⟨tg, iter, ifs, 0⟩ :: rest) scope pos) scope X.env _ (newList []) false (eval iter X.env) (some (assign (.Name y py) X.env))) _ _ s
  refine wpAny_bind (wpAny_mono (wpAny_comprehension_free (use := some (assign (.Name y py) X.env)) (Q := fun _ s' => SP X pins D .next s') rfl hs e0 ok.kind ok.names
    (thn (hi pins s σ H _ I h) fun v s1 h1 => thn h1 fun itv s2 h2 => ?_)) (fun _ s' hq => wpAny_pure (wpAny_pure hq)) fun _ _ e => e)
  refine thn (comp_block (RR := fun acc C => compPost (model X.prog X.w) X.A X.xe (some (assign (.Name y py) X.env)) (fun _ s' => SP X pins D .next s') acc C) (Q := fun v H2 => D.nx (σ.set i (some v)) H2) hc ok cl1 cl2 hb h2 ?_) fun acc s3 h3 => thn h3 fun cenv s4 h4 => codeAny_mono h4 fun r s' hr => ?_
  · intro acc C H' s' m hn hfr hC1 hC2 hC3 hC4 hI q
    have I' : Inv X pins σ H' s' := hI s'.heap (.refl ..)
    show wpAny _ _ (assign (.Name y py) X.env (.ref acc)) _ _ s'
    refine wpAny_assign_Name (store_ok2 I' hN hy (.inl hx) (v := .ref acc) rfl (fun s2 I2 ⟨a, hsa, ha⟩ => ?_) (.inr hx))
    have haC : C ≠ a := by
      rcases ha with z | z
      · rw [z]; exact hC2
      · exact Ne.symm (hC3 y a z)
    refine ⟨m, hn.sameBut hsa haC, fun h' hs' => ?_⟩
    exact ⟨_, H', I2.turned (it := C) (t' := s2.toks) (fun b o hb e => hs'.extBut b o hb e) hfr hC2 (.inr hC1) hC3 hC4, q⟩
  · cases r with
    | ok f => exact hr
    | error e => exact False.elim hr
end
end L2

namespace L2
open PySem PySem.Spec PyProof.Rows

/-! ### zip of two lists or tuples -/
/-- the iterator at it over the sequence at l, k items taken: of a tuple (b), of a list -/
def ZI (b : Bool) (h : Heap) (it l : Addr) (k : Nat) : Prop := ∃ o, h.get? it = some o ∧ o.cls = .type (if b then "tuple_iterator" else "list_iterator") ∧ o.data = .fields #[.ref l, .int k 0]
def ZS (b : Bool) (h : Heap) (l : Addr) (xs : Array Value) : Prop := ∃ o, h.get? l = some o ∧ o.cls = .type (if b then "tuple" else "list") ∧ ∃ n, o.data = .seq xs n
theorem ZI.at {b : Bool} {h h' : Heap} {it l : Addr} {k : Nat} (z : ZI b h it l k) (e : ∀ o, h.get? it = some o → h'.get? it = some o) : ZI b h' it l k := let ⟨o, ho, r⟩ := z; ⟨o, e o ho, r⟩
theorem ZS.at {b : Bool} {h h' : Heap} {l : Addr} {xs : Array Value} (z : ZS b h l xs) (e : ∀ o, h.get? l = some o → h'.get? l = some o) : ZS b h' l xs := let ⟨o, ho, r⟩ := z; ⟨o, e o ho, r⟩
section
variable {P : Program} {w : World} {A : Around} {E : Value → Shared → Prop} {s : Shared}
theorem nextOf_tup_item {it t : Addr} {i : Nat} {items : Array Value} {x : Value} {Q : Value → Shared → Prop} (hit : s.heap.IsTupleIter it t i) (ht : s.heap.IsTuple t items) (hx : items[i]? = some x)
    (hQ : ∀ h', h'.IsTupleIter it t (i + 1) → Heap.SameBut it s.heap h' → Q x { s with heap := h' }) : wpAny (model P w) A (Builtin.SmallTypes.nextOf (.ref it)) Q E s := by
  obtain ⟨o, ho, hc, hd⟩ := id hit
  obtain ⟨ol, hol, _, nl, hdl⟩ := ht
  unfold Builtin.SmallTypes.nextOf
  refine wpAny_bind (wpAny_callSpecial?_slot (name := Str.ofString "__next__") hit.typeIs F.slot_tuple_iterator_next (wpAny_call_entry F.slot_tuple_iterator_next hit.typeIs F.entry_tuple_iterator_next ?_ (F.args_tuple_iterator_next_1 _)))
  show wpAny _ _ (field (.ref it) 0 >>= _) _ _ s
  refine wpAny_bind (wpAny_field ho hd (x := .ref t) rfl ?_)
  show wpAny _ _ (if (Value.ref t == Value.none) = true then _ else _) _ _ s
  rw [if_neg (show ¬ ((Value.ref t == Value.none) = true) from Bool.false_ne_true)]
  show wpAny _ _ (field (.ref it) 1 >>= _) _ _ s
  refine wpAny_bind (wpAny_field ho hd (x := .int i 0) rfl ?_)
  show wpAny _ _ (seqItems? (.ref t) >>= _) _ _ s
  refine wpAny_bind (wpAny_seqItems hol hdl ?_)
  simp only [Int.toNat_natCast, hx]
  refine wpAny_bind (wpAny_setField ho hd (by simp) (wpAny_pure ⟨x, rfl, wpAny_pure (hQ _ ?_ (Heap.SameBut.update ..))⟩))
  exact ⟨_, Heap.get?_update_self _ ho (Obj.isFreed_of_fields (Obj.data_mapFields hd _)), (Obj.cls_mapFields ..).trans hc, by rw [Obj.data_mapFields hd]; simp [rawInt]⟩
theorem nextOf_tup_end {it t : Addr} {i : Nat} {items : Array Value} {Q : Value → Shared → Prop} (hh : A.handled = none) (hit : s.heap.IsTupleIter it t i) (ht : s.heap.IsTuple t items) (hx : items[i]? = none)
    (hE : ∀ h' e, Heap.ExtBut it s.heap h' → (∃ o, h'.get? e = some o ∧ o.cls = .type "StopIteration") → E (.ref e) { s with heap := h' }) : wpAny (model P w) A (Builtin.SmallTypes.nextOf (.ref it)) Q E s := by
  obtain ⟨o, ho, hc, hd⟩ := id hit
  obtain ⟨ol, hol, _, nl, hdl⟩ := ht
  unfold Builtin.SmallTypes.nextOf
  refine wpAny_bind (wpAny_callSpecial?_slot (name := Str.ofString "__next__") hit.typeIs F.slot_tuple_iterator_next (wpAny_call_entry F.slot_tuple_iterator_next hit.typeIs F.entry_tuple_iterator_next ?_ (F.args_tuple_iterator_next_1 _)))
  show wpAny _ _ (field (.ref it) 0 >>= _) _ _ s
  refine wpAny_bind (wpAny_field ho hd (x := .ref t) rfl ?_)
  show wpAny _ _ (if (Value.ref t == Value.none) = true then _ else _) _ _ s
  rw [if_neg (show ¬ ((Value.ref t == Value.none) = true) from Bool.false_ne_true)]
  show wpAny _ _ (field (.ref it) 1 >>= _) _ _ s
  refine wpAny_bind (wpAny_field ho hd (x := .int i 0) rfl ?_)
  show wpAny _ _ (seqItems? (.ref t) >>= _) _ _ s
  refine wpAny_bind (wpAny_seqItems hol hdl ?_)
  simp only [Int.toNat_natCast, hx]
  refine wpAny_bind (wpAny_rule (wpAny_bind (wpAny_setField ho hd (by simp) ?_)))
  show wpAny _ _ (newExc (.type "StopIteration") [] >>= _) _ _ _
  refine wpAny_bind ?_
  simp only [newExc, newTuple]
  refine wpAny_bind (wpAny_newObj_type ?_ (by size_fits))
  refine wpAny_bind (m := firstArgMember _ _) (wpAny_of_eq (a := Value.none) (by first | rfl | (simp only [firstArgMember]; rfl)) ?_)
  refine wpAny_newObj_type ?_ (by size_fits)
  simp only [raiseNew]
  refine wpAny_bind (wpAny_handled ?_)
  first | rw [show A.in1.handled = none from hh] | rw [hh]
  refine wpAny_bind (wpAny_pure (wpAny_throw ?_))
  exact hE _ _ (((Heap.SameBut.update ..).extBut.push _).push _) ⟨_, Heap.get?_push_size _ rfl, rfl⟩
theorem nextOf_item {b : Bool} {it l : Addr} {k : Nat} {xs : Array Value} {x : Value} {Q : Value → Shared → Prop} (hi : ZI b s.heap it l k) (hs : ZS b s.heap l xs) (hx : xs[k]? = some x)
    (hQ : ∀ h', ZI b h' it l (k + 1) → Heap.SameBut it s.heap h' → Q x { s with heap := h' }) : wpAny (model P w) A (Builtin.SmallTypes.nextOf (.ref it)) Q E s := by
  cases b with
  | true => exact nextOf_tup_item hi hs hx hQ
  | false => exact wpAny_nextOf_list_item hi hs hx hQ
theorem nextOf_end {b : Bool} {it l : Addr} {k : Nat} {xs : Array Value} {Q : Value → Shared → Prop} (hh : A.handled = none) (hi : ZI b s.heap it l k) (hs : ZS b s.heap l xs) (hx : xs[k]? = none)
    (hE : ∀ h' e, Heap.ExtBut it s.heap h' → (∃ o, h'.get? e = some o ∧ o.cls = .type "StopIteration") → E (.ref e) { s with heap := h' }) : wpAny (model P w) A (Builtin.SmallTypes.nextOf (.ref it)) Q E s := by
  cases b with
  | true => exact nextOf_tup_end hh hi hs hx hE
  | false => exact wpAny_nextOf_list_end hh hi hs hx hE
theorem iter_of {b : Bool} {l : Addr} {xs : Array Value} {Q : Value → Shared → Prop} (hs : ZS b s.heap l xs)
    (hQ : Q (.ref s.heap.objs.size) { s with heap := s.heap.push { cls := .type (if b then "tuple_iterator" else "list_iterator"), data := .fields #[.ref l, .int 0 0] } }) : wpAny (model P w) A (pyIter (.ref l)) Q E s := by
  cases b with
  | true => exact wpAny_pyIter_tuple hs hQ
  | false => exact wpAny_pyIter_list hs hQ
end
end L2

namespace L2
open PySem PySem.Spec PyProof.Rows
section
variable {P : Program} {w : World} {A : Around} {E : Value → Shared → Prop} {s : Shared}
structure ZApart (z TI TO i1 i2 l1 l2 : Addr) : Prop where
  a1 : TI ≠ z
  a2 : TO ≠ z
  a3 : i1 ≠ z
  a4 : i2 ≠ z
  a5 : TI ≠ TO
  a6 : TI ≠ i1
  a7 : TI ≠ i2
  a8 : TO ≠ i1
  a9 : TO ≠ i2
  a10 : i1 ≠ i2
  b1 : l1 ≠ z
  b2 : l1 ≠ TO
  b3 : l1 ≠ i1
  b4 : l1 ≠ i2
  c1 : l2 ≠ z
  c2 : l2 ≠ TO
  c3 : l2 ≠ i1
  c4 : l2 ≠ i2
/-- the state of a zip: k pairs handed out, the last one let go -/
structure ZSt (b1 b2 : Bool) (z TI TO i1 i2 l1 l2 : Addr) (f0 : Value) (k : Nat) (h : Heap) : Prop where
  zz : IsZip h z TI TO f0
  ti : IsPair h TI (.ref i1) (.ref i2)
  to : ∃ a b, IsPair h TO a b
  h1 : ZI b1 h i1 l1 k
  h2 : ZI b2 h i2 l2 k
theorem zip_item {b1 b2 : Bool} {z TI TO i1 i2 l1 l2 : Addr} {k : Nat} {xs ys : Array Value} {x y : Value} {Q : Value → Shared → Prop} (D : ZApart z TI TO i1 i2 l1 l2) (S : ZSt b1 b2 z TI TO i1 i2 l1 l2 .none k s.heap)
    (g1 : ZS b1 s.heap l1 xs) (g2 : ZS b2 s.heap l2 ys) (hx : xs[k]? = some x) (hy : ys[k]? = some y)
    (hQ : ∀ h', ZSt b1 b2 z TI TO i1 i2 l1 l2 (rawInt s.heap.objs.size) (k + 1) h' → IsPair h' s.heap.objs.size x y →
      (∀ c o, c ≠ z → c ≠ TO → c ≠ i1 → c ≠ i2 → s.heap.get? c = some o → h'.get? c = some o) → Q (.ref s.heap.objs.size) { s with heap := h' }) :
    wpAny (model P w) A (Builtin.«zip.__next__» ⟨[.ref z], []⟩) (fun fin s' => ∃ v, fin = .done (.ret v) ∧ Q v s') E s := by
  obtain ⟨zz, ti, ⟨a, b, to⟩, h1, h2⟩ := S
  show wpAny _ _ (field (.ref z) 2 >>= _) _ _ _
  refine wpAny_bind (wpAny_field zz rfl (x := .bool false) rfl ?_)
  show wpAny _ _ (field (.ref z) 3 >>= _) _ _ _
  refine wpAny_bind (wpAny_field zz rfl (x := .ref TI) rfl (wpAny_bind (wpAny_seqItems ti rfl ?_)))
  show wpAny _ _ (Builtin.SmallTypes.ownedTupleIsFree (.ref z) >>= _) _ _ _
  refine wpAny_bind ?_
  unfold Builtin.SmallTypes.ownedTupleIsFree
  refine wpAny_bind (wpAny_field zz rfl (x := .none) rfl (wpAny_pure ?_))
  simp only [if_true]
  refine wpAny_bind (wpAny_rule (wpAny_bind (wpAny_field zz rfl (x := .ref TO) rfl (wpAny_bind (wpAny_setField_rec zz (by simp) fun H1 z1 k1 => ?_)))))
  replace z1 : IsZip H1 z TI TO .ellipsis := z1
  refine wpAny_bind ?_
  simp only [List.zipIdx_cons, List.zipIdx_nil, List.forIn_cons, List.forIn_nil]
  -- the first one
  refine wpAny_bind (wpAny_bind (wpAny_onRaise ?_))
  show wpAny _ _ (Builtin.SmallTypes.nextOf (.ref i1) >>= _) _ _ _
  refine wpAny_bind (nextOf_item (h1.at fun o e => k1.extBut _ o D.a3 e) (g1.at fun o e => k1.extBut _ o D.b1 e) hx fun H2 j1 k2 => wpAny_pure ?_)
  have t2 : IsPair H2 TO a b := k2.extBut _ _ D.a8 (k1.extBut _ _ D.a2 to)
  refine wpAny_bind (wpAny_seqItems t2 rfl (wpAny_bind (wpAny_updateSeq_pair t2 fun H3 t3 k3 => ?_)))
  replace t3 : IsPair H3 TO x b := t3
  refine wpAny_bind (wpAny_letGo (wpAny_pure ?_))
  -- the second one
  refine wpAny_bind (wpAny_bind (wpAny_onRaise ?_))
  show wpAny _ _ (Builtin.SmallTypes.nextOf (.ref i2) >>= _) _ _ _
  have u3 : ∀ c o, c ≠ z → c ≠ TO → c ≠ i1 → s.heap.get? c = some o → H3.get? c = some o := fun c o c1 c2 c3 e => k3.extBut _ _ c2 (k2.extBut _ _ c3 (k1.extBut _ _ c1 e))
  refine wpAny_bind (nextOf_item (h2.at fun o e => u3 _ o D.a4 (Ne.symm D.a9) (Ne.symm D.a10) e) (g2.at fun o e => u3 _ o D.c1 D.c2 D.c3 e) hy fun H4 j2 k4 => wpAny_pure ?_)
  have t4 : IsPair H4 TO x b := k4.extBut _ _ D.a9 t3
  refine wpAny_bind (wpAny_seqItems t4 rfl (wpAny_bind (wpAny_updateSeq_pair t4 fun H5 t5 k5 => ?_)))
  replace t5 : IsPair H5 TO x y := t5
  refine wpAny_bind (wpAny_letGo (wpAny_pure (wpAny_pure (wpAny_bind (wpAny_seqItems t5 rfl (wpAny_bind (wpAny_newTuple ?_)))))))
  have sz : H5.objs.size = s.heap.objs.size := by rw [k5.1, k4.1, k3.1, k2.1, k1.1]
  have z5 : IsZip H5 z TI TO .ellipsis := k5.extBut _ _ (Ne.symm D.a2) (k4.extBut _ _ (Ne.symm D.a4) (k3.extBut _ _ (Ne.symm D.a2) (k2.extBut _ _ (Ne.symm D.a3) z1)))
  have u5 : ∀ c o, c ≠ z → c ≠ TO → c ≠ i1 → c ≠ i2 → s.heap.get? c = some o → H5.get? c = some o := fun c o c1 c2 c3 c4 e => k5.extBut _ _ c2 (k4.extBut _ _ c4 (u3 c o c1 c2 c3 e))
  have j1' : ZI b1 H5 i1 l1 (k + 1) := j1.at fun o e => k5.extBut _ _ (Ne.symm D.a8) (k4.extBut _ _ D.a10 (k3.extBut _ _ (Ne.symm D.a8) e))
  have j2' : ZI b2 H5 i2 l2 (k + 1) := j2.at fun o e => k5.extBut _ _ (Ne.symm D.a9) e
  have ltz : z < H5.objs.size := Heap.lt_size z5
  show wpAny _ _ (Builtin.SmallTypes.ownedTupleHandOut (.ref z) (.ref H5.objs.size) >>= _) _ _ _
  refine wpAny_bind ?_
  unfold Builtin.SmallTypes.ownedTupleHandOut
  have z6 : IsZip (H5.push { cls := .type "tuple", data := .seq #[x, y] }) z TI TO .ellipsis := Heap.get?_push_of_some _ z5
  refine wpAny_bind (wpAny_setField_rec z6 (by simp) fun H7 z7 k7 => ?_)
  replace z7 : IsZip H7 z TI TO (rawInt H5.objs.size) := z7
  refine wpAny_setField_rec z7 (by simp) fun H8 z8 k8 => ?_
  replace z8 : IsZip H8 z TI TO (rawInt H5.objs.size) := z8
  have up : ∀ c o, c ≠ z → H5.get? c = some o → H8.get? c = some o := fun c o c1 e => k8.extBut _ _ c1 (k7.extBut _ _ c1 (Heap.get?_push_of_some _ e))
  have t8 : IsPair H8 H5.objs.size x y := k8.extBut _ _ (Nat.ne_of_gt ltz) (k7.extBut _ _ (Nat.ne_of_gt ltz) (Heap.get?_push_size _ rfl))
  rw [sz] at z8 t8
  refine wpAny_pure ⟨_, rfl, ?_⟩
  show Q (.ref H5.objs.size) _
  rw [sz]
  exact hQ H8 ⟨z8, up _ _ D.a1 (u5 _ _ D.a1 D.a5 D.a6 D.a7 ti), ⟨_, _, up _ _ D.a2 t5⟩, j1'.at fun o e => up _ o D.a3 e, j2'.at fun o e => up _ o D.a4 e⟩ t8 fun c o c1 c2 c3 c4 e => up c o c1 (u5 c o c1 c2 c3 c4 e)
theorem zip_stop {b1 b2 : Bool} {z TI TO i1 i2 l1 l2 : Addr} {k : Nat} {xs ys : Array Value} {Q : Fin → Shared → Prop} (hh : A.handled = none) (D : ZApart z TI TO i1 i2 l1 l2) (S : ZSt b1 b2 z TI TO i1 i2 l1 l2 .none k s.heap)
    (g1 : ZS b1 s.heap l1 xs) (g2 : ZS b2 s.heap l2 ys) (hend : xs[k]? = none ∨ ys[k]? = none)
    (hE : ∀ h' e, (∀ c o, c ≠ z → c ≠ TO → c ≠ i1 → c ≠ i2 → s.heap.get? c = some o → h'.get? c = some o) → (∃ o, h'.get? e = some o ∧ o.cls = .type "StopIteration") → E (.ref e) { s with heap := h' }) :
    wpAny (model P w) A (Builtin.«zip.__next__» ⟨[.ref z], []⟩) Q E s := by
  obtain ⟨zz, ti, ⟨a, b, to⟩, h1, h2⟩ := S
  show wpAny _ _ (field (.ref z) 2 >>= _) _ _ _
  refine wpAny_bind (wpAny_field zz rfl (x := .bool false) rfl ?_)
  show wpAny _ _ (field (.ref z) 3 >>= _) _ _ _
  refine wpAny_bind (wpAny_field zz rfl (x := .ref TI) rfl (wpAny_bind (wpAny_seqItems ti rfl ?_)))
  show wpAny _ _ (Builtin.SmallTypes.ownedTupleIsFree (.ref z) >>= _) _ _ _
  refine wpAny_bind ?_
  unfold Builtin.SmallTypes.ownedTupleIsFree
  refine wpAny_bind (wpAny_field zz rfl (x := .none) rfl (wpAny_pure ?_))
  simp only [if_true]
  refine wpAny_bind (wpAny_rule (wpAny_bind (wpAny_field zz rfl (x := .ref TO) rfl (wpAny_bind (wpAny_setField_rec zz (by simp) fun H1 z1 k1 => ?_)))))
  replace z1 : IsZip H1 z TI TO .ellipsis := z1
  refine wpAny_bind ?_
  simp only [List.zipIdx_cons, List.zipIdx_nil, List.forIn_cons, List.forIn_nil]
  refine wpAny_bind (wpAny_bind (wpAny_onRaise ?_))
  show wpAny _ _ (Builtin.SmallTypes.nextOf (.ref i1) >>= _) _ _ _
  have q1 := h1.at fun o e => k1.extBut _ o D.a3 e
  have q2 := g1.at fun o e => k1.extBut _ o D.b1 e
  cases hx : xs[k]? with
  | none =>
    refine wpAny_bind (nextOf_end hh q1 q2 hx fun H2 e k2 he => ?_)
    obtain ⟨oe, hoe, hce⟩ := he
    have z2 : IsZip H2 z TI TO .ellipsis := k2 _ _ (Ne.symm D.a3) z1
    have hez : e ≠ z := fun q => by subst q; rw [z2] at hoe; cases hoe; simp at hce
    exact wpAny_setField_rec z2 (by simp) fun H3 _ k3 => hE H3 e (fun c o c1 _ c3 _ q => k3.extBut _ _ c1 (k2 _ _ c3 (k1.extBut _ _ c1 q))) ⟨oe, k3.extBut _ _ hez hoe, hce⟩
  | some x =>
    have hy : ys[k]? = none := by
      rcases hend with q | q
      · rw [hx] at q; cases q
      · exact q
    refine wpAny_bind (nextOf_item q1 q2 hx fun H2 j1 k2 => wpAny_pure ?_)
    have t2 : IsPair H2 TO a b := k2.extBut _ _ D.a8 (k1.extBut _ _ D.a2 to)
    refine wpAny_bind (wpAny_seqItems t2 rfl (wpAny_bind (wpAny_updateSeq_pair t2 fun H3 t3 k3 => ?_)))
    refine wpAny_bind (wpAny_letGo (wpAny_pure (wpAny_bind (wpAny_bind (wpAny_onRaise ?_)))))
    show wpAny _ _ (Builtin.SmallTypes.nextOf (.ref i2) >>= _) _ _ _
    have u3 : ∀ c o, c ≠ z → c ≠ TO → c ≠ i1 → s.heap.get? c = some o → H3.get? c = some o := fun c o c1 c2 c3 e => k3.extBut _ _ c2 (k2.extBut _ _ c3 (k1.extBut _ _ c1 e))
    refine wpAny_bind (nextOf_end hh (h2.at fun o e => u3 _ o D.a4 (Ne.symm D.a9) (Ne.symm D.a10) e) (g2.at fun o e => u3 _ o D.c1 D.c2 D.c3 e) hy fun H4 e k4 he => ?_)
    obtain ⟨oe, hoe, hce⟩ := he
    have z4 : IsZip H4 z TI TO .ellipsis := k4 _ _ (Ne.symm D.a4) (k3.extBut _ _ (Ne.symm D.a2) (k2.extBut _ _ (Ne.symm D.a3) z1))
    have hez : e ≠ z := fun q => by subst q; rw [z4] at hoe; cases hoe; simp at hce
    exact wpAny_setField_rec z4 (by simp) fun H5 _ k5 => hE H5 e (fun c o c1 c2 c3 c4 q => k5.extBut _ _ c1 (k4 _ _ c4 (u3 c o c1 c2 c3 q))) ⟨oe, k5.extBut _ _ hez hoe, hce⟩
theorem next_zip_item {b1 b2 : Bool} {z TI TO i1 i2 l1 l2 : Addr} {k : Nat} {xs ys : Array Value} {x y : Value} {Q : Option Value → Shared → Prop} (D : ZApart z TI TO i1 i2 l1 l2) (S : ZSt b1 b2 z TI TO i1 i2 l1 l2 .none k s.heap)
    (g1 : ZS b1 s.heap l1 xs) (g2 : ZS b2 s.heap l2 ys) (hx : xs[k]? = some x) (hy : ys[k]? = some y)
    (hQ : ∀ h', ZSt b1 b2 z TI TO i1 i2 l1 l2 (rawInt s.heap.objs.size) (k + 1) h' → IsPair h' s.heap.objs.size x y →
      (∀ c o, c ≠ z → c ≠ TO → c ≠ i1 → c ≠ i2 → s.heap.get? c = some o → h'.get? c = some o) → Q (some (.ref s.heap.objs.size)) { s with heap := h' }) :
    wpAny (model P w) A (pyNext (.ref z)) Q E s := by
  have hT : s.TypeIs (.ref z) "zip" := ⟨_, S.zz, rfl⟩
  unfold pyNext
  exact wpAny_bind (wpAny_attempt (wpAny_callSpecial?_slot (name := Str.ofString "__next__") hT F.slot_zip_next (wpAny_call_entry F.slot_zip_next hT F.entry_zip_next (zip_item D S g1 g2 hx hy fun h' q1 q2 q3 => wpAny_pure (hQ h' q1 q2 q3)) (F.args_zip_next_1 _))))
theorem next_zip_end {b1 b2 : Bool} {z TI TO i1 i2 l1 l2 : Addr} {k : Nat} {xs ys : Array Value} {Q : Option Value → Shared → Prop} (hh : A.handled = none) (D : ZApart z TI TO i1 i2 l1 l2) (S : ZSt b1 b2 z TI TO i1 i2 l1 l2 .none k s.heap)
    (g1 : ZS b1 s.heap l1 xs) (g2 : ZS b2 s.heap l2 ys) (hend : xs[k]? = none ∨ ys[k]? = none)
    (hQ : ∀ h', (∀ c o, c ≠ z → c ≠ TO → c ≠ i1 → c ≠ i2 → s.heap.get? c = some o → h'.get? c = some o) → Q none { s with heap := h' }) : wpAny (model P w) A (pyNext (.ref z)) Q E s := by
  have hT : s.TypeIs (.ref z) "zip" := ⟨_, S.zz, rfl⟩
  unfold pyNext
  refine wpAny_bind (wpAny_attempt (wpAny_callSpecial?_slot (name := Str.ofString "__next__") hT F.slot_zip_next (wpAny_call_entry F.slot_zip_next hT F.entry_zip_next (zip_stop hh D S g1 g2 hend fun h' e hk he => ?_) (F.args_zip_next_1 _))))
  obtain ⟨o, ho, hc⟩ := he
  exact wpAny_bind (wpAny_isInstance (T := "StopIteration") (b := true) ⟨o, ho, hc⟩ isSubtype_stop (wpAny_pure (hQ _ hk)))
end
end L2

namespace L2
open PySem PySem.Spec PyProof.Rows
abbrev itOb (b : Bool) (l : Addr) : Obj := { cls := .type (if b then "tuple_iterator" else "list_iterator"), data := .fields #[.ref l, .int 0 0] }
abbrev zh1 (h : Heap) (b1 : Bool) (l1 : Addr) : Heap := h.push (itOb b1 l1)
abbrev zh2 (h : Heap) (b1 b2 : Bool) (l1 l2 : Addr) : Heap := (zh1 h b1 l1).push (itOb b2 l2)
abbrev zh3 (h : Heap) (b1 b2 : Bool) (l1 l2 : Addr) : Heap := (zh2 h b1 b2 l1 l2).push { cls := .type "tuple", data := .seq #[.ref h.objs.size, .ref (zh1 h b1 l1).objs.size] }
abbrev zh4 (h : Heap) (b1 b2 : Bool) (l1 l2 : Addr) : Heap := (zh3 h b1 b2 l1 l2).push { cls := .type "tuple", data := .seq #[.none, .none] }
abbrev zh5 (h : Heap) (b1 b2 : Bool) (l1 l2 : Addr) : Heap := (zh4 h b1 b2 l1 l2).push { cls := .type "zip", data := .fields #[.none, .bool false, .bool false, .ref (zh2 h b1 b2 l1 l2).objs.size, .ref (zh3 h b1 b2 l1 l2).objs.size] }
theorem meets_zip (b1 b2 : Bool) (l1 l2 : Addr) (xs ys : Array Value) :
    Meets (Builtin.«zip.__new__» ⟨[.type "zip", .ref l1, .ref l2], []⟩) (fun _ R s => ZS b1 s.heap l1 xs ∧ ZS b2 s.heap l2 ys ∧ R (.ok (.ret (.ref (zh4 s.heap b1 b2 l1 l2).objs.size))) { s with heap := zh5 s.heap b1 b2 l1 l2 }) :=
  .of_wp fun prog w A R s h => by
    obtain ⟨hp, g, d, tk, os⟩ := s
    obtain ⟨hl1, hl2, h⟩ := h
    have hsub := sub_zip
    have q1 : ZS b1 (Shared.heap ⟨hp, g, d, tk, os⟩) l1 xs := hl1
    have q2 : ZS b2 (Shared.heap ⟨hp.push (itOb b1 l1), g, d, tk, os⟩) l2 ys := hl2.at fun o e => Heap.get?_push_of_some _ e
    wp_walk using iter_of q1, iter_of q2
    exact ⟨_, rfl, h⟩
section
variable {P : Program} {w : World} {A : Around} {E : Value → Shared → Prop} {s : Shared}
theorem call_zip {b1 b2 : Bool} {l1 l2 : Addr} {xs ys : Array Value} {Q : Value → Shared → Prop} (g1 : ZS b1 s.heap l1 xs) (g2 : ZS b2 s.heap l2 ys)
    (h : ∀ h', ZSt b1 b2 (s.heap.objs.size + 4) (s.heap.objs.size + 2) (s.heap.objs.size + 3) s.heap.objs.size (s.heap.objs.size + 1) l1 l2 .none 0 h' → (∀ c o, s.heap.get? c = some o → h'.get? c = some o) → Q (.ref (s.heap.objs.size + 4)) { s with heap := h' }) :
    wpAny (model P w) A (call (.type "zip") [.ref l1, .ref l2]) Q E s := by
  refine callType_new F.called_zip (by decide) (F.typeCall_zip_2 _ _) (F.newCall_zip_2 _ _) (fun obj => F.args_object_init_3 obj _ _) F.entry_zip_new (meets_zip b1 b2 l1 l2 xs ys) ⟨g1, g2, ?_⟩
  have z1 : (zh1 s.heap b1 l1).objs.size = s.heap.objs.size + 1 := Heap.size_push ..
  have z2 : (zh2 s.heap b1 b2 l1 l2).objs.size = s.heap.objs.size + 2 := by rw [Heap.size_push, z1]
  have z3 : (zh3 s.heap b1 b2 l1 l2).objs.size = s.heap.objs.size + 3 := by rw [Heap.size_push, z2]
  have z4 : (zh4 s.heap b1 b2 l1 l2).objs.size = s.heap.objs.size + 4 := by rw [Heap.size_push, z3]
  have e5 : (zh5 s.heap b1 b2 l1 l2).get? (zh4 s.heap b1 b2 l1 l2).objs.size = some _ := Heap.get?_push_size _ rfl
  have e4 : (zh5 s.heap b1 b2 l1 l2).get? (zh3 s.heap b1 b2 l1 l2).objs.size = some _ := Heap.get?_push_of_some _ (Heap.get?_push_size _ rfl)
  have e3 : (zh5 s.heap b1 b2 l1 l2).get? (zh2 s.heap b1 b2 l1 l2).objs.size = some _ := Heap.get?_push_of_some _ (Heap.get?_push_of_some _ (Heap.get?_push_size _ rfl))
  have e2 : (zh5 s.heap b1 b2 l1 l2).get? (zh1 s.heap b1 l1).objs.size = some _ := Heap.get?_push_of_some _ (Heap.get?_push_of_some _ (Heap.get?_push_of_some _ (Heap.get?_push_size _ rfl)))
  have e1 : (zh5 s.heap b1 b2 l1 l2).get? s.heap.objs.size = some _ := Heap.get?_push_of_some _ (Heap.get?_push_of_some _ (Heap.get?_push_of_some _ (Heap.get?_push_of_some _ (Heap.get?_push_size _ rfl))))
  show _ ∧ _
  rw [z2, z3, z4] at e5
  rw [z1, z2] at e3
  rw [z3] at e4
  rw [z1] at e2
  rw [z4]
  exact ⟨⟨_, e5, rfl⟩, h _ ⟨e5, e3, ⟨_, _, e4⟩, ⟨_, e1, rfl, rfl⟩, ⟨_, e2, rfl, rfl⟩⟩ fun c o q => Heap.get?_push_of_some _ (Heap.get?_push_of_some _ (Heap.get?_push_of_some _ (Heap.get?_push_of_some _ (Heap.get?_push_of_some _ q))))⟩
theorem zapart_new {n l1 l2 : Addr} (h1 : l1 < n) (h2 : l2 < n) : ZApart (n + 4) (n + 2) (n + 3) n (n + 1) l1 l2 := by
  have e : ∀ (a b : Nat), a ≠ b → n + a ≠ n + b := fun a b h q => h (Nat.add_left_cancel q)
  have f : ∀ (l : Addr) (a : Nat), l < n → l ≠ n + a := fun l a h => Nat.ne_of_lt (Nat.lt_of_lt_of_le h (Nat.le_add_right n a))
  exact ⟨e 2 4 (by decide), e 3 4 (by decide), e 0 4 (by decide), e 1 4 (by decide), e 2 3 (by decide), e 2 0 (by decide), e 2 1 (by decide), e 3 0 (by decide), e 3 1 (by decide), e 0 1 (by decide),
    f l1 4 h1, f l1 3 h1, f l1 0 h1, f l1 1 h1, f l2 4 h2, f l2 3 h2, f l2 0 h2, f l2 1 h2⟩
end
/-! ### the iterator's records have turned, a thing may have been laid -/
section
variable {X : Cx} {pins : List (Addr × Obj)} {σ : St} {H : Hp} {s : Shared} {h' : Heap} {fp : List Addr}
theorem Inv.turnedAll {t' : Nat} (I : Inv X pins σ H s) (hf : ∀ b ∈ fp, FpOk X pins H b) (k : ∀ c o, c ∉ fp → s.heap.get? c = some o → h'.get? c = some o) : Inv X pins σ H { s with heap := h', toks := t' } := by
  have nfp : ∀ b u, H b = some u → b ∉ fp := fun b u e z => by rw [(hf b z).1] at e; cases e
  refine I.step (g' := s.gens) (d' := s.drawn) (ch := fp) (fun b hb => ?_) (fun b o _ _ hc e _ => k b o hc e) (fun b o _ _ hc e _ => ⟨o.slots, k b o hc e⟩) (fun _ _ _ _ n => n) (fun b o hc e => ⟨o, k b o hc e⟩)
    (fun _ _ e => e) (fun _ _ _ e => e) (fun b ps e => ⟨#[], by rw [e]; simp⟩) (fun m hm => ?_) (fun b u e => ?_) I.bare
  · obtain ⟨f0, f1, f2, f3, f4, f5⟩ := hf b hb
    exact ⟨f3, f1, f4, f5⟩
  · obtain ⟨o, es, ep, ho, r⟩ := hm
    exact ⟨o, es, ep, k _ o (fun z => (hf _ z).2.1 rfl) ho, r⟩
  · refine (I.hok b u e).stay (fun c v hc q => k c v ?_ q) (fun _ q => q) fun _ _ q => q
    rcases hc with z | z
    · rw [z]; exact nfp b u e
    · exact nfp c _ z
theorem Inv.turnedLaid {t' : Nat} {p : Addr} {o' : HO} (I : Inv X pins σ H s) (hf : ∀ b ∈ fp, FpOk X pins H b) (k : ∀ c o, c ∉ fp → s.heap.get? c = some o → h'.get? c = some o) (hp : s.heap.objs.size ≤ p) (new : ObjOk X.prog X.w (upd H p o') h' p o') :
    Inv X pins σ (upd H p o') { s with heap := h', toks := t' } := by
  have nfp : ∀ b u, H b = some u → b ∉ fp := fun b u e z => by rw [(hf b z).1] at e; cases e
  have hn : H p = none := I.hok.fresh hp
  have np : ∀ b u, H b = some u → b ≠ p := fun b u e => ne_of_none e hn
  have lt : ∀ b o, s.heap.get? b = some o → b ≠ p := fun b o e => Nat.ne_of_lt (Nat.lt_of_lt_of_le (Heap.lt_size e) hp)
  refine I.step (g' := s.gens) (d' := s.drawn) (ch := fp) (fun b hb => ?_) (fun b o _ _ hc e _ => k b o hc e) (fun b o _ _ hc e _ => ⟨o.slots, k b o hc e⟩) (fun b o _ e n => by rw [upd_ne (lt b o e)]; exact n) (fun b o hc e => ⟨o, k b o hc e⟩)
    (fun b _ e => by rw [upd_ne (np _ _ e)]; exact e) (fun b _ _ e => by rw [upd_ne (np _ _ e)]; exact e) (fun b ps e => ⟨#[], by rw [upd_ne (np _ _ e), e]; simp⟩) (fun m hm => ?_) (fun b u e => ?_) I.bare
  · obtain ⟨f0, f1, f2, f3, f4, f5⟩ := hf b hb
    exact ⟨f3, f1, f4, f5⟩
  · obtain ⟨o, es, ep, ho, r⟩ := hm
    exact ⟨o, es, ep, k _ o (fun z => (hf _ z).2.1 rfl) ho, r⟩
  · by_cases hb : b = p
    · subst hb; rw [upd_same] at e; cases e; exact new
    · rw [upd_ne hb] at e
      refine (I.hok b u e).stay (fun c v hc q => k c v ?_ q) (fun c q => by rw [upd_ne (np _ _ q)]; exact q) fun c ys q => by rw [upd_ne (np _ _ q)]; exact q
      rcases hc with z | z
      · rw [z]; exact nfp b u e
      · exact nfp c _ z
end
/-- a list or a tuple that is read -/
def SqB (K : PySem.W.Frag) (b : Bool) (H : Hp) (a : Addr) (xs : List V) : Prop := if b then SqT K H a xs else SqL K H a xs
theorem Inv.seqB {X : Cx} {pins : List (Addr × Obj)} {σ : St} {H : Hp} {s : Shared} {b : Bool} {a : Addr} {xs : List V} (I : Inv X pins σ H s) (h : SqB X.K b H a xs) : ∃ its : List Value, Vals xs its ∧ ZS b s.heap a its.toArray ∧ xs.length ≤ sizeLine := by
  cases b with
  | true =>
    obtain ⟨its, r, p, z⟩ := I.tuple h
    exact ⟨its, r, p, z⟩
  | false =>
    obtain ⟨its, r, p, z⟩ := I.list h
    exact ⟨its, r, p.isList, z⟩
theorem Inv.seqB_inj {X : Cx} {pins : List (Addr × Obj)} {σ : St} {H : Hp} {s : Shared} {b : Bool} {a : Addr} {xs ys : List V} (I : Inv X pins σ H s) (h : SqB X.K b H a xs) (h' : SqB X.K b H a ys) : xs = ys := by
  cases b with
  | true => exact I.tuple_inj h h'
  | false => exact I.list_inj h h'
def Itz (K : PySem.W.Frag) (b1 b2 : Bool) (a1 a2 : Addr) : It :=
  ⟨fun i H => ∃ xs ys x y, SqB K b1 H a1 xs ∧ SqB K b2 H a2 ys ∧ xs[i]? = some x ∧ ys[i]? = some y,
   fun i H v H' => ∃ p x y, v = .ref p ∧ H p = none ∧ H' = upd H p (.tup [x, y]) ∧ (∀ xs, SqB K b1 H a1 xs → xs[i]? = some x) ∧ ∀ ys, SqB K b2 H a2 ys → ys[i]? = some y,
   fun i H => ∃ xs ys, SqB K b1 H a1 xs ∧ SqB K b2 H a2 ys ∧ (xs.length ≤ i ∨ ys.length ≤ i)⟩
theorem turn_zip {P : Program} {w : World} {K : PySem.W.Frag} {es : List Expr} {n : Nat} {pos : Pos} {b1 b2 : Bool} {z TI TO i1 i2 l1 l2 : Addr} (D : ZApart z TI TO i1 i2 l1 l2) :
    Turn P w K (.Tuple es n pos) (Itz K b1 b2 l1 l2) [z, TI, TO, i1, i2] z (fun i h => ZSt b1 b2 z TI TO i1 i2 l1 l2 .none i h) where
  mem := by simp
  obj := fun i h st b hb => by
    simp only [List.mem_cons, List.not_mem_nil, or_false] at hb
    obtain ⟨z1, z2, ⟨a, c, z3⟩, ⟨o1, y1, _, d1⟩, ⟨o2, y2, _, d2⟩⟩ := st
    rcases hb with rfl | rfl | rfl | rfl | rfl
    · exact ⟨_, z1, fun v q => by cases q⟩
    · exact ⟨_, z2, fun v q => by cases q⟩
    · exact ⟨_, z3, fun v q => by cases q⟩
    · exact ⟨_, y1, fun v q => by rw [d1] at q; cases q⟩
    · exact ⟨_, y2, fun v q => by rw [d2] at q; cases q⟩
  keep := fun i h h' st k => by
    obtain ⟨z1, z2, ⟨a, c, z3⟩, y1, y2⟩ := st
    exact ⟨k _ (by simp) _ z1, k _ (by simp) _ z2, ⟨a, c, k _ (by simp) _ z3⟩, y1.at fun o e => k _ (by simp) _ e, y2.at fun o e => k _ (by simp) _ e⟩
  item := by
    intro X hP hw hK hc i pins s σ H E I hf st hg
    subst hP hw hK
    obtain ⟨xs, ys, x, y, q1, q2, hx, hy⟩ := hg
    obtain ⟨its, r1, p1, _⟩ := I.seqB q1
    obtain ⟨its2, r2, p2, _⟩ := I.seqB q2
    obtain ⟨u1, hu1, ru1⟩ := r1.get hx
    obtain ⟨u2, hu2, ru2⟩ := r2.get hy
    refine next_zip_item D st p1 p2 (by simpa using hu1) (by simpa using hu2) fun h1 s1 t1 k1 => ⟨_, rfl, ?_⟩
    refine wpAny_letOwnedTupleGo_zip s1.zz fun h2 z2 k2 => ?_
    have nz : s.heap.objs.size ≠ z := Nat.ne_of_gt (Heap.lt_size st.zz)
    have kk : ∀ c o, c ∉ [z, TI, TO, i1, i2] → s.heap.get? c = some o → h2.get? c = some o := fun c o hc e => by
      simp only [List.mem_cons, List.not_mem_nil, or_false, not_or] at hc
      exact k2.extBut _ _ hc.1 (k1 c o hc.1 hc.2.2.1 hc.2.2.2.1 hc.2.2.2.2 e)
    have hn : H s.heap.objs.size = none := I.hok.fresh (Nat.le_refl _)
    obtain ⟨w1, w2, ⟨a, c, w3⟩, w4, w5⟩ := s1
    refine ⟨.ref s.heap.objs.size, _, I.turnedLaid (t' := s.toks) (o' := .tup [x, y]) hf kk (Nat.le_refl _) ?_, rfl, ⟨_, x, y, rfl, hn, rfl, fun xs' h => ?_, fun ys' h => ?_⟩, ⟨z2, k2.extBut _ _ D.a1 w2, ⟨a, c, k2.extBut _ _ D.a2 w3⟩, w4.at fun o e => k2.extBut _ _ D.a3 e, w5.at fun o e => k2.extBut _ _ D.a4 e⟩, fun b hb => ?_⟩
    · exact ⟨by show 2 ≤ sizeLine; decide, [u1, u2], .cons ru1 (.cons ru2 .nil), ⟨_, k2.extBut _ _ nz t1, rfl, _, rfl⟩⟩
    · rw [I.seqB_inj h q1]; exact hx
    · rw [I.seqB_inj h q2]; exact hy
    · obtain ⟨o, e, _⟩ : ∃ o, s.heap.get? b = some o ∧ True := by
        simp only [List.mem_cons, List.not_mem_nil, or_false] at hb
        obtain ⟨z1, z2, ⟨a, c, z3⟩, ⟨o1, y1, _⟩, ⟨o2, y2, _⟩⟩ := st
        rcases hb with rfl | rfl | rfl | rfl | rfl
        · exact ⟨_, z1, trivial⟩
        · exact ⟨_, z2, trivial⟩
        · exact ⟨_, z3, trivial⟩
        · exact ⟨_, y1, trivial⟩
        · exact ⟨_, y2, trivial⟩
      rw [upd_ne (Nat.ne_of_lt (Heap.lt_size e))]
      exact (hf b hb).1
  done := by
    intro X hP hw hK hc i pins s σ H E I hf st hg
    subst hP hw hK
    obtain ⟨xs, ys, q1, q2, hl⟩ := hg
    obtain ⟨its, r1, p1, _⟩ := I.seqB q1
    obtain ⟨its2, r2, p2, _⟩ := I.seqB q2
    have e1 := r1.length
    have e2 := r2.length
    refine next_zip_end (I.ok.hd hc) D st p1 p2 (by rcases hl with q | q; exact .inl (by simp; omega); exact .inr (by simp; omega)) fun h1 k1 => ⟨rfl, I.turnedAll (t' := s.toks) hf fun c o hc e => ?_⟩
    simp only [List.mem_cons, List.not_mem_nil, or_false, not_or] at hc
    exact k1 c o hc.1 hc.2.2.1 hc.2.2.2.1 hc.2.2.2.2 e
  self := fun _ _ _ _ _ st h => wpAny_pyIter_zip st.zz h
section
variable {X : Cx}
def iZip (K : PySem.W.Frag) (b1 b2 : Bool) (ta : TA) : TI := fun σ H R => ta σ H fun vs H1 => ∃ a1 a2 xs ys, vs = [.ref a1, .ref a2] ∧ SqB K b1 H1 a1 xs ∧ SqB K b2 H1 a2 ys ∧ R (Itz K b1 b2 a1 a2) H1
theorem pi_zip {a b : Expr} {ta : TA} {p pos tpos : Pos} {tes : List Expr} {tn : Nat} (b1 b2 : Bool) (hg : Gl X "zip") (hm : X.mg "zip" = none) (ha : PA X [a, b] ta) (hs : starEach [a, b] X.env = [(false, eval a X.env), (false, eval b X.env)] := by rfl) (hs2 : starEach [b] X.env = [(false, eval b X.env)] := by rfl) :
    PI X (.Tuple tes tn tpos) (.Call (.Name "zip" p) [a, b] [] pos) (iZip X.K b1 b2 ta) := by
  intro pins s σ H R I h
  refine Call_ (ld_blt I hg hm boot_zip (PyProof.Rows.callWith_type1 (thn (ha pos pins s σ H _ I h) fun us s1 ⟨vs, H1, I1, r1, q1⟩ => ?_) (by rw [hs, hs2]) (by rw [hs2]; rfl)))
  obtain ⟨a1, a2, xs, ys, e, q1, q2, q⟩ := q1
  subst e
  obtain ⟨u, v, rfl, ru, rv⟩ := vals2 r1
  cases ru
  cases rv
  obtain ⟨its, w1, p1, _⟩ := I1.seqB q1
  obtain ⟨its2, w2, p2, _⟩ := I1.seqB q2
  have l1 : a1 < s1.heap.objs.size := by obtain ⟨o, e, _⟩ := p1; exact Heap.lt_size e
  have l2 : a2 < s1.heap.objs.size := by obtain ⟨o, e, _⟩ := p2; exact Heap.lt_size e
  refine call_zip p1 p2 fun h' st k => ?_
  refine wpAny_pyIter_zip st.zz ⟨_, _, _, _, H1, rfl, I1.kept (t' := s1.toks) k, turn_zip (zapart_new l1 l2), st, fun c hc => ?_, q⟩
  have hle : s1.heap.objs.size ≤ c := by
    simp only [List.mem_cons, List.not_mem_nil, or_false] at hc
    rcases hc with rfl | rfl | rfl | rfl | rfl
    · exact Nat.le_add_right _ 4
    · exact Nat.le_add_right _ 2
    · exact Nat.le_add_right _ 3
    · exact Nat.le_refl _
    · exact Nat.le_add_right _ 1
  exact I1.fpOk hle (I1.hok.fresh hle)
end
end L2

namespace L2
open PySem PySem.Spec PyProof.Rows
/-! ### sum of ints -/
section
variable {X : Cx}
/-! ### isinstance -/
def rIsi (K : PySem.W.Frag) : List V → Hp → VK → Prop := fun xs H Q => ∃ (x c : V) (t : Value) (b : Bool), xs = [x, c] ∧ TyOf K H x t ∧
  ((∃ n, c = .ty n ∧ PySem.W.kitOne K t (.type n) = some b) ∨ ∃ (p : Addr) (ns : List String), c = .ref p ∧ H p = some (.tup (ns.map V.ty)) ∧ PySem.W.kitAny K t (ns.map Value.type) = some b) ∧ Q (.bl b) H
theorem vals_ty : ∀ {ns : List String} {us : List Value}, Vals (ns.map V.ty) us → us = ns.map Value.type
  | [], _, r => by cases r; rfl
  | n :: ns, _, r => by
    rw [List.map_cons] at r
    cases r with
    | cons r1 r2 => rw [vals_ty r2, (show _ = Value.type n from r1)]; rfl
theorem isinst_tup {pins : List (Addr × Obj)} {σ : St} {H : Hp} {s : Shared} {A : Around} {E : Value → Shared → Prop} {Q : Value → Shared → Prop} {x : V} {u t : Value} {p : Addr} {ns : List String} {b : Bool} (I : Inv X pins σ H s) (rx : RelV x u) (ty : TyOf X.K H x t)
    (hp : H p = some (.tup (ns.map V.ty))) (e : PySem.W.kitAny X.K t (ns.map Value.type) = some b) (h : ∀ tk, Q (.bool b) { s with toks := tk }) : wpAny (model X.prog X.w) A (call (.builtin "isinstance") [u, .ref p]) Q E s := by
  obtain ⟨_, its, rv, o, ho, hc, n, hd⟩ := I.hok p _ hp
  have ei := vals_ty rv
  subst ei
  obtain ⟨oc, od, odt, osl⟩ := o
  simp only at hc hd
  subst hc hd
  cases ty with
  | non => cases (show u = Value.none from rx); exact PySem.W.kia_tup PySem.W.kitx_none I.kIn True.intro ho e (fun z => nomatch z) h
  | bl y => cases (show u = Value.bool y from rx); exact PySem.W.kia_tup PySem.W.kitx_bool I.kIn True.intro ho e (fun z => nomatch z) h
  | int i => obtain ⟨t, q⟩ := (show ∃ t, u = Value.int i t from rx); cases q; exact PySem.W.kia_tup PySem.W.kitx_int I.kIn True.intro ho e (fun z => nomatch z) h
  | str y => obtain ⟨t, q⟩ := (show ∃ t, u = Value.str y t from rx); cases q; exact PySem.W.kia_tup PySem.W.kitx_str I.kIn True.intro ho e (fun z => nomatch z) h
  | flt y => obtain ⟨t, q⟩ := (show ∃ t, u = Value.float y t from rx); cases q; exact PySem.W.kia_tup PySem.W.kitx_float I.kIn True.intro ho e (fun z => nomatch z) h
  | @lst a xs ea =>
    cases (show u = Value.ref a from rx)
    obtain ⟨_, _, n, _, h1⟩ := (show ObjOk X.prog X.w H s.heap a (.lst xs) from I.hok a _ ea)
    exact PySem.W.kia_tup PySem.W.kitx_list I.kIn ⟨_, h1, rfl⟩ ho e (fun z => nomatch z) h
  | @frz a ob xs ea =>
    cases (show u = Value.ref a from rx)
    obtain ⟨_, _, _, n, _, h1⟩ := (show ObjOk X.prog X.w H s.heap a (.frz ob (.lst xs)) from I.hok a _ ea)
    exact PySem.W.kia_tup PySem.W.kitx_list I.kIn ⟨_, h1, rfl⟩ ho e (fun z => nomatch z) h
  | @tup a xs ea =>
    cases (show u = Value.ref a from rx)
    obtain ⟨_, _, _, p⟩ := (show ObjOk X.prog X.w H s.heap a (.tup xs) from I.hok a _ ea)
    obtain ⟨o, h1, h2, _⟩ := p
    exact PySem.W.kia_tup PySem.W.kitx_tuple I.kIn ⟨o, h1, h2⟩ ho e (fun z => nomatch z) h
  | @dK a kvs ea =>
    cases (show u = Value.ref a from rx)
    obtain ⟨_, _, vs, _, p⟩ := (show ObjOk X.prog X.w H s.heap a (.dK kvs) from I.hok a _ ea)
    obtain ⟨o, es, ep, h1, h2, _⟩ := p
    exact PySem.W.kia_tup PySem.W.kitx_dict I.kIn ⟨o, h1, h2.1⟩ ho e (fun z => nomatch z) h
  | @dT a kvs ea =>
    cases (show u = Value.ref a from rx)
    obtain ⟨_, _, xs, _, o, es, ep, h1, h2, _⟩ := (show ObjOk X.prog X.w H s.heap a (.dT kvs) from I.hok a _ ea)
    exact PySem.W.kia_tup PySem.W.kitx_dict I.kIn ⟨o, h1, h2.1⟩ ho e (fun z => nomatch z) h
  | @ins a C dx fs ea cl ha hn htk hm =>
    cases (show u = Value.ref a from rx)
    obtain ⟨mA, O, _⟩ := ins_get I.hok ea
    obtain ⟨od, J, _⟩ := O.look
    exact PySem.W.kia_tup (PySem.W.kitx_own (cl.get _) cl.hd ha hn htk hm) I.kIn J ho e (fun z => nomatch z) h
theorem call_isi : CallR X (.builtin "isinstance") (rIsi X.K) := by
  intro pins s σ H xs us Q I r h
  obtain ⟨x, c, t, b, rfl, ty, hc, q⟩ := h
  obtain ⟨u, w', rfl, ru, rw'⟩ := vals2 r
  have fin : ∀ tk, EP X pins σ Q (.bool b) { s with toks := tk } := fun tk => ⟨.bl b, H, I.tok tk, rfl, q⟩
  rcases hc with ⟨n, rfl, e⟩ | ⟨p, ns, rfl, hp, e⟩
  · cases (show w' = Value.type n from rw')
    exact isinst_ok I ru ty e fin
  · cases (show w' = Value.ref p from rw')
    exact isinst_tup I ru ty hp e fin
/-- a type's name as a value -/
theorem pe_ty {x : Str} {n : String} {pos : Pos} (hg : Gl X x) (hm : X.mg x = none) (hv : bootBuiltins x = some (.type n)) (hn : x ≠ "__name__" := by decide) (hd : (x == ("__debug__" : Str)) = false := by decide) : PE X (.Name x pos) (tC (.ty n)) :=
  pe_bltn hg hm hv rfl hn hd
end
end L2

namespace L2
open PySem PySem.Spec PyProof.Rows
/-! ### == and != of lists, of tuples, whose items are flat -/
def eqVs (xs ys : List V) : Bool := xs.length == ys.length && (List.range xs.length).all fun j => eqV (xs.getD j .non) (ys.getD j .non)
theorem eqVs_len {xs ys : List V} (h : xs.length ≠ ys.length) : eqVs xs ys = false := by
  unfold eqVs
  rw [beq_eq_false_iff_ne.mpr h, Bool.false_and]
section
variable {X : Cx}
def rEqS (K : PySem.W.Frag) (b neg : Bool) : R2 := fun x y H Q => ∃ p q xs ys, x = .ref p ∧ y = .ref q ∧ SqB K b H p xs ∧ SqB K b H q ys ∧ xs.all flatV = true ∧ ys.all flatV = true ∧ Q (.bl (if neg then !eqVs xs ys else eqVs xs ys)) H
theorem eqs_items {A : Around} {s : Shared} {xs ys : List V} {its its2 : List Value} (r1 : Vals xs its) (r2 : Vals ys its2) (f1 : xs.all flatV = true) (f2 : ys.all flatV = true) :
    ∀ (j : Nat) (h1 : j < its.toArray.size) (h2 : j < its2.toArray.size), SeqAt.EqAt A s its.toArray[j] its2.toArray[j] (eqV (xs.getD j .non) (ys.getD j .non)) := by
  intro j h1 h2
  have l1 := r1.length
  have l2 := r2.length
  rw [List.size_toArray] at h1 h2
  have g1 : xs[j]? = some (xs.getD j .non) := by simp [List.getD, List.getElem?_eq_getElem (show j < xs.length by omega)]
  have g2 : ys[j]? = some (ys.getD j .non) := by simp [List.getD, List.getElem?_eq_getElem (show j < ys.length by omega)]
  obtain ⟨u1, e1, q1⟩ := r1.get g1
  obtain ⟨u2, e2, q2⟩ := r2.get g2
  have z1 : its.toArray[j] = u1 := by
    have := List.getElem?_eq_some_iff.mp e1
    simpa using this.2
  have z2 : its2.toArray[j] = u2 := by
    have := List.getElem?_eq_some_iff.mp e2
    simpa using this.2
  rw [z1, z2]
  rw [List.all_eq_true] at f1 f2
  exact eqAt_V q1 q2 (f1 _ (List.mem_of_getElem? g1)) (f2 _ (List.mem_of_getElem? g2))
theorem op_eq_seq (b : Bool) (hu : X.A.units < cLine) : OpR X (compareOp .Eq) (rEqS X.K b false) := by
  intro pins s σ H x y v u Q I rx ry h
  obtain ⟨p, q, xs, ys, rfl, rfl, hp, hq, f1, f2, k⟩ := h
  cases rx
  cases ry
  obtain ⟨its, r1, z1, _⟩ := I.seqB hp
  obtain ⟨its2, r2, z2, _⟩ := I.seqB hq
  have l1 := r1.length
  have l2 := r2.length
  have fin : ∀ c : Bool, c = eqVs xs ys → EP X pins σ Q (.bool c) s := fun c e => ⟨.bl c, H, I, rfl, by rw [e]; exact k⟩
  cases b with
  | false =>
    by_cases hl : xs.length = ys.length
    · refine SeqAt.eq_listAt z1 z2 (by rw [List.size_toArray, List.size_toArray]; omega) hu (eqs_items r1 r2 f1 f2) (fin _ ?_)
      unfold eqVs
      rw [hl, beq_self_eq_true, Bool.true_and, List.size_toArray, ← l1, hl]
    · refine SeqAt.eq_list_lengthsAt z1 z2 (by rw [List.size_toArray, List.size_toArray, bne_iff_ne]; omega) hu (fin _ ?_)
      rw [eqVs_len hl]
  | true =>
    refine SeqAt.eq_tupleAt z1 z2 hu (eqs_items r1 r2 f1 f2) (fin _ ?_)
    rw [List.size_toArray, List.size_toArray, ← l1, ← l2]
    by_cases hl : xs.length = ys.length
    · unfold eqVs
      rw [hl, beq_self_eq_true, Bool.true_and, Bool.and_true, Nat.min_self]
    · rw [eqVs_len hl, beq_eq_false_iff_ne.mpr hl, Bool.and_false]
end
end L2

namespace L2
open PySem PySem.Spec PyProof.Rows
/-! ### the same rules over a named K: for a comprehension's block, whose reading may not lean on the block -/
section
variable {X : Cx} {K : PySem.W.Frag}
theorem ixL (h : X.K = K) : IxR X (rIxL K) := h ▸ ix_list
theorem ixT (h : X.K = K) : IxR X (rIxT K) := h ▸ ix_tup
def rLen (K : PySem.W.Frag) : List V → Hp → VK → Prop := fun xs H Q => ∃ p ys, xs = [.ref p] ∧ (SqL K H p ys ∨ SqT K H p ys) ∧ Q (.int ys.length) H
theorem cLen (h : X.K = K) : CallR X (.builtin "len") (rLen K) := h ▸ call_len_seq
theorem cIsi (h : X.K = K) : CallR X (.builtin "isinstance") (rIsi K) := h ▸ call_isi
def rTuple (K : PySem.W.Frag) : List V → Hp → VK → Prop := fun xs H Q => ∃ p ys, xs = [.ref p] ∧ ((SqL K H p ys ∧ ∀ l, H l = none → Q (.ref l) (upd H l (.tup ys))) ∨ (SqT K H p ys ∧ Q (.ref p) H))
theorem cTuple (h : X.K = K) : CallR X (.type "tuple") (rTuple K) := h ▸ call_tuple_of
def rList (K : PySem.W.Frag) : List V → Hp → VK → Prop := fun xs H Q => ∃ p ys, xs = [.ref p] ∧ (SqL K H p ys ∨ SqT K H p ys) ∧ ∀ l, H l = none → Q (.ref l) (upd H l (.lst ys))
theorem cList (h : X.K = K) : CallR X (.type "list") (rList K) := h ▸ call_list_of
theorem oEq (h : X.K = K) (b : Bool) (hu : X.A.units < cLine) : OpR X (compareOp .Eq) (rEqS K b false) := h ▸ op_eq_seq b hu
theorem piL {tg l : Expr} {tl : TE} (h : X.K = K) (hl : PE X l tl) : PI X tg l (iList K tl) := h ▸ pi_list hl
theorem piT {tg l : Expr} {tl : TE} (h : X.K = K) (hl : PE X l tl) : PI X tg l (iTup K tl) := h ▸ pi_tup hl
theorem piZ {a b : Expr} {ta : TA} {p pos tpos : Pos} {tes : List Expr} {tn : Nat} (h : X.K = K) (b1 b2 : Bool) (hg : Gl X "zip") (hm : X.mg "zip" = none) (ha : PA X [a, b] ta) (hs : starEach [a, b] X.env = [(false, eval a X.env), (false, eval b X.env)] := by rfl) (hs2 : starEach [b] X.env = [(false, eval b X.env)] := by rfl) :
    PI X (.Tuple tes tn tpos) (.Call (.Name "zip" p) [a, b] [] pos) (iZip K b1 b2 ta) := h ▸ pi_zip b1 b2 hg hm ha hs hs2
theorem pgT {es : List Expr} {k : Nat} {t : TGs} {n : Nat} {pos : Pos} (h : X.K = K) (hc : X.calm = true) (hh : PGs X es t) (hn : (assignEach es X.env).length = n := by rfl) (hst : (assignEach es X.env).findIdx? (·.1) = none := by rfl) :
    PG X (.Tuple es k pos) (gTup K n t) := h ▸ pg_tup hc hh hn hst
end
end L2

namespace HT
open PySem PyProof.Rows
section
variable {prog : Program} {w : World} {A : Around} {E : Value → Shared → Prop} {s : Shared}
/-- the whole of a tuple is the tuple itself -/
theorem getItem_tuple_all {t sl : Addr} {items : Array Value} {vl vu : Value} {lo hi : Option Int} {Q : Value → Shared → Prop} (ht : IsTup s.heap t items) (hs : s.heap.IsSliceOf sl vl vu .none) (pl : IsPart vl lo) (pu : IsPart vu hi)
    (hw : sIx items.size 0 lo = 0 ∧ sIx items.size items.size hi = items.size) (h : Q (.ref t) s) : wpAny (model prog w) A (getItem (.ref t) (.ref sl)) Q E s := by
  obtain ⟨os, hos, hcs, hds⟩ := id hs
  have hTs : s.TypeIs (.ref sl) "slice" := ⟨os, hos, hcs⟩
  unfold getItem
  try with_reducible refine wpAny_holding ?_
  first | refine wpAny_bind (wpAny_pure ?_) | skip
  refine wpAny_bind (wpAny_sequenceKey ht.typeIs (by decide) ?_)
  refine wpAny_bind (wpAny_callSpecial?_slot (name := Str.ofString "__getitem__") ht.typeIs PyProof.Rows.slot_tuple_getitem (wpAny_call_entry PyProof.Rows.slot_tuple_getitem ht.typeIs entry_tuple_getitem ?_ (args_tuple_getitem _ _)))
  show wpAny _ _ (Builtin.Tuple.tupleItemsOf (.ref t) >>= _) _ _ s
  refine wpAny_bind (tupleItemsOf_ ht (wpAny_bind (wpAny_typeOf hTs ?_)))
  rw [if_pos (by decide)]
  refine wpAny_bind (sliceApplied_gen hs pl pu ?_)
  have yes : (((sIx items.size 0 lo : Nat) : Int) == 0 && (1 : Int) == 1 && (sIx items.size items.size hi - sIx items.size 0 lo) == items.size) = true := by
    rw [hw.1, hw.2]; simp
  show wpAny _ _ (if (((sIx items.size 0 lo : Nat) : Int) == 0 && (1 : Int) == 1 && (sIx items.size items.size hi - sIx items.size 0 lo) == items.size) = true then _ else _) _ _ s
  rw [if_pos yes]
  unfold Builtin.Tuple.tupleIsExact
  refine wpAny_bind (wpAny_bind (wpAny_typeOf ht.typeIs (wpAny_pure ?_)))
  exact wpAny_bind (wpAny_rule (wpAny_pure ⟨_, rfl, wpAny_pure h⟩))
end
end HT
namespace L2
open PySem PySem.Spec PyProof.Rows
section
variable {X : Cx} {K : PySem.W.Frag}
/-- cutting a list of any items -/
def cutL {α : Type} (xs : List α) (lo hi : Option Int) : List α := (xs.drop (HT.sIx xs.length 0 lo)).take (HT.sIx xs.length xs.length hi - HT.sIx xs.length 0 lo)
theorem cutV_map (ns : List Int) (lo hi : Option Int) : cutV (ns.map V.int) lo hi = (cutL ns lo hi).map V.int := by
  unfold cutV cutL
  rw [List.length_map, List.map_take, List.map_drop]
theorem Same.tup {K : PySem.W.Frag} {H H' : Hp} {a : Addr} {xs : List V} (e : Same H H') (h : SqT K H a xs) : SqT K H' a xs := by
  rcases h with (h | ⟨o, h⟩) | h
  · exact .inl (.inl (e _ _ h))
  · exact .inl (.inr ⟨o, e _ _ h⟩)
  · exact .inr h
theorem Same.lay {H : Hp} {p : Addr} {o : HO} (h : H p = none) : Same H (upd H p o) := fun b o' e => by rw [upd_ne (ne_of_none e h)]; exact e
end
end L2

namespace L2
open PySem PySem.Spec PyProof.Rows
/-! ### min, max of a list, by a key or plain, with a default -/
def mmL (b : Bool) : String := if b then "min.loop" else "max.loop"
def mmI (b : Bool) : String := if b then "min" else "max"
def mmOp (b : Bool) : CmpOp := if b then .Lt else .Gt
/-- the place of the best of the first i: bt i j: i is better than j -/
def pick (bt : Nat → Nat → Bool) : Nat → Option Nat
  | 0 => none
  | i + 1 => match pick bt i with
    | none => some i
    | some j => if bt i j then some i else some j
theorem pick_lt {bt : Nat → Nat → Bool} : ∀ {n j : Nat}, pick bt n = some j → j < n
  | 0, _, h => by cases h
  | n + 1, j, h => by
    unfold pick at h
    cases e : pick bt n with
    | none => rw [e] at h; cases h; exact Nat.lt_succ_self _
    | some k =>
      rw [e] at h
      have := pick_lt e
      simp only at h
      split at h
      · cases h; exact Nat.lt_succ_self _
      · cases h; omega
theorem pick_none {bt : Nat → Nat → Bool} : ∀ {n : Nat}, pick bt n = none → n = 0
  | 0, _ => rfl
  | n + 1, h => by
    unfold pick at h
    cases e : pick bt n with
    | none => rw [e] at h; cases h
    | some k => rw [e] at h; simp only at h; split at h <;> cases h
theorem den_builtin {P : Program} {w : World} {id : String} {args : Args} {b : Builtin} (hb : entryFor table id = some b) : (model P w).den (.builtin id args) = b args := by
  show (match entryFor table id with | some b => b args | none => unsupported ((withoutEnding? id "#data").getD id)) = _
  rw [hb]
abbrev bestOb (its : Array Value) (c : Nat) : Obj := { cls := .type "list", data := .seq its c }
/-- what the loop keeps: nothing yet, or the best item with its key's value -/
def Kept (xs : List V) (KV : Nat → V → Prop) (jb : Option Nat) (its : Array Value) : Prop := match jb with
  | none => its = #[]
  | some j => ∃ x y u v, xs[j]? = some x ∧ RelV x u ∧ KV j y ∧ RelV y v ∧ its = #[u, v]
section
variable {X : Cx} {pins : List (Addr × Obj)} {σ : St} {H0 : Hp} {a I S : Addr} {xs : List V} {KV : Nat → V → Prop} {bt : Nat → Nat → Bool} {key : Value} {kw : List (Str × Value)} {R : Result → Shared → Prop}
theorem mm_loop (b : Bool) (hc : X.calm = true) (hSI : S ≠ I)
    (hl : SqL X.K H0 a xs)
    (hkey : (key = .none ∧ ∀ i x, xs[i]? = some x → KV i x) ∨ ∃ q, key = .ref q ∧ ∀ i x u (pins : List (Addr × Obj)) s H, xs[i]? = some x → Inv X pins σ H s → RelV x u → Same H0 H →
      wpAny (model X.prog X.w) X.A.in1 (call (.ref q) [u]) (fun v s' => ∃ y H', Inv X pins σ H' s' ∧ RelV y v ∧ KV i y ∧ Same H H') (fun _ _ => False) s)
    (hcmp : ∀ i j y z v u s H (pins : List (Addr × Obj)) (Q : Value → Shared → Prop) (E : Value → Shared → Prop), KV i y → KV j z → Inv X pins σ H s → Same H0 H → RelV y v → RelV z u → Q (.bool (bt i j)) s → wpAny (model X.prog X.w) X.A.in1 (richCompare (mmOp b) v u) Q E s)
    (hR : ∀ s' H', Inv X pins σ H' s' → Same H0 H' → match pick bt xs.length with
      | none => ∀ d dn r, kw = (dn, d) :: r → R (.ok (.ret d)) s'
      | some j => ∀ x u, xs[j]? = some x → RelV x u → R (.ok (.ret u)) s')
    (hkw : kw = [] → 0 < xs.length) {s : Shared} (I0 : Inv X pins σ H0 s) (it0 : s.heap.IsListIter I a 0) (fI : FpOk X pins H0 I) (fS : FpOk X pins H0 S) {c0 : Nat} (s0 : s.heap.get? S = some (bestOb #[] c0)) :
    codeAny (model X.prog X.w) X.A (.builtin (mmL b) ⟨[.ref I, key, .ref S], kw⟩) R s := by
  have hn1 : (toString "min" ++ toString ".loop" : String) = "min.loop" := by decide
  have hn2 : (toString "max" ++ toString ".loop" : String) = "max.loop" := by decide
  have stI : ∀ {H' : Hp}, H' I = none → FpOk X pins H' I := fun h => ⟨h, fI.2⟩
  have stS : ∀ {H' : Hp}, H' S = none → FpOk X pins H' S := fun h => ⟨h, fS.2⟩
  have quiet : (Code.builtin (mmL b) ⟨[.ref I, key, .ref S], kw⟩).quiet = true := by
    cases b
    · exact plainId_quiet PySem.F.plain_max_loop _
    · exact plainId_quiet PySem.F.plain_min_loop _
  refine codeAny_loop quiet (fun n s' => ∃ i H its c, Inv X pins σ H s' ∧ Same H0 H ∧ s'.heap.IsListIter I a i ∧ H I = none ∧ H S = none ∧ s'.heap.get? S = some (bestOb its c) ∧ Kept xs KV (pick bt i) its ∧ i ≤ xs.length ∧ n = xs.length - i) ?_ xs.length
    ⟨0, H0, #[], c0, I0, Same.refl _, it0, fI.1, fS.1, s0, rfl, Nat.zero_le _, rfl⟩
  rintro n s1 ⟨i, H, its, c, I1, S1, hit, hI, hS, hob, hk, hi, rfl⟩
  obtain ⟨vs, rv, pl, hz⟩ := I1.list (S1.seq hl)
  have hlen := rv.length
  have isz : its.size ≤ 2 := by
    cases e : pick bt i with
    | none => rw [e] at hk; rw [show its = #[] from hk]; decide
    | some j => rw [e] at hk; obtain ⟨_, _, _, _, _, _, _, _, rfl⟩ := hk; exact Nat.le_refl 2
  have hh : X.A.in1.handled = none := I1.ok.hd hc
  cases hv : vs[i]? with
  | none =>
    have hil : i = xs.length := by
      have := List.getElem?_eq_none_iff.mp hv
      omega
    cases b
    all_goals
      first | rw [show mmL false = "max.loop" from rfl] | rw [show mmL true = "min.loop" from rfl]
      first | rw [Around.under_plainId PySem.F.plain_max_loop _] | rw [Around.under_plainId PySem.F.plain_min_loop _]
      first | rw [den_builtin PySem.F.entry_max_loop] | rw [den_builtin PySem.F.entry_min_loop]
      show wpAny _ X.A.in1 (seqItems? (.ref S) >>= _) _ _ _
      refine wpAny_bind (wpAny_seqItems hob rfl ?_)
      show wpAny _ X.A.in1 (tryCatch (pyNext (.ref I)) _ >>= _) _ _ _
      refine wpAny_bind (wpAny_tryCatch (wpAny_pyNext_list_end hh hit pl.isList (by simpa using hv) fun h' k' => ?_))
      have I2 : Inv X pins σ H { s1 with heap := h' } := I1.turned (t' := s1.toks) (fun b' o hb e => k' b' o hb e) hI fI.2.1 fI.2.2.2.1 fI.2.2.2.2.1 fI.2.2.2.2.2
      have hob2 := k' S _ hSI hob
      cases e : pick bt i with
      | none =>
        rw [e] at hk
        have hk : its = #[] := hk
        subst hk
        cases kw with
        | nil => exact absurd (pick_none e) (by have := hkw rfl; omega)
        | cons p r =>
          refine wpAny_bind (wpAny_rule (wpAny_pure ?_))
          have := hR _ H I2 S1
          rw [← hil, e] at this
          exact this p.2 p.1 r rfl
      | some j =>
        rw [e] at hk
        obtain ⟨x, y, u, v, g1, g2, g3, g4, rfl⟩ := hk
        show wpAny _ X.A.in1 (updateSeq S (fun _ => #[]) >>= _) _ _ _
        refine wpAny_bind (wpAny_updateSeq hob2 rfl (wpAny_bind (wpAny_letGo (wpAny_pure ?_))))
        have := hR _ H (I2.turned (it := S) (h' := h'.update S (Obj.mapSeq fun _ => #[])) (t' := s1.toks) (fun b' o hb e => (Heap.get?_update_other _ _ (Ne.symm hb)).trans e) hS fS.2.1 fS.2.2.2.1 fS.2.2.2.2.1 fS.2.2.2.2.2) S1
        rw [← hil, e] at this
        exact this x u g1 g2
  | some u =>
    have hil : i < vs.length := (List.getElem?_eq_some_iff.mp hv).1
    obtain ⟨x, hx⟩ : ∃ x, xs[i]? = some x := ⟨xs[i]'(by omega), List.getElem?_eq_getElem (by omega)⟩
    obtain ⟨u', hu', ru⟩ := rv.get hx
    rw [hv] at hu'
    cases hu'
    -- behind the key: the comparison, the store
    have tail : ∀ (s2 : Shared) (H2 : Hp) (y : V) (v : Value) (o2 : Obj), Inv X (pins ++ [(I, o2), (S, bestOb its c)]) σ H2 s2 → Same H H2 → RelV y v → KV i y → (o2.cls = .type "list_iterator" ∧ o2.data = .fields #[.ref a, .int ((i + 1 : Nat) : Int) 0]) →
        ∀ jn, jn = pick bt (i + 1) → ∀ its', Kept xs KV jn its' → its'.size = 2 → ∀ T : Nat, ∃ m, m < xs.length - i ∧ ∃ i' H' its c, Inv X pins σ H' { s2 with heap := s2.heap.update S (Obj.mapSeq fun _ => its'), toks := T } ∧ Same H0 H' ∧ (s2.heap.update S (Obj.mapSeq fun _ => its')).IsListIter I a i' ∧ H' I = none ∧ H' S = none ∧ (s2.heap.update S (Obj.mapSeq fun _ => its')).get? S = some (bestOb its c) ∧ Kept xs KV (pick bt i') its ∧ i' ≤ xs.length ∧ m = xs.length - i' := by
      intro s2 H2 y v o2 J S2 ry hy ho jn hj its' hk' hz' T
      have q1 := J.pin (I, o2) (by simp)
      have q2 := J.pin (S, bestOb its c) (by simp)
      have J1 : Inv X pins σ H2 s2 := J.unpinned
      have g := get?_update_seq (c := "list") q2.1 (fun _ => its')
      refine ⟨xs.length - (i + 1), by omega, i + 1, H2, its', _, J1.turned (it := S) (fun b' o hb e => (Heap.get?_update_other _ _ (Ne.symm hb)).trans e) q2.2.1 fS.2.1 fS.2.2.2.1 fS.2.2.2.2.1 fS.2.2.2.2.2, S1.trans S2, ⟨o2, (Heap.get?_update_other _ _ hSI).trans q1.1, ho.1, ho.2⟩, q1.2.1, q2.2.1, g, by rw [← hj]; exact hk', by omega, rfl⟩
    have tail0 : ∀ (s2 : Shared) (H2 : Hp) (o2 : Obj), Inv X (pins ++ [(I, o2), (S, bestOb its c)]) σ H2 s2 → Same H H2 → (o2.cls = .type "list_iterator" ∧ o2.data = .fields #[.ref a, .int ((i + 1 : Nat) : Int) 0]) → Kept xs KV (pick bt (i + 1)) its →
        ∃ m, m < xs.length - i ∧ ∃ i' H' its c, Inv X pins σ H' s2 ∧ Same H0 H' ∧ s2.heap.IsListIter I a i' ∧ H' I = none ∧ H' S = none ∧ s2.heap.get? S = some (bestOb its c) ∧ Kept xs KV (pick bt i') its ∧ i' ≤ xs.length ∧ m = xs.length - i' := by
      intro s2 H2 o2 J S2 ho hk'
      have q1 := J.pin (I, o2) (by simp)
      have q2 := J.pin (S, bestOb its c) (by simp)
      exact ⟨xs.length - (i + 1), by omega, i + 1, H2, its, c, J.unpinned, S1.trans S2, ⟨o2, q1.1, ho.1, ho.2⟩, q1.2.1, q2.2.1, q2.1, hk', by omega, rfl⟩
    cases b
    all_goals
      first | rw [show mmL false = "max.loop" from rfl] | rw [show mmL true = "min.loop" from rfl]
      first | rw [Around.under_plainId PySem.F.plain_max_loop _] | rw [Around.under_plainId PySem.F.plain_min_loop _]
      first | rw [den_builtin PySem.F.entry_max_loop] | rw [den_builtin PySem.F.entry_min_loop]
      show wpAny _ X.A.in1 (seqItems? (.ref S) >>= _) _ _ _
      refine wpAny_bind (wpAny_seqItems hob rfl ?_)
      show wpAny _ X.A.in1 (tryCatch (pyNext (.ref I)) _ >>= _) _ _ _
      refine wpAny_bind (wpAny_tryCatch (wpAny_pyNext_list_item hit pl.isList (x := u) (by simpa using hv) fun h' hit' k' => ?_))
      have I2 : Inv X pins σ H { s1 with heap := h' } := I1.turned (t' := s1.toks) (fun b' o hb e => (k'.2 b' hb).trans e) hI fI.2.1 fI.2.2.2.1 fI.2.2.2.2.1 fI.2.2.2.2.2
      obtain ⟨o2, ho2, hoc, hod⟩ := hit'
      have hob2 : h'.get? S = some (bestOb its c) := (k'.2 S hSI).trans hob
      have I3 : Inv X (pins ++ [(I, o2), (S, bestOb its c)]) σ H { s1 with heap := h' } := I2.pins_of fun p hp => by
        rcases List.mem_append.mp hp with z | z
        · exact I2.pin p (List.mem_append_right _ z)
        · simp only [List.mem_cons, List.not_mem_nil, or_false] at z
          rcases z with rfl | rfl
          · exact ⟨ho2, hI, fI.2.1, fI.2.2.1, fun v q => by rw [hod] at q; cases q⟩
          · exact ⟨hob2, hS, fS.2.1, fS.2.2.1, fun v q => by cases q⟩
      rcases hkey with ⟨rfl, hk0⟩ | ⟨q, rfl, hq⟩
      · refine wpAny_bind (wpAny_pure ?_)
        have hy := hk0 i x hx
        cases e : pick bt i with
        | none =>
          rw [e] at hk
          have hk : its = #[] := hk
          subst hk
          have ep : pick bt (i + 1) = some i := by unfold pick; rw [e]
          refine wpAny_bind (wpAny_updateSeq hob2 rfl ?_)
          first | rw [hn1] | rw [hn2]
          exact wpAny_pure ⟨rfl, tail _ H x u o2 I3 (Same.refl _) ru hy ⟨hoc, hod⟩ _ ep.symm _ ⟨x, x, u, u, hx, ru, hy, ru, rfl⟩ rfl _⟩
        | some j =>
          rw [e] at hk
          obtain ⟨xo, yo, uo, vo, g1, g2, g3, g4, rfl⟩ := hk
          show wpAny _ X.A.in1 (tryCatch (holding [u, u] (richCompare _ u vo >>= _)) _ >>= _) _ _ _
          refine wpAny_bind (wpAny_tryCatch (wpAny_holding (wpAny_bind (hcmp i j x yo u vo _ H _ _ _ hy g3 I3 S1 ru g4 (wpAny_bind (wpAny_holding (wpAny_truthy_bool (wpAny_bind (wpAny_letGo (wpAny_pure ?_)))))))))) 
          cases eb : bt i j with
          | true =>
            have ep : pick bt (i + 1) = some i := by unfold pick; rw [e]; simp only [eb, if_true]
            refine wpAny_bind (wpAny_updateSeq hob2 rfl (wpAny_bind (wpAny_letGo ?_)))
            first | rw [hn1] | rw [hn2]
            exact wpAny_pure ⟨rfl, tail _ H x u o2 I3 (Same.refl _) ru hy ⟨hoc, hod⟩ _ ep.symm _ ⟨x, x, u, u, hx, ru, hy, ru, rfl⟩ rfl _⟩
          | false =>
            have ep : pick bt (i + 1) = some j := by unfold pick; rw [e]; simp only [eb, Bool.false_eq_true, if_false]
            refine wpAny_bind (wpAny_letGo ?_)
            first | rw [hn1] | rw [hn2]
            exact wpAny_pure ⟨rfl, tail0 _ H o2 I3 (Same.refl _) ⟨hoc, hod⟩ (by rw [ep]; exact ⟨xo, yo, uo, vo, g1, g2, g3, g4, rfl⟩)⟩
      · show wpAny _ X.A.in1 (tryCatch (holding [u] (call (.ref q) [u])) _ >>= _) _ _ _
        refine wpAny_bind (wpAny_tryCatch (wpAny_holding (wpAny_mono (hq i x u _ _ H hx I3 ru S1) (fun v s2 ⟨y, H2, J, ry, hy, S2⟩ => ?_) fun _ _ z => z.elim)))
        have hob3 := (J.pin (S, bestOb its c) (by simp)).1
        cases e : pick bt i with
        | none =>
          rw [e] at hk
          have hk : its = #[] := hk
          subst hk
          have ep : pick bt (i + 1) = some i := by unfold pick; rw [e]
          refine wpAny_bind (wpAny_updateSeq hob3 rfl ?_)
          first | rw [hn1] | rw [hn2]
          exact wpAny_pure ⟨rfl, tail _ H2 y v o2 J S2 ry hy ⟨hoc, hod⟩ _ ep.symm _ ⟨x, y, u, v, hx, ru, hy, ry, rfl⟩ rfl _⟩
        | some j =>
          rw [e] at hk
          obtain ⟨xo, yo, uo, vo, g1, g2, g3, g4, rfl⟩ := hk
          show wpAny _ X.A.in1 (tryCatch (holding [u, v] (richCompare _ v vo >>= _)) _ >>= _) _ _ _
          refine wpAny_bind (wpAny_tryCatch (wpAny_holding (wpAny_bind (hcmp i j y yo v vo _ H2 _ _ _ hy g3 J (S1.trans S2) ry g4 (wpAny_bind (wpAny_holding (wpAny_truthy_bool (wpAny_bind (wpAny_letGo (wpAny_pure ?_))))))))))
          cases eb : bt i j with
          | true =>
            have ep : pick bt (i + 1) = some i := by unfold pick; rw [e]; simp only [eb, if_true]
            refine wpAny_bind (wpAny_updateSeq hob3 rfl (wpAny_bind (wpAny_letGo ?_)))
            first | rw [hn1] | rw [hn2]
            exact wpAny_pure ⟨rfl, tail _ H2 y v o2 J S2 ry hy ⟨hoc, hod⟩ _ ep.symm _ ⟨x, y, u, v, hx, ru, hy, ry, rfl⟩ rfl _⟩
          | false =>
            have ep : pick bt (i + 1) = some j := by unfold pick; rw [e]; simp only [eb, Bool.false_eq_true, if_false]
            refine wpAny_bind (wpAny_letGo ?_)
            first | rw [hn1] | rw [hn2]
            exact wpAny_pure ⟨rfl, tail0 _ H2 o2 J S2 ⟨hoc, hod⟩ (by rw [ep]; exact ⟨xo, yo, uo, vo, g1, g2, g3, g4, rfl⟩)⟩
end
end L2

namespace L2
open PySem PySem.Spec PyProof.Rows
theorem argsD (b : Bool) (a d : Value) : argsOk (mmI b) ⟨[a], [(Str.ofString "default", d)]⟩ := by cases b <;> (unfold argsOk; kernel_rfl)
theorem argsKD (b : Bool) (a v d : Value) : argsOk (mmI b) ⟨[a], [(Str.ofString "key", v), (Str.ofString "default", d)]⟩ := by cases b <;> (unfold argsOk; kernel_rfl)
theorem args1 (b : Bool) (a : Value) : argsOk (mmI b) ⟨[a], []⟩ := by cases b <;> (unfold argsOk; kernel_rfl)
section
variable {X : Cx} {pins : List (Addr × Obj)} {σ : St} {H : Hp} {s : Shared} {a : Addr} {xs : List V} {KV : Nat → V → Prop} {bt : Nat → Nat → Bool} {Q : VK}
/-- the three forms of a call: plain; with a default; with a key and a default -/
inductive MmKw : List (Str × Value) → Value → List (Str × Value) → Prop
  | one : MmKw [] .none []
  | dflt (d : Value) : MmKw [(Str.ofString "default", d)] .none [(Str.ofString "default", d)]
  | key (q : Addr) (d : Value) : MmKw [(Str.ofString "key", .ref q), (Str.ofString "default", d)] (.ref q) [(Str.ofString "default", d)]
theorem mm_call (b : Bool) {kws kw : List (Str × Value)} {key : Value} (hkw : MmKw kws key kw) (hc : X.calm = true) (I0 : Inv X pins σ H s) (hl : SqL X.K H a xs)
    (hkey : (key = .none ∧ ∀ i x, xs[i]? = some x → KV i x) ∨ ∃ q, key = .ref q ∧ ∀ i x u (pins : List (Addr × Obj)) s H', xs[i]? = some x → Inv X pins σ H' s → RelV x u → Same H H' →
      wpAny (model X.prog X.w) X.A.in1 (call (.ref q) [u]) (fun v s' => ∃ y H2, Inv X pins σ H2 s' ∧ RelV y v ∧ KV i y ∧ Same H' H2) (fun _ _ => False) s)
    (hcmp : ∀ i j y z v u s H' (pins : List (Addr × Obj)) (Q : Value → Shared → Prop) (E : Value → Shared → Prop), KV i y → KV j z → Inv X pins σ H' s → Same H H' → RelV y v → RelV z u → Q (.bool (bt i j)) s → wpAny (model X.prog X.w) X.A.in1 (richCompare (mmOp b) v u) Q E s)
    (hn : kw = [] → 0 < xs.length) (hd : ∀ dn d r, kw = (dn, d) :: r → d = .none)
    (hQ : ∀ H', Same H H' → match pick bt xs.length with | none => Q .non H' | some j => ∀ x, xs[j]? = some x → Q x H') :
    wpAny (model X.prog X.w) X.A (call (.builtin (mmI b)) [.ref a] kws) (EP X pins σ Q) X.xe s := by
  have hn1 : (toString "min" ++ toString ".loop" : String) = "min.loop" := by decide
  have hn2 : (toString "max" ++ toString ".loop" : String) = "max.loop" := by decide
  obtain ⟨vs, rv, pl, hz⟩ := I0.list hl
  have hls := pl.isList
  have e1 : (s.heap.push { cls := .type "list_iterator", data := .fields #[.ref a, .int 0 0] }).objs.size = s.heap.objs.size + 1 := Heap.size_push ..
  have I1 : Inv X pins σ H { s with heap := (s.heap.push { cls := .type "list_iterator", data := .fields #[.ref a, .int 0 0] }).push (bestOb #[] 0) } := I0.kept (t' := s.toks) fun b' o e => Heap.get?_push_of_some _ (Heap.get?_push_of_some _ e)
  have gI : ((s.heap.push { cls := .type "list_iterator", data := .fields #[.ref a, .int 0 0] }).push (bestOb #[] 0)).IsListIter s.heap.objs.size a 0 := ⟨_, Heap.get?_push_of_some _ (Heap.get?_push_size _ rfl), rfl, rfl⟩
  have gS : ((s.heap.push { cls := .type "list_iterator", data := .fields #[.ref a, .int 0 0] }).push (bestOb #[] 0)).get? (s.heap.push { cls := .type "list_iterator", data := .fields #[.ref a, .int 0 0] }).objs.size = some (bestOb #[] 0) := Heap.get?_push_size _ rfl
  have fI : FpOk X pins H s.heap.objs.size := I0.fpOk (Nat.le_refl _) (I0.hok.fresh (Nat.le_refl _))
  have fS : FpOk X pins H (s.heap.push { cls := .type "list_iterator", data := .fields #[.ref a, .int 0 0] }).objs.size := by
    rw [e1]; exact I0.fpOk (Nat.le_succ _) (I0.hok.fresh (Nat.le_succ _))
  have nSI : (s.heap.push { cls := .type "list_iterator", data := .fields #[.ref a, .int 0 0] }).objs.size ≠ s.heap.objs.size := by rw [e1]; exact Nat.ne_of_gt (Nat.lt_succ_self _)
  have lp : codeAny (model X.prog X.w) X.A (.builtin (mmL b) ⟨[.ref s.heap.objs.size, key, .ref (s.heap.push { cls := .type "list_iterator", data := .fields #[.ref a, .int 0 0] }).objs.size], kw⟩)
      (fun r s' => match r with | .ok (.ret v) => EP X pins σ Q v s' | .ok _ => False | .error e => X.xe e s') { s with heap := (s.heap.push { cls := .type "list_iterator", data := .fields #[.ref a, .int 0 0] }).push (bestOb #[] 0) } := by
    refine mm_loop b hc nSI hl hkey hcmp ?_ hn I1 gI fI fS gS
    intro s' H' I' S'
    have q := hQ H' S'
    cases e : pick bt xs.length with
    | none =>
      rw [e] at q
      intro d dn r hk
      have hd' := hd dn d r hk
      subst hd'
      exact ⟨.non, H', I', rfl, q⟩
    | some j =>
      rw [e] at q
      intro x u hx ru
      exact ⟨x, H', I', ru, q x hx⟩
  cases b with
  | false =>
    cases hkw with
    | one =>
      refine PyProof.Rows.kmk_tree PySem.F.kind_max PySem.F.plain_max PySem.F.entry_max (args1 false _) ?_
      show wpAny _ X.A.in1 (Builtin.Builtins.bindParams "max" ["key", "default"] 0 ⟨[], []⟩ >>= _) _ _ s
      refine wpAny_bind (wpAny_of_eq (show Builtin.Builtins.bindParams "max" ["key", "default"] 0 ⟨[], []⟩ = pure [none, none] from rfl) ?_)
      refine wpAny_bind (wpAny_pure ?_)
      refine wpAny_bind (wpAny_pyIter_list hls ?_)
      refine wpAny_bind (wpAny_newList ?_ (Nat.zero_le _))
      rw [hn2]
      exact wpAny_pure ⟨plainId_quiet PySem.F.plain_max_loop _, lp⟩
    | dflt d =>
      refine PyProof.Rows.kmk_tree PySem.F.kind_max PySem.F.plain_max PySem.F.entry_max (argsD false _ _) ?_
      show wpAny _ X.A.in1 (Builtin.Builtins.bindParams "max" ["key", "default"] 0 ⟨[], [(Str.ofString "default", d)]⟩ >>= _) _ _ s
      refine wpAny_bind (wpAny_of_eq (show Builtin.Builtins.bindParams "max" ["key", "default"] 0 ⟨[], [(Str.ofString "default", d)]⟩ = pure [none, some d] from rfl) ?_)
      refine wpAny_bind (wpAny_pure ?_)
      refine wpAny_bind (wpAny_pyIter_list hls ?_)
      refine wpAny_bind (wpAny_newList ?_ (Nat.zero_le _))
      rw [hn2]
      exact wpAny_pure ⟨plainId_quiet PySem.F.plain_max_loop _, lp⟩
    | key q d =>
      refine PyProof.Rows.kmk_tree PySem.F.kind_max PySem.F.plain_max PySem.F.entry_max (argsKD false _ _ _) ?_
      show wpAny _ X.A.in1 (Builtin.Builtins.bindParams "max" ["key", "default"] 0 ⟨[], [(Str.ofString "key", .ref q), (Str.ofString "default", d)]⟩ >>= _) _ _ s
      refine wpAny_bind (wpAny_of_eq (show Builtin.Builtins.bindParams "max" ["key", "default"] 0 ⟨[], [(Str.ofString "key", .ref q), (Str.ofString "default", d)]⟩ = pure [some (.ref q), some d] from rfl) ?_)
      refine wpAny_bind (wpAny_pure ?_)
      refine wpAny_bind (wpAny_pyIter_list hls ?_)
      refine wpAny_bind (wpAny_newList ?_ (Nat.zero_le _))
      rw [hn2]
      exact wpAny_pure ⟨plainId_quiet PySem.F.plain_max_loop _, lp⟩
  | true =>
    cases hkw with
    | one =>
      refine PyProof.Rows.kmk_tree PySem.F.kind_min PySem.F.plain_min PySem.F.entry_min (args1 true _) ?_
      show wpAny _ X.A.in1 (Builtin.Builtins.bindParams "min" ["key", "default"] 0 ⟨[], []⟩ >>= _) _ _ s
      refine wpAny_bind (wpAny_of_eq (show Builtin.Builtins.bindParams "min" ["key", "default"] 0 ⟨[], []⟩ = pure [none, none] from rfl) ?_)
      refine wpAny_bind (wpAny_pure ?_)
      refine wpAny_bind (wpAny_pyIter_list hls ?_)
      refine wpAny_bind (wpAny_newList ?_ (Nat.zero_le _))
      rw [hn1]
      exact wpAny_pure ⟨plainId_quiet PySem.F.plain_min_loop _, lp⟩
    | dflt d =>
      refine PyProof.Rows.kmk_tree PySem.F.kind_min PySem.F.plain_min PySem.F.entry_min (argsD true _ _) ?_
      show wpAny _ X.A.in1 (Builtin.Builtins.bindParams "min" ["key", "default"] 0 ⟨[], [(Str.ofString "default", d)]⟩ >>= _) _ _ s
      refine wpAny_bind (wpAny_of_eq (show Builtin.Builtins.bindParams "min" ["key", "default"] 0 ⟨[], [(Str.ofString "default", d)]⟩ = pure [none, some d] from rfl) ?_)
      refine wpAny_bind (wpAny_pure ?_)
      refine wpAny_bind (wpAny_pyIter_list hls ?_)
      refine wpAny_bind (wpAny_newList ?_ (Nat.zero_le _))
      rw [hn1]
      exact wpAny_pure ⟨plainId_quiet PySem.F.plain_min_loop _, lp⟩
    | key q d =>
      refine PyProof.Rows.kmk_tree PySem.F.kind_min PySem.F.plain_min PySem.F.entry_min (argsKD true _ _ _) ?_
      show wpAny _ X.A.in1 (Builtin.Builtins.bindParams "min" ["key", "default"] 0 ⟨[], [(Str.ofString "key", .ref q), (Str.ofString "default", d)]⟩ >>= _) _ _ s
      refine wpAny_bind (wpAny_of_eq (show Builtin.Builtins.bindParams "min" ["key", "default"] 0 ⟨[], [(Str.ofString "key", .ref q), (Str.ofString "default", d)]⟩ = pure [some (.ref q), some d] from rfl) ?_)
      refine wpAny_bind (wpAny_pure ?_)
      refine wpAny_bind (wpAny_pyIter_list hls ?_)
      refine wpAny_bind (wpAny_newList ?_ (Nat.zero_le _))
      rw [hn1]
      exact wpAny_pure ⟨plainId_quiet PySem.F.plain_min_loop _, lp⟩
end
end L2

namespace L2
open PySem PySem.Spec PyProof.Rows
section
variable {X : Cx} {K : PySem.W.Frag} {x : Str} {p pos : Pos} {e : Expr} {es : List Expr} {kws : List Keyword} {t tk : TA} {id : String} {ks : List Str}
def tCBK (r : List V → List V → Hp → VK → Prop) (t tk : TA) : TE := fun σ H Q => t σ H fun vs H1 => tk σ H1 fun zs H2 => r vs zs H2 Q
/-- a call of a built-in function with keywords, by values -/
def CallKR (X : Cx) (id : String) (ks : List Str) (r : List V → List V → Hp → VK → Prop) : Prop :=
  ∀ (pins : List (Addr × Obj)) (s : Shared) (σ : St) (H : Hp) (vs zs : List V) (us ws : List Value) (Q : VK), Inv X pins σ H s → Vals vs us → Vals zs ws → r vs zs H Q →
    wpAny (model X.prog X.w) X.A (call (.builtin id) us (ks.zip ws)) (EP X pins σ Q) X.xe s
theorem pe_callBK {r : List V → List V → Hp → VK → Prop} (hc : CallKR X id ks r) (hg : Gl X x) (hm : X.mg x = none) (hv : bootBuiltins x = some (.builtin id)) (ha : PA X (e :: es) t) (hk : PK X kws tk) (hn : x ≠ "__name__" := by decide) (hdb : (x == ("__debug__" : Str)) = false := by decide)
    (hks : (backToKw pos (keywordEach kws X.env)).filterMap (·.1) = ks := by rfl)
    (he : backTo pos (starEach (e :: es) X.env) = (false, eval e X.env) :: backTo pos (starEach es X.env) := by rfl)
    (hplain : (backTo pos (starEach (e :: es) X.env)).any (·.1) = false := by rfl)
    (hall : (backToKw pos (keywordEach kws X.env)).all (·.1.isSome) = true := by rfl)
    (hkw : (backToKw pos (keywordEach kws X.env)).any (·.1.isNone) = false := by rfl) : PE X (.Call (.Name x p) (e :: es) kws pos) (tCBK r t tk) := by
  intro pins s σ H Q I h
  refine wpAny_Call_Name_kw (ld_blt I hg hm hv ?_ hn hdb)
  refine callWith_kw (thn (ha pos pins s σ H _ I h) fun us s1 ⟨vs, H1, I1, r1, q1⟩ => thn (hk pos pins s1 σ H1 _ I1 q1) fun ws s2 ⟨zs, H2, I2, r2, q2⟩ => ?_) he hplain hall hkw
  rw [hks]
  exact hc pins s2 σ H2 vs zs us ws Q I2 r1 r2 q2
/-- what the best is: None of no items, else the item at its place -/
def Best (bt : Nat → Nat → Bool) (xs : List V) (H : Hp) (Q : VK) : Prop := ∀ H', Same H H' → match pick bt xs.length with | none => Q .non H' | some j => ∀ x, xs[j]? = some x → Q x H'
/-- min(xs, default=None) of tuples of ints -/
def rMinD (K : PySem.W.Frag) : List V → List V → Hp → VK → Prop := fun vs zs H Q => ∃ (a : Addr) (xs : List V) (ms : Nat → List Int), vs = [.ref a] ∧ zs = [.non] ∧ SqL K H a xs ∧ (∀ (i : Nat) x, xs[i]? = some x → ∃ q, x = .ref q ∧ H q = some (.tup ((ms i).map V.int))) ∧ Best (fun i j => HT.lexLt (ms i) (ms j)) xs H Q
theorem cMinD (hK : X.K = K) (hc : X.calm = true) (hu : X.A.in1.units < cLine) : CallKR X "min" [Str.ofString "default"] (rMinD K) := by
  subst hK
  intro pins s σ H vs zs us ws Q I r1 r2 h
  obtain ⟨a, xs, ms, rfl, rfl, hl, hi, hb⟩ := h
  obtain ⟨u, rfl, ru⟩ := vals1 r1
  cases ru
  obtain ⟨d, rfl, rd⟩ := vals1 r2
  cases (show d = Value.none from rd)
  refine mm_call (b := true) (KV := fun i y => ∃ q, y = .ref q ∧ H q = some (.tup ((ms i).map V.int))) (bt := fun i j => HT.lexLt (ms i) (ms j)) (.dflt _) hc I hl (.inl ⟨rfl, fun i x hx => hi i x hx⟩) ?_ (fun z => nomatch z) (fun dn d r z => by cases z; rfl) hb
  rintro i j y z v w' s' H' pins' Q' E' ⟨q1, rfl, e1⟩ ⟨q2, rfl, e2⟩ I' S' ry rz hq
  cases ry
  cases rz
  obtain ⟨its, w1, p1, _⟩ := I'.tuple (SqT.of (K := X.K) (S' _ _ e1))
  obtain ⟨its2, w2, p2, _⟩ := I'.tuple (SqT.of (K := X.K) (S' _ _ e2))
  show wpAny _ _ (compareOp .Lt (.ref q1) (.ref q2)) _ _ _
  exact HT.lt_tupInts p1 p2 (intsAre_of w1) (intsAre_of w2) hu hq
/-- min or max(xs, key=f, default=None), f a def that tells ints -/
def rMmK (K : PySem.W.Frag) (b : Bool) (f : Addr) (sp : Sp) : List V → List V → Hp → VK → Prop := fun vs zs H Q => ∃ a xs, ∃ kf : Nat → Int, vs = [.ref a] ∧ zs = [.ref f, .non] ∧ SqL K H a xs ∧
  (∀ (i : Nat) x H' (Qk : VK), xs[i]? = some x → Same H H' → (∀ H2, Same H' H2 → Qk (.int (kf i)) H2) → sp [x] H' Qk E0) ∧ Best (fun i j => if b then decide (kf i < kf j) else decide (kf j < kf i)) xs H Q
theorem cMmK (b : Bool) {k : Nat} {f : Addr} {fd : FuncData} {y : Str} {sp : Sp} (F : FnOk X.prog X.w X.K X.mg X.base CX0 k f fd [y] sp) (hr : Room k X.A.in1) (hbd : Binds X.K fd [y] []) (hK : X.K = K) (hc : X.calm = true) :
    CallKR X (mmI b) [Str.ofString "key", Str.ofString "default"] (rMmK K b f sp) := by
  subst hK
  intro pins s σ H vs zs us ws Q I r1 r2 h
  obtain ⟨a, xs, kf, rfl, rfl, hl, hi, hb⟩ := h
  obtain ⟨u, rfl, ru⟩ := vals1 r1
  cases ru
  obtain ⟨d1, d2, rfl, rd1, rd2⟩ := vals2 r2
  cases (show d1 = Value.ref f from rd1)
  cases (show d2 = Value.none from rd2)
  refine mm_call (b := b) (KV := fun i y => y = .int (kf i)) (bt := fun i j => if b then decide (kf i < kf j) else decide (kf j < kf i)) (.key f _) hc I hl (.inr ⟨f, rfl, ?_⟩) ?_ (fun z => nomatch z) (fun dn d r z => by cases z; rfl) hb
  · intro i x u pins' s' H' hx I' rx S'
    have hs := hi i x H' (fun v H2 => v = .int (kf i) ∧ Same H' H2) hx S' (fun H2 S2 => ⟨rfl, S2⟩)
    refine wpAny_call (codeAny_mono (F.run X.A.in1 X.stack s' H' ⟨[u], []⟩ [u] [x] _ E0 hr I'.env0.in1 (by have := hbd s' [u] I'.kIn rfl; simpa using this) (.cons rx .nil) hs) fun r s2 hq => ?_)
    cases r with
    | error e => exact hq
    | ok fl =>
      cases fl with
      | ret v =>
        obtain ⟨w, H2, I2, rw', e, S2⟩ := I'.after hq
        subst e
        exact ⟨.int (kf i), H2, I2, rw', rfl, S2⟩
      | next => exact False.elim hq
      | brk => exact False.elim hq
      | cont => exact False.elim hq
  · rintro i j y z v w' s' H' pins' Q' E' rfl rfl I' S' ry rz hq
    obtain ⟨t1, rfl⟩ := ry
    obtain ⟨t2, rfl⟩ := rz
    cases b with
    | true =>
      show wpAny _ _ (compareOp .Lt _ _) _ _ _
      exact lt_int hq
    | false =>
      show wpAny _ _ (compareOp .Gt _ _) _ _ _
      exact gt_int hq
end
end L2

namespace L2
open PySem PySem.Spec PyProof.Rows
section
variable {X : Cx} {K : PySem.W.Frag}
end
end L2

namespace L2
open PySem PySem.Spec PyProof.Rows
/-- // by a positive divisor below 2^64 -/
def CDivW (i j : Int) : Prop := 0 < j ∧ j < 18446744073709551616
theorem op_fdivW {X : Cx} : OpR X (binaryOp .FloorDiv) (rI CDivW fun i j => .int (i / j)) := opI fun i j _ _ _ _ _ hc q => by
  have h1 : (0 : Int) < j := hc.1
  have h2 : j < 18446744073709551616 := hc.2
  refine floordiv_int (by omega) (by rw [Int.fdiv_eq_ediv_of_nonneg i (by omega)]; exact q) (.inl (PyProof.noPylong_of_log2 ?_))
  have h0 : j.natAbs ≠ 0 := by omega
  have : j.natAbs.log2 < 64 := (Nat.log2_lt h0).mpr (by omega)
  omega
end L2

namespace L2
open PySem PySem.Spec PyProof.Rows
/-! ### a, b = a list of that length -/
section
variable {prog : Program} {w : World} {A : Around} {E : Value → Shared → Prop} {s : Shared}
theorem drawL {it t : Addr} {items : Array Value} (hne : t ≠ it) : ∀ (n i : Nat) (s : Shared) (Q : List Value → Shared → Prop), s.heap.IsListIter it t i → s.heap.IsList t items → i + n ≤ items.size →
    (∀ h', h'.IsListIter it t (i + n) → Heap.SameBut it s.heap h' → Q ((items.toList.drop i).take n) { s with heap := h' }) → wpAny (model prog w) A (draw (.ref it) n) Q E s
  | 0, i, s, Q, hit, _, _, hQ => by
    show wpAny _ _ (pure []) Q E s
    exact wpAny_pure (by simpa using hQ s.heap hit (Heap.SameBut.refl ..))
  | n + 1, i, s, Q, hit, ht, hle, hQ => by
    have hlt : i < items.size := by omega
    show wpAny _ _ (pyNext (.ref it) >>= _) Q E s
    refine wpAny_bind (wpAny_pyNext_list_item hit ht (x := items[i]) (by simp [hlt]) fun h₁ hit₁ hs₁ => ?_)
    refine wpAny_bind (wpAny_holding (drawL hne n (i + 1) _ _ hit₁ (ht.at fun o e => hs₁.extBut t o hne e) (by omega) fun h₂ hit₂ hs₂ => wpAny_pure ?_))
    have hd : items.toList.drop i = items[i] :: items.toList.drop (i + 1) := by simp [List.drop_eq_getElem_cons, hlt]
    have := hQ h₂ (by rw [show i + (n + 1) = i + 1 + n by omega]; exact hit₂) (hs₁.trans hs₂)
    rw [hd, List.take_succ_cons] at this
    exact this
theorem unpackItemsL {t : Addr} {items : Array Value} {Q : List Value → Shared → Prop} (hh : A.handled = none) (ht : s.heap.IsList t items)
    (hQ : ∀ h', Heap.ExtBut s.heap.objs.size s.heap h' → Q items.toList { s with heap := h' }) : wpAny (model prog w) A (unpackItems (.ref t) items.size none) Q E s := by
  have hlt : t ≠ s.heap.objs.size := by obtain ⟨o, ho, _⟩ := ht; exact Nat.ne_of_lt (Heap.lt_size ho)
  unfold unpackItems
  refine wpAny_bind ?_
  · unfold notIterableAtAll
    refine wpAny_bind (wpAny_specialOf ht.typeIs slot_list_iter.lookup ?_)
    refine wpAny_pure ?_
    simp only [Bool.false_eq_true, if_false]
    refine wpAny_bind (wpAny_holding (wpAny_pyIter_list ht ?_))
    refine wpAny_bind (wpAny_holding (drawL hlt items.size 0 _ _ ⟨_, Heap.get?_push_size _ rfl, rfl, rfl⟩ (ht.push _) (by omega) fun h₁ hit₁ hs₁ => ?_))
    have hall : List.take items.size (List.drop 0 items.toList) = items.toList := by
      rw [List.drop_zero]; exact List.take_of_length_le (by simp)
    rw [hall]
    rw [if_neg (by simp)]
    have ht₁ : h₁.IsList t items := (ht.push _).at fun o e => hs₁.extBut t o hlt e
    refine wpAny_bind (wpAny_holding (wpAny_pyNext_list_end hh hit₁ ht₁ (by simp) fun h₂ he₂ => ?_))
    simp only [Option.isSome_none, Bool.false_eq_true, if_false]
    refine wpAny_pure (hQ h₂ fun b o hb e => he₂ b o hb (hs₁.extBut b o hb (Heap.get?_push_of_some _ e)))
theorem unpackL {t : Addr} {items : Array Value} {targets : List (Bool × (Value → Sem Unit))} {Q : Unit → Shared → Prop} (hh : A.handled = none) (ht : s.heap.IsList t items)
    (hn : targets.length = items.size) (hstar : targets.findIdx? (·.1) = none)
    (h : ∀ h', Heap.ExtBut s.heap.objs.size s.heap h' → wpAny (model prog w) A (assignInOrder (targets.map (·.2)) items.toList) Q E { s with heap := h' }) :
    wpAny (model prog w) A (unpack (.ref t) targets) Q E s := by
  unfold unpack
  rw [hn, hstar]
  exact wpAny_bind (wpAny_holding (unpackItemsL hh ht h))
end
section
variable {X : Cx} {K : PySem.W.Frag} {pos : Pos}
def gTupL (K : PySem.W.Frag) (n : Nat) (t : TGs) : TG := fun v σ H Q => ∃ a xs, v = .ref a ∧ SqL K H a xs ∧ xs.length = n ∧ t xs σ H Q
theorem pgL {es : List Expr} {k : Nat} {t : TGs} {n : Nat} (hK : X.K = K) (hc : X.calm = true) (h : PGs X es t)
    (hn : (assignEach es X.env).length = n := by rfl) (hst : (assignEach es X.env).findIdx? (·.1) = none := by rfl) : PG X (.Tuple es k pos) (gTupL K n t) := by
  subst hK
  intro pins s σ H v u Q I r hw
  obtain ⟨a, xs, e1, hq, hl, hw⟩ := hw
  subst e1
  cases r
  obtain ⟨its, rv, ht, hz⟩ := I.list hq
  rw [assign_Tuple]
  refine wpAny_bind (wpAny_standAt (unpackL (I.ok.hd hc) ht.isList (by simp [hn, ← hl, rv.length]) hst fun h' hx => ?_))
  have I1 : Inv X pins σ H { s with heap := h' } := I.kept (t' := s.toks) fun b o e => hx b o (Nat.ne_of_lt (Heap.lt_size e)) e
  exact h pins _ σ H xs _ Q I1 (by simpa using rv) hw
/-- what is never come to -/
theorem ps_no {st : Stmt} : PS X st (fun _ _ _ => False) := fun _ _ _ _ _ _ h => h.elim
end
end L2

namespace L2
open PySem PySem.Spec PyProof.Rows
/-! ### lists of pairs as tables -/
section
variable {κ : Type} [DecidableEq κ]
def valV (kvs : List (κ × V)) (k : κ) : Option V := (kvs.find? fun kv => decide (kv.1 = k)).map (·.2)
/-- in its place, or at the end -/
def putK (kvs : List (κ × V)) (k : κ) (v : V) : List (κ × V) :=
  if (kvs.any fun kv => decide (kv.1 = k)) = true then kvs.map (fun kv => if kv.1 = k then (kv.1, v) else kv) else kvs ++ [(k, v)]
def dropK (kvs : List (κ × V)) (k : κ) : List (κ × V) := kvs.filter fun kv => decide (kv.1 ≠ k)

theorem valV_pos {p : κ × V} {r : List (κ × V)} {k : κ} (e : p.1 = k) : valV (p :: r) k = some p.2 := by simp [valV, List.find?_cons, e]
theorem valV_neg {p : κ × V} {r : List (κ × V)} {k : κ} (e : ¬ p.1 = k) : valV (p :: r) k = valV r k := by simp [valV, List.find?_cons, e]
theorem valV_any (k : κ) : ∀ kvs : List (κ × V), (kvs.any fun kv => decide (kv.1 = k)) = (valV kvs k).isSome
  | [] => rfl
  | p :: r => by
    rw [List.any_cons]
    by_cases e : p.1 = k
    · simp only [valV_pos e, decide_eq_true e, Bool.true_or, Option.isSome_some]
    · rw [valV_neg e, decide_eq_false e, Bool.false_or]; exact valV_any k r
theorem RelO.isSome_eq {o : Option V} {u : Option Value} (r : RelO o u) : o.isSome = u.isSome := by
  cases o with
  | none => cases u with
    | none => rfl
    | some _ => exact (show False from r).elim
  | some _ => cases u with
    | none => exact (show False from r).elim
    | some _ => rfl
theorem RelO.getD {o : Option V} {u : Option Value} {d : V} {d' : Value} (r : RelO o u) (rd : RelV d d') : RelV (o.getD d) (u.getD d') := by
  cases o with
  | none => cases u with
    | none => exact rd
    | some _ => exact (show False from r).elim
  | some _ => cases u with
    | none => exact (show False from r).elim
    | some _ => exact r

/-- raw tables of the same keys -/
theorem KV.val {kvs : List (κ × V)} {vs : List (κ × Value)} (r : KV kvs vs) (k : κ) : RelO (valV kvs k) (valueAt vs k) := by
  unfold KV at r
  induction r with
  | nil => exact True.intro
  | @cons p q ps qs h t ih =>
    obtain ⟨h1, h2⟩ := h
    by_cases e : p.1 = k
    · have e' : q.1 = k := h1.symm.trans e
      have b : valueAt (q :: qs) k = some q.2 := by simp [valueAt, List.find?_cons, e']
      rw [valV_pos e, b]; exact h2
    · have e' : ¬ q.1 = k := fun z => e (h1.trans z)
      have b : valueAt (q :: qs) k = valueAt qs k := by simp [valueAt, List.find?_cons, e']
      rw [valV_neg e, b]; exact ih
theorem KV.any {kvs : List (κ × V)} {vs : List (κ × Value)} (r : KV kvs vs) (k : κ) : (kvs.any fun kv => decide (kv.1 = k)) = vs.any fun kv => decide (kv.1 = k) := by
  unfold KV at r
  induction r with
  | nil => rfl
  | cons h t ih => rw [List.any_cons, List.any_cons, ih, h.1]
theorem KV.repl {kvs : List (κ × V)} {vs : List (κ × Value)} (r : KV kvs vs) (k : κ) {y : V} {u : Value} (ry : RelV y u) :
    KV (kvs.map fun kv => if kv.1 = k then (kv.1, y) else kv) (vs.map fun kv => if kv.1 = k then (kv.1, u) else kv) := by
  unfold KV at r ⊢
  induction r with
  | nil => exact .nil
  | @cons p q ps qs h t ih =>
    rw [List.map_cons, List.map_cons]
    refine .cons ?_ ih
    obtain ⟨h1, h2⟩ := h
    by_cases e : p.1 = k
    · rw [if_pos e, if_pos (h1.symm.trans e)]; exact ⟨h1, ry⟩
    · rw [if_neg e, if_neg (fun z => e (h1.trans z))]; exact ⟨h1, h2⟩
theorem KV.put {kvs : List (κ × V)} {vs : List (κ × Value)} (r : KV kvs vs) (k : κ) {y : V} {u : Value} (ry : RelV y u) : KV (putK kvs k y) (stored vs k u) := by
  unfold putK stored
  rw [r.any k]
  by_cases e : (vs.any fun kv => decide (kv.1 = k)) = true
  · rw [if_pos e, if_pos e]; exact r.repl k ry
  · rw [if_neg e, if_neg e]; exact Paired.snoc r ⟨rfl, ry⟩
theorem KV.drop {kvs : List (κ × V)} {vs : List (κ × Value)} (r : KV kvs vs) (k : κ) : KV (dropK kvs k) (without vs k) := by
  unfold KV at r ⊢
  unfold dropK without
  induction r with
  | nil => exact .nil
  | @cons p q ps qs h t ih =>
    obtain ⟨h1, h2⟩ := h
    rw [List.filter_cons, List.filter_cons]
    by_cases e : p.1 = k
    · have a : ¬ decide (p.1 ≠ k) = true := by simp [e]
      have b : ¬ decide (q.1 ≠ k) = true := by simp [h1.symm.trans e]
      rw [if_neg a, if_neg b]; exact ih
    · have e' : ¬ q.1 = k := fun z => e (h1.trans z)
      have a : decide (p.1 ≠ k) = true := by simp [e]
      have b : decide (q.1 ≠ k) = true := by simp [e']
      rw [if_pos a, if_pos b]; exact .cons ⟨h1, h2⟩ ih
theorem KV.keys {kvs : List (κ × V)} {vs : List (κ × Value)} (r : KV kvs vs) : kvs.map (·.1) = vs.map (·.1) := by
  unfold KV at r
  induction r with
  | nil => rfl
  | cons h t ih => rw [List.map_cons, List.map_cons, ih, h.1]
theorem KV.length {kvs : List (κ × V)} {vs : List (κ × Value)} (r : KV kvs vs) : kvs.length = vs.length := Paired.length r
end


/-! ### a tracked dict, its keys ints and texts or tuples of these -/
/-- raw entries of a dict with tuple keys -/
abbrev KT (H : Hp) : List (List Key × V) → List (List Key × Addr × Value) → Prop := Paired fun p q => p.1 = q.1 ∧ H q.2.1 = some (.tup (p.1.map kV)) ∧ RelV p.2 q.2.2
theorem KT.val {H : Hp} {kvs : List (List Key × V)} {xs : List (List Key × Addr × Value)} (r : KT H kvs xs) (k : List Key) : RelO (valV kvs k) ((atKey xs k).map (·.2)) := by
  induction r with
  | nil => exact True.intro
  | @cons p q ps qs h t ih =>
    obtain ⟨h1, _, h2⟩ := h
    by_cases e : p.1 = k
    · have e' : q.1 = k := h1.symm.trans e
      have b : atKey (q :: qs) k = some q.2 := by simp [atKey, List.find?_cons, e']
      rw [valV_pos e, b]; exact h2
    · have e' : ¬ q.1 = k := fun z => e (h1.trans z)
      have b : atKey (q :: qs) k = atKey qs k := by simp [atKey, List.find?_cons, e']
      rw [valV_neg e, b]; exact ih
theorem KT.repl {H : Hp} {kvs : List (List Key × V)} {xs : List (List Key × Addr × Value)} (r : KT H kvs xs) (k : List Key) {y : V} {u : Value} (ry : RelV y u) :
    KT H (kvs.map fun kv => if kv.1 = k then (kv.1, y) else kv) (xs.map (putAt k u)) := by
  induction r with
  | nil => exact .nil
  | @cons p q ps qs h t ih =>
    rw [List.map_cons, List.map_cons]
    refine .cons ?_ ih
    obtain ⟨h1, h2, h3⟩ := h
    unfold putAt
    by_cases e : p.1 = k
    · rw [if_pos e, if_pos (h1.symm.trans e)]; exact ⟨h1, h2, ry⟩
    · rw [if_neg e, if_neg (fun z => e (h1.trans z))]; exact ⟨h1, h2, h3⟩
theorem KT.put {H : Hp} {kvs : List (List Key × V)} {xs : List (List Key × Addr × Value)} (r : KT H kvs xs) (k : List Key) {b : Addr} {y : V} {u : Value} (hb : H b = some (.tup (k.map kV))) (ry : RelV y u) :
    KT H (putK kvs k y) (storedH xs k b u) := by
  have e : (kvs.any fun kv => decide (kv.1 = k)) = (atKey xs k).isSome := by
    rw [valV_any, (r.val k).isSome_eq, Option.isSome_map]
  unfold putK storedH
  rw [e]
  by_cases q : (atKey xs k).isSome = true
  · rw [if_pos q, if_pos q]; exact r.repl k ry
  · rw [if_neg q, if_neg q]; exact Paired.snoc r ⟨rfl, hb, ry⟩
theorem KT.keeps {H H' : Hp} {kvs : List (List Key × V)} {xs : List (List Key × Addr × Value)} (r : KT H kvs xs) (ht : ∀ b ys, H b = some (.tup ys) → H' b = some (.tup ys)) : KT H' kvs xs :=
  Paired.mapP r fun _ _ z => ⟨z.1, ht _ _ z.2.1, z.2.2⟩

section
variable {P : Program} {w : World} {H : Hp} {h : Heap} {a : Addr}
end

/-- what the dict at a holds at the key y -/
def DGet (H : Hp) (a : Addr) (y : V) (r : Option V) : Prop :=
  (∃ kvs k, Rd H a (.dK kvs) ∧ y = kV k ∧ r = valV kvs k) ∨ ∃ kvs k b, Rd H a (.dT kvs) ∧ y = .ref b ∧ H b = some (.tup (k.map kV)) ∧ r = valV kvs k
/-- the heap behind a[y] = v -/
def DPut (H : Hp) (a : Addr) (y v : V) (H' : Hp) : Prop :=
  (∃ kvs k, H a = some (.dK kvs) ∧ y = kV k ∧ kvs.length < sizeLine ∧ H' = upd H a (.dK (putK kvs k v))) ∨
  ∃ kvs k b, H a = some (.dT kvs) ∧ y = .ref b ∧ H b = some (.tup (k.map kV)) ∧ kvs.length < sizeLine ∧ H' = upd H a (.dT (putK kvs k v))
theorem DGet.k {H : Hp} {a : Addr} {kvs : List (Key × V)} {k : Key} (e : H a = some (.dK kvs)) : DGet H a (kV k) (valV kvs k) := .inl ⟨kvs, k, .inl e, rfl, rfl⟩
theorem DGet.t {H : Hp} {a b : Addr} {kvs : List (List Key × V)} {k : List Key} (e : H a = some (.dT kvs)) (eb : H b = some (.tup (k.map kV))) : DGet H a (.ref b) (valV kvs k) := .inr ⟨kvs, k, b, .inl e, rfl, eb, rfl⟩
theorem DPut.k {H : Hp} {a : Addr} {kvs : List (Key × V)} {k : Key} {v : V} (e : H a = some (.dK kvs)) (hl : kvs.length < sizeLine) : DPut H a (kV k) v (upd H a (.dK (putK kvs k v))) := .inl ⟨kvs, k, e, rfl, hl, rfl⟩
theorem DPut.t {H : Hp} {a b : Addr} {kvs : List (List Key × V)} {k : List Key} {v : V} (e : H a = some (.dT kvs)) (eb : H b = some (.tup (k.map kV))) (hl : kvs.length < sizeLine) :
    DPut H a (.ref b) v (upd H a (.dT (putK kvs k v))) := .inr ⟨kvs, k, b, e, rfl, eb, hl, rfl⟩


section
variable {X : Cx} {pins : List (Addr × Obj)} {σ : St} {H : Hp} {s : Shared} {a : Addr} {y v : V} {u r : Value} {o : Option V} {A : Around} {E : Value → Shared → Prop}

end

section
variable {X : Cx} {pins : List (Addr × Obj)} {σ : St} {H : Hp} {s : Shared} {a : Addr} {kvs : List (Key × V)} {k : Key} {u : Value} {A : Around} {E : Value → Shared → Prop}
end


/-! ### readings and rules -/
section
variable {X : Cx} {o i e value : Expr} {pos pos' tpos : Pos} {td ty tv : TE}
end


/-! ### displays -/
section
variable {X : Cx} {pos : Pos}
end
end L2

namespace L2
open PySem PySem.Spec PyProof.Rows
/-! ### a dict's keys one by one, whatever they are -/
def RawD (h : Heap) (d : Addr) (es : Array DictEntry) (ep : Nat) : Prop := ∃ o, h.get? d = some o ∧ o.ExactDict ∧ o.data = .dict es ep
theorem RawD.typeIs {s : Shared} {d : Addr} {es : Array DictEntry} {ep : Nat} (h : RawD s.heap d es ep) : s.TypeIs (.ref d) "dict" := let ⟨o, e, hx, _⟩ := h; ⟨o, e, hx.1⟩
theorem RawD.at {h h' : Heap} {d : Addr} {es : Array DictEntry} {ep : Nat} (x : RawD h d es ep) (k : ∀ o, h.get? d = some o → h'.get? d = some o) : RawD h' d es ep := let ⟨o, e, r⟩ := x; ⟨o, k _ e, r⟩
section
variable {prog : Program} {w : World} {A : Around} {E : Value → Shared → Prop} {s : Shared} {d it : Addr} {es : Array DictEntry} {ep i : Nat}
end
end L2

namespace L2
open PySem PySem.Spec PyProof.Rows
/-! ### the sort of what is in order already -/
section
variable {prog : Program} {w : World} {A : Around} {E : Value → Shared → Prop} {κ : SortKind} {it : Array Keyed}
end
section
variable {prog : Program} {w : World} {A : Around} {E : Value → Shared → Prop} {s : Shared} {a : Addr} {vs : List Value}
end
end L2

namespace L2
open PySem PySem.Spec PyProof.Rows
/-! ### sorted(d): a dict whose keys are pairs of ints, in order -/
end L2

namespace L2
open PySem PySem.Spec PyProof.Rows
/-! ### d != {}, d == {} -/
section
variable {prog : Program} {w : World} {A : Around} {E : Value → Shared → Prop} {s : Shared} {a b : Addr} {es : Array DictEntry} {ep ep' : Nat}
end
theorem sz0 (kvs : List (List Key × V)) : (kvs.length == 0) = kvs.isEmpty := by cases kvs <;> rfl
end L2

namespace L2
open PySem PySem.Spec PyProof.Rows
/-! ### t < u, tuples whose items are compared one by one -/
inductive LexAt (A : Around) (s : Shared) (fin : Bool) : List (Value × Value) → Bool → Prop
  | nil : LexAt A s fin [] fin
  | eq {p q : Value} {r : List (Value × Value)} {b : Bool} : SeqAt.EqAt A s p q true → LexAt A s fin r b → LexAt A s fin ((p, q) :: r) b
  | ne {p q : Value} {r : List (Value × Value)} {b : Bool} : SeqAt.EqAt A s p q false → (∀ (prog : Program) (w : World) (E : Value → Shared → Prop) (Q : Value → Shared → Prop), Q (.bool b) s → wpAny (model prog w) A (richCompare .Lt p q) Q E s) → LexAt A s fin ((p, q) :: r) b
section
open PySem.SeqAt
open PySem.AutoSeq1 (wpAny_loadPart')
open PySem.MeetsSeq PySem.MeetsSeq2 PySem.MeetsSeq3
end
end L2

namespace L2
open PySem PySem.Spec PyProof.Rows
end L2

namespace L2
open PySem PySem.Spec PyProof.Rows
/-! ### for v in d.values() -/
section
variable {prog : Program} {w : World} {A : Around} {E : Value → Shared → Prop} {s : Shared} {d it vw : Addr} {es : Array DictEntry} {ep i : Nat}
end
end L2

namespace L2
open PySem PySem.Spec PyProof.Rows
/-! ### the same of a dict that may be frozen -/
end L2

namespace L2
open PySem PySem.Spec PyProof.Rows
section
variable {X : Cx} {a b c d : Expr} {ta tb tc td : TE} {pos : Pos}
end
/-! ### sorted(xs), fewer than 64 ints -/
end L2

namespace HT
open PySem PyProof.Rows
section
variable {prog : Program} {w : World} {A : Around} {E : Value → Shared → Prop} {s : Shared}
end
end HT
namespace L2
open PySem PySem.Spec PyProof.Rows
section
variable {X : Cx} {K : PySem.W.Frag} {e st : Expr} {te ts : TE} {p2 pos : Pos}
end
end L2

namespace L2
open PySem PySem.Spec PyProof.Rows
end L2

namespace L2
open PySem PySem.Spec PyProof.Rows
/-! ### t > u, tuples whose items are compared one by one -/
inductive LexG (A : Around) (s : Shared) (fin : Bool) : List (Value × Value) → Bool → Prop
  | nil : LexG A s fin [] fin
  | eq {p q : Value} {r : List (Value × Value)} {b : Bool} : SeqAt.EqAt A s p q true → LexG A s fin r b → LexG A s fin ((p, q) :: r) b
  | ne {p q : Value} {r : List (Value × Value)} {b : Bool} : SeqAt.EqAt A s p q false → (∀ (prog : Program) (w : World) (E : Value → Shared → Prop) (Q : Value → Shared → Prop), Q (.bool b) s → wpAny (model prog w) A (richCompare .Gt p q) Q E s) → LexG A s fin ((p, q) :: r) b
section
open PySem.SeqAt
open PySem.AutoSeq1 (wpAny_loadPart')
open PySem.MeetsSeq PySem.MeetsSeq2 PySem.MeetsSeq3
end
end L2

namespace L2
open PySem PySem.Spec PyProof.Rows
end L2

namespace L2
open PySem PySem.Spec PyProof.Rows
/-! ### lo, lo + st, lo + 2 st, .. (n of them) -/
section
variable {X : Cx} {tg : Expr}
/-! ### reversed(list) -/
/-! ### reversed(range(n)) -/
/-! ### {k: v} -/
end
end L2

namespace L2
open PySem PySem.Spec PyProof.Rows
section
variable {X : Cx} {K : PySem.W.Frag}
/-! ### a list of ints, by places -/
def fl (n : Nat) (f : Nat → Int) : List V := (List.range n).map fun j => V.int (f j)
end
end L2

namespace L2
open PySem PySem.Spec PyProof.Rows
/-! ### min, max of a list of ints -/
section
variable {X : Cx} {K : PySem.W.Frag}
end
end L2

namespace L2
open PySem PySem.Spec PyProof.Rows
/-! ### a call of what a name holds -/
end L2

namespace L2
open PySem PySem.Spec PyProof.Rows
section
variable {X : Cx} {K : PySem.W.Frag}
/-- t[lo:hi] of a tracked tuple is a tracked one -/
def rSlTB : V → Option Int → Option Int → Hp → VK → Prop := fun x lo hi H Q => ∃ a xs, x = .ref a ∧ H a = some (.tup xs) ∧ ∀ q H', Same H H' → H' q = some (.tup (cutV xs lo hi)) → Q (.ref q) H'
theorem slTB : SlR X rSlTB := by
  intro pins s σ H x v vl vu lo hi sl Q I rx hs pl pu h
  obtain ⟨a, xs, rfl, hx, q1⟩ := h
  by_cases hw : HT.sIx xs.length 0 lo = 0 ∧ HT.sIx xs.length xs.length hi = xs.length
  · cases rx
    obtain ⟨its, r, ht, hz⟩ := I.tuple (SqT.of hx)
    have hlen : its.toArray.size = xs.length := by rw [List.size_toArray]; exact r.length.symm
    refine ⟨"tuple", _, PyProof.Rows.slot_tuple_getitem.lookup, ht.typeIs, HT.getItem_tuple_all ht hs pl pu (by rw [hlen]; exact hw) ⟨.ref a, H, I, rfl, q1 a H (Same.refl H) ?_⟩⟩
    have e : cutV xs lo hi = xs := by
      unfold cutV
      rw [hw.1, hw.2]; simp
    rw [e]; exact hx
  · exact sl_tup pins s σ H (.ref a) v vl vu lo hi sl Q I rx hs pl pu ⟨a, xs, rfl, SqT.of hx, hw, fun p hp => q1 p _ (fun b o e => by rw [upd_ne (ne_of_none e hp)]; exact e) upd_same⟩
/-- t + u of tracked tuples -/
def rCatB : R2 := fun x y H Q => ∃ a b xs ys, x = .ref a ∧ y = .ref b ∧ H a = some (.tup xs) ∧ H b = some (.tup ys) ∧ xs.length + ys.length ≤ sizeLine ∧ ∀ q H', Same H H' → H' q = some (.tup (xs ++ ys)) → Q (.ref q) H'
theorem oCatB : OpR X (binaryOp .Add) rCatB := by
  intro pins s σ H x y v u Q I rx ry h
  obtain ⟨a, b, xs, ys, rfl, rfl, ha, hb, hz, q⟩ := h
  by_cases hx : xs = []
  · subst hx
    cases rx
    cases ry
    obtain ⟨its, r1, p1, _⟩ := I.tuple (SqT.of ha)
    obtain ⟨its2, r2, p2, _⟩ := I.tuple (SqT.of hb)
    cases r1
    obtain ⟨⟨cls, dd, data, sl⟩, ho, hc, n, hd⟩ := id p1
    obtain ⟨⟨cls2, dd2, data2, sl2⟩, ho2, hc2, n2, hd2⟩ := id p2
    simp only at hc hd hc2 hd2
    subst hc hd hc2 hd2
    exact concat_meets ⟨_, ho, rfl⟩ ⟨_, ho2, rfl⟩ noFill_tuple_add seq_tuple_add PySem.F.slot_tuple_add PySem.F.entry_tuple_add (PySem.F.args_tuple_add_2 _ _)
      (tuple_addW0 a b _ _ n n2 dd dd2 sl sl2 rfl) ⟨ho, ho2, ⟨.ref b, H, I, rfl, q b H (Same.refl _) hb⟩⟩
  · exact op_catT pins s σ H (.ref a) (.ref b) v u Q I rx ry ⟨a, b, xs, ys, rfl, rfl, SqT.of ha, SqT.of hb, hx, hz, fun e => by subst e; exact q a H (Same.refl _) (by rw [List.append_nil]; exact ha), fun _ p hp => q p _ (Same.lay hp) upd_same⟩
/-- the truth of a tracked tuple -/
theorem pt_tup {a : Expr} {ta : TE} (ha : PE X a ta) (he : ∀ whole, isTrue a X.env whole = (do let v ← whole; standAt a.pos; holding [v] (truthy v)) := by intro _; rfl) :
    PT X a (fun σ H Q => ta σ H fun x H' => ∃ p xs, x = .ref p ∧ H' p = some (.tup xs) ∧ Q (!xs.isEmpty) H') := by
  intro pins s σ H Q I h
  refine isTrue_plain (thn (ha pins s σ H _ I h) fun v s1 ⟨x, H1, I1, r1, p, xs, e1, e2, q1⟩ => ?_) (he _)
  subst e1
  exact tru_ok pins s1 σ H1 (.ref p) v Q I1 r1 ⟨_, .inr (.inl ⟨xs, SqT.of e2, rfl⟩), q1⟩
/-- cutting: from the begin, from a place, all but the last -/
theorem cut_to {α : Type} (xs : List α) (k : Nat) (h : k ≤ xs.length) : cutL xs none (some (k : Int)) = xs.take k := by
  unfold cutL
  have e1 : HT.sIx xs.length 0 none = 0 := rfl
  have e2 : HT.sIx xs.length xs.length (some (k : Int)) = k := by
    unfold HT.sIx
    simp only
    split <;> omega
  rw [e1, e2, List.drop_zero, Nat.sub_zero]
theorem cut_from {α : Type} (xs : List α) (k : Nat) (h : k ≤ xs.length) : cutL xs (some (k : Int)) none = xs.drop k := by
  unfold cutL
  have e2 : HT.sIx xs.length 0 (some (k : Int)) = k := by
    unfold HT.sIx
    simp only
    split <;> omega
  have e1 : HT.sIx xs.length xs.length none = xs.length := rfl
  rw [e1, e2, List.take_of_length_le (by rw [List.length_drop]; omega)]
theorem cut_last {α : Type} (xs : List α) (h : 0 < xs.length) : cutL xs none (some (-1)) = xs.dropLast := by
  unfold cutL
  have e1 : HT.sIx xs.length 0 none = 0 := rfl
  have e2 : HT.sIx xs.length xs.length (some (-1)) = xs.length - 1 := by
    unfold HT.sIx
    simp only
    split <;> omega
  rw [e1, e2, List.drop_zero, Nat.sub_zero, List.dropLast_eq_take]
end
end L2

namespace L2
open PySem PySem.Spec PyProof.Rows
/-! ### == and != of what is nested: tuples, lists, None, to a depth -/
def EqD (K : PySem.W.Frag) (H : Hp) : Nat → V → V → Bool → Prop
  | 0, x, y, b => flatV x = true ∧ flatV y = true ∧ b = eqV x y
  | n + 1, x, y, b => (flatV x = true ∧ flatV y = true ∧ b = eqV x y) ∨
    (∃ (c : Bool) (p q : Addr) (xs ys : List V) (e : Nat → Bool), x = .ref p ∧ y = .ref q ∧ SqB K c H p xs ∧ SqB K c H q ys ∧ (∀ (j : Nat) (x' y' : V), xs[j]? = some x' → ys[j]? = some y' → EqD K H n x' y' (e j)) ∧
      b = ((xs.length == ys.length) && (List.range xs.length).all e) ∧ (p = q → b = true)) ∨
    (∃ (c : Bool) (p : Addr) (xs : List V), x = .ref p ∧ y = .non ∧ SqB K c H p xs ∧ b = false) ∨
    (∃ (c : Bool) (p : Addr) (xs : List V), x = .non ∧ y = .ref p ∧ SqB K c H p xs ∧ b = false)
section
variable {X : Cx} {pins : List (Addr × Obj)} {σ : St} {H : Hp} {s : Shared}
end
section
variable {K : PySem.W.Frag} {H : Hp}
theorem EqD.flat {n : Nat} {x y : V} (h1 : flatV x = true) (h2 : flatV y = true) : EqD K H n x y (eqV x y) := by
  cases n with
  | zero => exact ⟨h1, h2, rfl⟩
  | succ n => exact .inl ⟨h1, h2, rfl⟩
theorem EqD.int {n : Nat} (i j : Int) : EqD K H n (.int i) (.int j) (i == j) := EqD.flat rfl rfl
theorem EqD.int_t {n : Nat} (i : Int) : EqD K H n (.int i) (.int i) true := by
  have := EqD.int (K := K) (H := H) (n := n) i i
  rw [beq_self_eq_true] at this
  exact this
/-- two lists, or two tuples, alike item by item -/
theorem EqD.seq {n : Nat} {c : Bool} {p q : Addr} {xs ys : List V} (hp : SqB K c H p xs) (hq : SqB K c H q ys) (hl : xs.length = ys.length) (h : ∀ (j : Nat) (x y : V), xs[j]? = some x → ys[j]? = some y → EqD K H n x y true) : EqD K H (n + 1) (.ref p) (.ref q) true := by
  refine .inr (.inl ⟨c, p, q, xs, ys, fun _ => true, rfl, rfl, hp, hq, h, ?_, fun _ => rfl⟩)
  rw [hl, beq_self_eq_true, Bool.true_and]
  exact (List.all_eq_true.mpr fun _ _ => rfl).symm
theorem EqD.ints {n : Nat} {c : Bool} {p q : Addr} {ns : List Int} (hp : SqB K c H p (ns.map V.int)) (hq : SqB K c H q (ns.map V.int)) : EqD K H (n + 1) (.ref p) (.ref q) true :=
  EqD.seq hp hq rfl fun j x y h1 h2 => by
    rw [h1] at h2
    cases h2
    rw [List.getElem?_map] at h1
    obtain ⟨i, _, rfl⟩ := Option.map_eq_some_iff.mp h1
    exact EqD.int_t i
theorem SqB.t {p : Addr} {xs : List V} (h : H p = some (.tup xs)) : SqB K true H p xs := SqT.of h
theorem SqB.l {p : Addr} {xs : List V} (h : H p = some (.lst xs)) : SqB K false H p xs := SqL.of h
end
end L2

namespace L2
open PySem PySem.Spec PyProof.Rows
/-! ### xs[::-1] of a list -/
section
variable {X : Cx} {K : PySem.W.Frag} {e st : Expr} {te ts : TE} {p2 pos : Pos}
end
end L2

/-! # isinstance of an exception of an own class -/
namespace L2
open PySem PySem.Spec PyProof.Rows

/-- what a class of exceptions must have, as the fragment's deciders tell it -/
structure XCls (K : PySem.W.Frag) (C : Addr) : Prop where
  ga : PySem.W.findIn K (.ref C) "__getattribute__" = some (some (.builtin "BaseException.__getattribute__"))
  gn : PySem.W.findIn K (.ref C) "__getattr__" = some none
  cl : PySem.W.findIn K (.ref C) "__class__" = some (some (.builtin "object.__class__"))
  ob : PySem.W.mroIn K C (.type "object") = some true
  bx : PySem.W.mroIn K C (.type "BaseException") = some true
  is : (PySem.W.clsIn K C).isSome = true

/-- an exception of the class at C -/
def ExcAt (a C : Addr) (h : Heap) : Prop := ∃ o, h.get? a = some o ∧ o.cls = .ref C ∧ ∃ vs, o.data = .fields vs

section
variable {prog : Program} {w : World} {A : Around} {E : Value → Shared → Prop} {h : Heap} {g : Array GenState} {d : Drawn} {t : Nat} {os : OsState} {a C : Addr} {o : Obj} {K : PySem.W.Frag}

theorem xclass_get {R : Result → Shared → Prop} (X : K.In h) (c : XCls K C) (hx : h.get? a = some o) (hc : o.cls = .ref C) (hq : R (.ok (.ret (.ref C))) ⟨h, g, d, t, os⟩) :
    codeAny (model prog w) A (.call (.builtin "getset_descriptor.__get__") ⟨[.builtin "object.__class__", .ref a, .ref C], []⟩) R ⟨h, g, d, t, os⟩ := by
  have hT5 : (⟨h, g, d, t, os⟩ : Shared).TypeIs (.builtin "object.__class__") "getset_descriptor" := F.typeOf_object_class
  have L : PySem.W.Looks (model prog w) h (isSubtype (.ref C) (.type (".".intercalate ("object.__class__".cutAt '.').dropLast))) true := by
    rw [F.owner_object_class]; exact PySem.W.looks_mroIn X c.ob
  refine codeAny_call_builtin F.slot_gs_get.plain F.entry_gs_get (F.slot_gs_get.check _ _ _ _ _ _ _ _ hT5 (F.args_gs_get _ _ _) ?_)
  repeat (any_goals (first | assumption | (with_reducible refine wpAny_loadPart_at hx ?_; rw [hc]) | with_reducible refine L.at ?_ | wp_step))
  refine ⟨Code.quiet_builtin _ (by decide +kernel), codeAny_builtin F.entry_object_class ?_⟩
  repeat (any_goals (first | assumption | (with_reducible refine wpAny_loadPart_at hx ?_; rw [hc]) | wp_step))

theorem xclass_check {M : Model} {nameV : Value} {Q : Unit → Shared → Prop} (X : K.In h) (c : XCls K C) (hx : h.get? a = some o) (hc : o.cls = .ref C) (hq : Q () ⟨h, g, d, t, os⟩) :
    wpAny M A (checkBuiltinCall "BaseException.__getattribute__" ⟨[.ref a, nameV], []⟩) Q E ⟨h, g, d, t, os⟩ := by
  have hk : builtinKind "BaseException.__getattribute__" = some .slot := by decide +kernel
  have hsplit : splitId "BaseException.__getattribute__" = some ("BaseException", "__getattribute__") := by decide +kernel
  have L : PySem.W.Looks M h (isSubtype (.ref C) (.type "BaseException")) true := PySem.W.looks_mroIn X c.bx
  have ha := F.args_bexc_ga (.ref a) nameV
  simp only [checkBuiltinCall, hk, hsplit]
  refine wpAny_bind ?_
  · unfold isInstance
    repeat (first | (with_reducible refine wpAny_loadPart_at hx ?_; rw [hc]) | with_reducible refine L.at ?_ | wp_step)
    exact hq

theorem xclass_entry {tk : Tok} {Q : Fin → Shared → Prop} (X : K.In h) (c : XCls K C) (hx : h.get? a = some o) (hc : o.cls = .ref C) (hq : Q (.done (.ret (.ref C))) ⟨h, g, d, t, os⟩) :
    wpAny (model prog w) A (Builtin.«object.__getattribute__» ⟨[.ref a, .str "__class__" tk], []⟩) Q E ⟨h, g, d, t, os⟩ := by
  have hT5 : (⟨h, g, d, t, os⟩ : Shared).TypeIs (.builtin "object.__class__") "getset_descriptor" := F.typeOf_object_class
  have f5 := F.typeOf_object_class
  have f6 := F.slot_gs_get.lookup
  have f7 := F.slot_gs_set.lookup
  have L : PySem.W.Looks (model prog w) h (typeLookup (.ref C) "__class__") (some (.builtin "object.__class__")) := PySem.W.looks_findIn X c.cl
  repeat (any_goals (first | assumption | (with_reducible refine wpAny_loadPart_at hx ?_; rw [hc]) | with_reducible refine L.at ?_ | wp_step))
  refine xclass_get X c hx hc ?_
  repeat (any_goals (first | assumption | wp_step))

theorem xclass_by {tk : Tok} {Q : Value → Shared → Prop} (X : K.In h) (c : XCls K C) (hx : h.get? a = some o) (hc : o.cls = .ref C) (hq : Q (.ref C) ⟨h, g, d, t, os⟩) :
    wpAny (model prog w) A (getAttrBy (.ref a) (.str "__class__" tk) false) Q E ⟨h, g, d, t, os⟩ := by
  have f3 := F.excAttr_ValueError.ga.bind (.ref a)
  have hx2 : (Value.builtin "BaseException.__getattribute__" == Value.builtin "object.__getattribute__") = false := by decide +kernel
  have hx1 : (onTheHeap (Value.ref C) && Value.builtin "BaseException.__getattribute__" == Value.builtin "object.__getattribute__") = false := by rw [hx2]; rfl
  have L1 : PySem.W.Looks (model prog w) h (typeLookup (.ref C) "__getattribute__") (some (.builtin "BaseException.__getattribute__")) := PySem.W.looks_findIn X c.ga
  have L2 : PySem.W.Looks (model prog w) h (typeLookup (.ref C) "__getattr__") none := PySem.W.looks_findIn X c.gn
  repeat (any_goals (first | assumption | (with_reducible refine wpAny_loadPart_at hx ?_; rw [hc]) | with_reducible refine L1.at ?_ | with_reducible refine L2.at ?_ | wp_step))
  refine codeAny_call_builtin F.excAttr_ValueError.ga.plain F.entry_bexc_ga (xclass_check X c hx hc (xclass_entry X c hx hc ?_))
  repeat (any_goals (first | assumption | wp_step))

theorem xclass_attr {Q : Option Value → Shared → Prop} (X : K.In h) (c : XCls K C) (hx : h.get? a = some o) (hc : o.cls = .ref C) (hq : Q (some (.ref C)) ⟨h, g, d, t + 1, os⟩) :
    wpAny (model prog w) A (getAttr? (.ref a) "__class__") Q E ⟨h, g, d, t, os⟩ := by
  unfold getAttr? getAttrBy?
  repeat (any_goals (first | assumption | with_reducible apply xclass_by X c hx hc | wp_step))
end

theorem kitx_exc {K : PySem.W.Frag} {a C : Addr} (c : XCls K C) : PySem.W.KitX K (.ref a) (.ref C) (ExcAt a C) where
  ty := fun M h X p => by
    obtain ⟨o, h1, h2, _⟩ := p
    exact h2 ▸ (PySem.W.Looks.ld h1).andThen .now
  it := fun _ _ X _ => by
    have hcD := c.is
    unfold PySem.W.clsIn at hcD
    split at hcD
    · rename_i c' d' cd' sl' ho
      intro A' Q' E' s' k q
      unfold isType loadHead
      exact wpAny_bind (wpAny_loadPart (k _ _ (X _ _ ho)) (wpAny_pure q))
    · cases hcD
  ne := fun h tp dd its n sl X htp => by
    have hcD := c.is
    refine Bool.eq_false_iff.mpr fun q => ?_
    have e : C = tp := Value.ref.inj (beq_iff_eq.mp q)
    subst e
    unfold PySem.W.clsIn at hcD
    split at hcD
    · rename_i c' d' cd' sl' ho
      have z := (X _ _ ho).symm.trans htp
      cases z
    · cases hcD
  ca := fun {_ _ _ _ _ s} X p k => by
    obtain ⟨h, g, d, t, os⟩ := s
    obtain ⟨o, h1, h2, _⟩ := p
    exact xclass_attr X c h1 h2 k
end L2

namespace L2
open PySem PySem.Spec PyProof.Rows

/-! ### isinstance of an exception -/
def clsV : V → Value
  | .ty n => .type n
  | .ref D => .ref D
  | _ => .none
def isCls : V → Bool
  | .ty _ => true
  | .ref _ => true
  | _ => false
def rIsiX (K : PySem.W.Frag) : List V → Hp → VK → Prop := fun xs H Q => ∃ (a C : Addr) (c : V) (b : Bool), xs = [.ref a, c] ∧ H a = some (.ext (ExcAt a C)) ∧ XCls K C ∧
  ((isCls c = true ∧ PySem.W.kitOne K (.ref C) (clsV c) = some b) ∨ ∃ (p : Addr) (ys : List V), c = .ref p ∧ H p = some (.tup ys) ∧ ys.all isCls = true ∧ PySem.W.kitAny K (.ref C) (ys.map clsV) = some b) ∧ Q (.bl b) H
theorem rel_cls {c : V} {u : Value} (e : isCls c = true) (r : RelV c u) : u = clsV c := by
  cases c with
  | ty n => exact r
  | ref D => exact r
  | _ => cases e
theorem vals_cls : ∀ {ys : List V} {us : List Value}, ys.all isCls = true → Vals ys us → us = ys.map clsV
  | [], _, _, r => by cases r; rfl
  | y :: ys, _, e, r => by
    rw [List.all_cons, Bool.and_eq_true] at e
    cases r with
    | cons r1 r2 => rw [List.map_cons, rel_cls e.1 r1, vals_cls e.2 r2]
section
variable {X : Cx}
theorem call_isiX {K : PySem.W.Frag} (hK : X.K = K) : CallR X (.builtin "isinstance") (rIsiX K) := by
  intro pins s σ H xs us Q I r h
  subst hK
  obtain ⟨a, C, c, b, rfl, ea, xc, hc, q⟩ := h
  obtain ⟨u, w', rfl, ru, rw'⟩ := vals2 r
  have fin : ∀ tk, EP X pins σ Q (.bool b) { s with toks := tk } := fun tk => ⟨.bl b, H, I.tok tk, rfl, q⟩
  obtain ⟨pe, _, _⟩ := (show ObjOk X.prog X.w H s.heap a (.ext (ExcAt a C)) from I.hok a _ ea)
  cases (show u = Value.ref a from ru)
  rcases hc with ⟨ic, e⟩ | ⟨p, ys, rfl, hp, al, e⟩
  · cases rel_cls ic rw'
    exact PySem.W.kia_one (kitx_exc xc) I.kIn pe e (fun z => nomatch z) fin
  · cases (show w' = Value.ref p from rw')
    obtain ⟨_, its, rv, o, ho, hc, n, hd⟩ := I.hok p _ hp
    have ei := vals_cls al rv
    subst ei
    obtain ⟨oc, od, odt, osl⟩ := o
    simp only at hc hd
    subst hc hd
    exact PySem.W.kia_tup (kitx_exc xc) I.kIn pe ho e (fun z => nomatch z) fin
end

/-! ### an exception on its way: its record, its traceback -/
/-- the exception at a, of the class at C; its traceback (the record at T), if there is one -/
def XRec (h : Heap) (a C : Addr) (T : Option Addr) : Prop := ∃ oe vs, h.get? a = some oe ∧ oe.cls = .ref C ∧ oe.data = .fields vs ∧
  match T with
  | none => vs[1]? = some .none
  | some t => vs[1]? = some (.ref t) ∧ t ≠ a ∧ ∃ oT ts, h.get? t = some oT ∧ oT.data = .fields ts ∧ ts[3]? = some .none

section
variable {X : Cx} {pins : List (Addr × Obj)} {σ : St} {H H' : Hp} {s : Shared} {h' : Heap} {ch : List Addr}
/-- records that are newer than the entry may have turned (or been filled anew) -/
abbrev Cx.exs (X : Cx) (ch : List Addr) : Cx := { X with ex := X.ex ++ ch }
theorem Inv.exs (I : Inv X pins σ H s) (hch : ∀ b ∈ ch, X.s₀.heap.get? b = none ∧ b ≠ X.env.locals ∧ (∀ x c, X.env.cells.lookup x = some c → c ≠ b)) : Inv (X.exs ch) pins σ H s := by
  have nb : ∀ b o, X.s₀.heap.get? b = some o → b ∉ ch := fun b o e hb => by rw [(hch b hb).1] at e; cases e
  have ok := I.ok
  refine ⟨⟨ok.mod, ok.kind, ok.glob, ok.blt, ok.above, ok.inj, ok.has, ok.cab, ok.hd, ok.frames, ok.stk, fun b hb => ?_, ok.bs, ok.bsz, fun b o e hb => ?_, fun b hb hf => ?_, ok.funs, ok.frf⟩, I.os, I.bare,
    ⟨fun b o e n hb hx => I.base.keep b o e n hb fun z => hx (List.mem_append_left _ z), fun b o e n hb hx => I.base.slot b o e n hb fun z => hx (List.mem_append_left _ z), fun b o e n hx => I.base.free b o e n fun z => hx (List.mem_append_left _ z), fun b o e hx => I.base.there b o e fun z => hx (List.mem_append_left _ z), I.base.tups, I.base.frzs, I.base.tbls⟩,
    I.loc, I.cell, I.free, I.freeC, I.pin, I.hok, I.len⟩
  · rcases List.mem_append.mp hb with z | z
    · exact ok.exf b z
    · exact ⟨(hch b z).2.1, (hch b z).2.2⟩
  · rcases List.mem_append.mp hb with z | z
    · exact ok.noex b o e z
    · exact nb b o (ok.bs b o e).1 z
  · rcases List.mem_append.mp hb with z | z
    · exact ok.exfs b z hf
    · obtain ⟨_, o, ho, _⟩ := ok.funs.mem hf
      exact nb b o ho z
theorem Inv.unexs (I : Inv (X.exs ch) pins σ H s) (ok : X.Ok) (hch : ∀ b ∈ ch, X.s₀.heap.get? b = none) : Inv X pins σ H s := by
  have nb : ∀ b o, X.s₀.heap.get? b = some o → b ∉ X.ex → b ∉ X.ex ++ ch := fun b o e n hb => by
    rcases List.mem_append.mp hb with z | z
    · exact n z
    · rw [hch b z] at e; cases e
  exact ⟨ok, I.os, I.bare, ⟨fun b o e n hb hx => I.base.keep b o e n hb (nb b o e hx), fun b o e n hb hx => I.base.slot b o e n hb (nb b o e hx), fun b o e n hx => I.base.free b o e n (nb b o e hx), fun b o e hx => I.base.there b o e (nb b o e hx), I.base.tups, I.base.frzs, I.base.tbls⟩,
    I.loc, I.cell, I.free, I.freeC, I.pin, I.hok, I.len⟩
/-- what was there when the state was s is neither of these: so they are no frame, no cell, no pin -/
theorem Inv.news (I : Inv X pins σ H s) (hn : ∀ b ∈ ch, X.s₀.heap.get? b = none ∧ H b = none ∧ b ∉ frs X.stack ∧ b ≠ X.env.locals ∧ (∀ x c, X.env.cells.lookup x = some c → c ≠ b) ∧ ∀ p ∈ X.pn ++ pins, p.1 ≠ b)
    (hk : (PySem.W.hideAll s.heap (ch ++ frs X.stack)).StaysIn h') (hs : ∀ b o, s.heap.get? b = some o → (∀ vs, o.data ≠ .fields vs) → ∃ sl, h'.get? b = some { o with slots := sl }) (t' : Nat) :
    Inv X pins σ H { s with heap := h', toks := t' } := by
  have kp : ∀ b o, s.heap.get? b = some o → b ∉ frs X.stack → b ∉ ch → h'.get? b = some o := fun b o e n1 n2 => hk b o (PySem.W.hideAll_get _ e fun z => (List.mem_append.mp z).elim n2 n1)
  have fs : ∀ b o, s.heap.get? b = some o → b ∈ frs X.stack → ∃ sl, h'.get? b = some { o with slots := sl } := fun b o e hb => by
    obtain ⟨_, o', ho', hd⟩ := I.stack.mem hb
    rw [e] at ho'; cases ho'
    exact hs b o e hd
  have hch' : ∀ b ∈ ch, X.s₀.heap.get? b = none ∧ b ≠ X.env.locals ∧ (∀ x c, X.env.cells.lookup x = some c → c ≠ b) := fun b hb => ⟨(hn b hb).1, (hn b hb).2.2.2.1, (hn b hb).2.2.2.2.1⟩
  refine Inv.unexs (ch := ch) ((I.exs hch').call (g' := s.gens) (d' := s.drawn) (ch := ch) ⟨fun b o e n hb hx => kp b o e hb hx, fun b o e n hb hx => fs b o e hb, fun b o e n hx => n, fun b o e hx => ?_, fun b xs e => e, fun b o u e => e, fun b ps e => ⟨#[], by rw [e]; simp⟩⟩ (fun b u e => ?_) I.bare fun b hb => ?_) I.ok fun b hb => (hn b hb).1
  · by_cases hf : b ∈ frs X.stack
    · obtain ⟨sl, q⟩ := fs b o e hf
      exact ⟨_, q⟩
    · exact ⟨o, kp b o e hf hx⟩
  · have nf : ∀ c u, H c = some u → c ∉ frs X.stack ∧ c ∉ ch := fun c u q => ⟨fun z => (by rw [I.stkFree c z] at q; cases q), fun z => (by rw [(hn c z).2.1] at q; cases q)⟩
    refine (I.hok b u e).stay (fun c v hc q => ?_) (fun _ q => q) fun _ _ q => q
    rcases hc with z | z
    · exact kp c v q (z ▸ nf b u e).1 (z ▸ nf b u e).2
    · exact kp c v q (nf c _ z).1 (nf c _ z).2
  · exact ⟨.inl (List.mem_append_right _ hb), (hn b hb).2.2.2.1, (hn b hb).2.2.2.2.1, (hn b hb).2.2.2.2.2⟩
end
end L2

namespace L2
open PySem PySem.Spec PyProof.Rows

/-- new since the entry, and no frame, no cell, no pin, not tracked -/
def Nw (X : Cx) (pins : List (Addr × Obj)) (H : Hp) (b : Addr) : Prop :=
  X.s₀.heap.get? b = none ∧ H b = none ∧ b ∉ frs X.stack ∧ b ≠ X.env.locals ∧ (∀ x c, X.env.cells.lookup x = some c → c ≠ b) ∧ ∀ p ∈ X.pn ++ pins, p.1 ≠ b
/-- the exception at a, of the class at C, is on its way -/
structure Fly (X : Cx) (pins : List (Addr × Obj)) (σ : St) (H : Hp) (s : Shared) (a C : Addr) (T : Option Addr) : Prop where
  inv : Inv X pins σ H s
  xrec : XRec s.heap a C T
  na : Nw X pins H a
  nt : ∀ t, T = some t → Nw X pins H t
/-- a def's body -/
structure Full (X : Cx) : Prop where
  stk : X.stack = X.env :: X.outer
  fr : X.env.frame = some X.env.locals
  ex : X.ex = []

section
variable {X : Cx} {pins : List (Addr × Obj)} {σ : St} {H : Hp} {s : Shared} {a C : Addr} {T : Option Addr} {h' : Heap}
/-- what was not there is new -/
theorem Inv.nw (I : Inv X pins σ H s) (f : Full X) {b : Addr} (e : s.heap.get? b = none) : Nw X pins H b := by
  have ne : ∀ c o, s.heap.get? c = some o → c ≠ b := fun c o q z => by rw [z, e] at q; cases q
  refine ⟨?_, ?_, fun z => ?_, fun z => ?_, fun x c q z => ?_, fun p hp z => ?_⟩
  · cases q : X.s₀.heap.get? b with
    | none => rfl
    | some o =>
      obtain ⟨o', q'⟩ := I.base.there b o q (by rw [f.ex]; simp)
      exact absurd rfl (ne b o' q')
  · cases q : H b with
    | none => rfl
    | some u =>
      have lt := I.hok.lt q
      exfalso
      have ok := I.hok b u q
      cases u with
      | lst xs => obtain ⟨_, _, _, _, q'⟩ := ok; exact ne b _ q' rfl
      | tup xs => obtain ⟨_, _, _, ⟨o, q', _⟩⟩ := ok; exact ne b _ q' rfl
      | dK kvs => obtain ⟨_, _, _, _, o, _, _, q', _⟩ := ok; exact ne b _ q' rfl
      | dT kvs => obtain ⟨_, _, _, _, o, _, _, q', _⟩ := ok; exact ne b _ q' rfl
      | set S n => obtain ⟨o, _, _, _, q', _⟩ := ok; exact ne b _ q' rfl
      | ins C dx fs => obtain ⟨_, _, _, q', _⟩ := ok; exact ne b _ q' rfl
      | own y => obtain ⟨_, q'⟩ := ok; exact ne b _ q' rfl
      | xd fs => obtain ⟨_, ⟨_, _, _, q', _⟩, _⟩ := ok; exact ne b _ q' rfl
      | rng lo hi => obtain ⟨_, _, _, q'⟩ := ok; exact ne b _ q' rfl
      | frz ob u => obtain ⟨q', _⟩ := ok; exact ne b _ q' rfl
      | tbl ps => exact ne b _ (show s.heap.get? b = some _ from ok) rfl
      | met f y => exact ne b _ (show s.heap.get? b = some _ from ok) rfl
      | ext φ => obtain ⟨_, ⟨_, q'⟩, _⟩ := ok; exact ne b _ q' rfl
  · obtain ⟨_, o, ho, _⟩ := I.stack.mem z
    exact ne b o ho rfl
  · obtain ⟨m, ⟨o, _, _, ho, _⟩, _⟩ := I.loc
    exact ne _ o ho z.symm
  · obtain ⟨v, o, ho, _⟩ := I.cell x c q
    exact ne c o ho z
  · exact ne _ _ (I.pin p hp).1 z

/-- the heap but the exception, its traceback, the frames -/
abbrev bareX (X : Cx) (h : Heap) (a : Addr) (T : Option Addr) : Heap := PySem.W.hideAll h ((a :: T.toList) ++ frs X.stack)
theorem Fly.frames (F : Fly X pins σ H s a C T) : s.heap.FunFrames (bareX X s.heap a T) X.stack :=
  PySem.W.funFrames_hide F.inv.stack fun env he b hb => List.mem_append_right _ (List.mem_filterMap.mpr ⟨env, he, hb⟩)
theorem Fly.bareStays (F : Fly X pins σ H s a C T) : (bareX X s.heap a T).StaysIn s.heap := fun b o e => PySem.W.of_hideAll _ e
theorem Fly.bareNone (F : Fly X pins σ H s a C T) : (bareX X s.heap a T).get? a = none := PySem.W.hideAll_none _ (by simp)
/-- behind a step of the exception in this frame -/
theorem Fly.on (F : Fly X pins σ H s a C T) (f : Full X) (st : (bareX X s.heap a T).StaysIn h') (ff : h'.FunFrames (bareX X s.heap a T) X.stack) (tr : h'.Traced (bareX X s.heap a T) a (.ref C)) (sl : s.heap.UpToSlots h') :
    ∃ t', Fly X pins σ H { s with heap := h' } a C (some t') := by
  have I := F.inv
  have hch : ∀ b ∈ a :: T.toList, Nw X pins H b := fun b hb => by
    rcases List.mem_cons.mp hb with rfl | hb
    · exact F.na
    · exact F.nt b (by simpa using hb)
  have I' : Inv X pins σ H { s with heap := h' } := I.news hch st sl s.toks
  obtain ⟨oe, vs, t', oT, ts, he, hcl, hd, h1, hn, hne, hT, hdT, h3⟩ := tr
  refine ⟨t', I', ⟨oe, vs, he, hcl, hd, h1, hne, oT, ts, hT, hdT, h3⟩, F.na, fun t e => ?_⟩
  cases e
  cases q : s.heap.get? t' with
  | none => exact I.nw f q
  | some o =>
    by_cases hm : t' ∈ (a :: T.toList) ++ frs X.stack
    · rcases List.mem_append.mp hm with z | z
      · exact hch t' z
      · obtain ⟨_, o', ho', hnf⟩ := ff.mem z
        rw [hT] at ho'; cases ho'
        exact absurd hdT (hnf ts)
    · have := PySem.W.hideAll_get _ q hm
      rw [hn] at this
      cases this

theorem Fly.leave (F : Fly X pins σ H s a C T) (f : Full X) {M : Model} {Q : Unit → Shared → Prop} {E : Value → Shared → Prop} (k : ∀ s' t, Fly X pins σ H s' a C (some t) → Q () s') : wpAny M X.A (leaving X.env (.ref a)) Q E s := by
  have hfr : X.A.frames = some (X.env :: X.outer) := by rw [← f.stk]; exact F.inv.ok.frames
  have hl : s.heap.FunFrames (bareX X s.heap a T) (X.env :: X.outer) := by rw [← f.stk]; exact F.frames
  obtain ⟨oe, vs, he, hcl, hd, h1⟩ := F.xrec
  cases T with
  | none =>
    refine wpAny_leaving_first hfr hl f.fr he F.bareStays F.bareNone hd h1 fun h' ⟨k1, k2, k3, k4⟩ => ?_
    rw [hcl] at k3
    obtain ⟨t', F'⟩ := F.on f k1 (by rw [f.stk]; exact k2) k3 k4
    exact k _ t' F'
  | some t =>
    obtain ⟨h1, hne, oT, ts, hT, hdT, h3⟩ := h1
    refine wpAny_leaving_next hfr hl f.fr (cls := .ref C) ⟨oe, vs, t, oT, ts, he, hcl, hd, h1, PySem.W.hideAll_none _ (by simp), hne, hT, hdT, h3⟩ F.bareStays F.bareNone fun h' ⟨k1, k2, k3, k4⟩ => ?_
    obtain ⟨t', F'⟩ := F.on f k1 (by rw [f.stk]; exact k2) k3 k4
    exact k _ t' F'

theorem Fly.flyW {t : Addr} (F : Fly X pins σ H s a C (some t)) : ∃ a0, Heap.FlyingW (bareX X s.heap a (some t)) X.stack a (.ref C) a0 s.heap := by
  obtain ⟨oe, vs, he, hcl, hd, h1, hne, oT, ts, hT, hdT, h3⟩ := F.xrec
  have hsz : 1 < vs.size := (Array.getElem?_eq_some_iff.mp h1).1
  refine ⟨vs[0]'(by omega), F.bareStays, F.bareNone, F.frames, oe, vs, t, oT, ts, he, ⟨hcl, Array.getElem?_eq_getElem (by omega)⟩, hd, h1, PySem.W.hideAll_none _ (by simp), hne, hT, hdT, h3⟩
theorem Fly.onW {t : Addr} {a0 : Value} (F : Fly X pins σ H s a C (some t)) (f : Full X) (fl : Heap.FlyingW (bareX X s.heap a (some t)) X.stack a (.ref C) a0 h') (sl : s.heap.UpToSlots h') :
    ∃ t', Fly X pins σ H { s with heap := h' } a C (some t') := by
  obtain ⟨k1, k2, k3, oe, vs, T', oT, ts, he, ⟨hcl, _⟩, r⟩ := fl
  exact F.on f k1 k3 ⟨oe, vs, T', oT, ts, he, hcl, r⟩ sl
/-- at a try: the frame is noted, the flight ends -/
theorem Fly.note {t : Addr} (F : Fly X pins σ H s a C (some t)) (f : Full X) {M : Model} {Q : Unit → Shared → Prop} {E : Value → Shared → Prop} (k : ∀ s' t, Fly X pins σ H s' a C (some t) → Q () s') :
    wpAny M X.A (noteFrame (.ref a) X.env) (fun _ s2 => wpAny M X.A (setFlight (.ref a) none) Q E s2) E s := by
  have hfr : X.A.frames = some (X.env :: X.outer) := by rw [← f.stk]; exact F.inv.ok.frames
  obtain ⟨a0, fl⟩ := F.flyW
  refine wpAny_looks_onW hfr f.fr (by rw [← f.stk]; exact fl) fun h4 hh sl4 => wpAny_landsW hh fun h5 fl5 sl5 => ?_
  obtain ⟨t', F'⟩ := F.onW f (by rw [f.stk]; exact fl5) (sl4.trans sl5)
  exact k _ t' F'
theorem Fly.land {t : Addr} (F : Fly X pins σ H s a C (some t)) (f : Full X) {M : Model} {A : Around} {Q : Unit → Shared → Prop} {E : Value → Shared → Prop} (k : ∀ s' t, Fly X pins σ H s' a C (some t) → Q () s') :
    wpAny M A (setFlight (.ref a) none) Q E s := by
  obtain ⟨a0, fl⟩ := F.flyW
  refine lands_againW fl fun h5 fl5 sl5 => ?_
  obtain ⟨t', F'⟩ := F.onW f fl5 sl5
  exact k _ t' F'
end

/-! ### how an exception lies behind a call -/
def CXx (P : Program) (w : World) : CXT := fun outer H s E e s' => ∃ (a C t : Addr) (H' : Hp), e = .ref a ∧ s'.os = s.os ∧ AllBare s'.gens ∧ Un (frs outer) [] H H' s.heap s'.heap ∧ HOk P w H' s'.heap ∧
  XRec s'.heap a C (some t) ∧ s.heap.get? a = none ∧ s.heap.get? t = none ∧ H' a = none ∧ H' t = none ∧ E (.ref C) none H'
section
variable {X : Cx} {pins : List (Addr × Obj)} {σ : St} {H : Hp} {s s' : Shared} {a C : Addr} {E : XK} {e : Value}
/-- in the caller -/
theorem Inv.flies (I : Inv X pins σ H s) (f : Full X) (h : CXx X.prog X.w X.stack H s E e s') : ∃ a C t H', e = .ref a ∧ Fly X pins σ H' s' a C (some t) ∧ E (.ref C) none H' := by
  obtain ⟨a, C, t, H', rfl, os, bare, un, hok, xr, na, nt, ha, ht, q⟩ := h
  refine ⟨a, C, t, H', rfl, ⟨I.call' os un hok bare (fun b z => absurd z (by simp)), xr, ?_, fun t' e => ?_⟩, q⟩
  · obtain ⟨n1, _, n3⟩ := I.nw f na
    exact ⟨n1, ha, n3⟩
  · cases e
    obtain ⟨n1, _, n3⟩ := I.nw f nt
    exact ⟨n1, ht, n3⟩
/-- it leaves the frame -/
theorem Fly.out {T : Option Addr} (F : Fly X pins σ H s a C T) (f : Full X) {M : Model} {E' : Value → Shared → Prop} (q : E (.ref C) none H) :
    wpAny M X.A (leaving X.env (.ref a)) (fun _ s' => CXx X.prog X.w X.outer X.H₀ X.s₀ E (.ref a) s') E' s :=
  F.leave f fun s' t F' => ⟨a, C, t, H, rfl, F'.inv.os, F'.inv.bare, by have := F'.inv.base; rw [f.ex] at this; exact this, F'.inv.hok, F'.xrec, F'.na.1, (F'.nt t rfl).1, F'.na.2.1, (F'.nt t rfl).2.1, q⟩
end
section
variable {P : Program} {w : World} {K : PySem.W.Frag} {mg : Str → Option Value} {base : Heap} {N : List Str} {qual : Str} {scope : Scope} {f : Addr} {cd : Value} {A : Around} {outer : List Env} {s : Shared} {H : Hp} {E E' : XK}
theorem full_of {CX : CXT} : Full (cxOf CX P w K mg base N qual scope f cd A outer s H E) := ⟨rfl, rfl, rfl⟩
/-- an exception of a callee goes on to the caller -/
theorem passX (h : ∀ c d H', E' c d H' → E c d H') : Passes (CXx P w) (cxOf (CXx P w) P w K mg base N qual scope f cd A outer s H E) E' := by
  intro pins σ H1 s1 e s' I hc
  obtain ⟨a, C, t, H', rfl, F, q⟩ := I.flies full_of hc
  exact F.out full_of (h _ _ _ q)
/-- a def that may raise -/
theorem Fun.okX {x qual : Str} {st : Stmt} {f : Addr} {fd : FuncData} {N ps : List Str} {k : Nat} {sp : Sp} (F : Fun K x qual st f fd) (S : FnScope N ps (defScope st)) (len : ∀ vs H Q E, sp vs H Q E → vs.length = ps.length)
    (hbody : ∀ (cdv : Value) (A : Around) (outer : List Env) (s : Shared) (H : Hp) (vs : List V) (Q : VK) (E : XK), Room k (A.deeper (envOfC qual (defScope st) s.heap.objs.size f cdv)) → sp vs H Q E →
      ∃ t, PSs (cxOf (CXx P w) P w K mg base N qual (defScope st) f cdv A outer s H E) (defBody st) t ∧ t { nx := fun _ H' => Q .non H', rt := Q } (start N vs) H) : FnOk P w K mg base (CXx P w) (k + 1) f fd ps sp := by
  obtain ⟨oc, od, kV, doc, pm, an, cdv, ct, osl, rfl, lk, hcd⟩ := F.ex
  exact fn_of lk hcd S len fun A outer s H vs Q E hr hsp => hbody cdv A outer s H vs Q E hr hsp
end
end L2

namespace L2
open PySem PySem.Spec PyProof.Rows

/-! ### raise C(text) -/
abbrev bmV : List Value := [.type "ValueError", .type "Exception", .type "BaseException", .type "object"]
theorem exc_of_in {K : PySem.W.Frag} {h : Heap} {C : Addr} {bmB : List Value} {newId : String} (X : K.In h) (q : PySem.W.excIn K C bmB newId = true) :
    ∃ bm N nm qn bs hdct sn sub ab col dd k0 k1 k2 k3 k5 mN, h.get? C = some (excClassObj nm qn C N bs bm hdct sn sub ab col dd k0 k1 k2 k3 k5 newId) ∧ h.Ns N mN ∧ mN "__init__" = none ∧ OwnTail h bmB bm := by
  unfold PySem.W.excIn at q
  split at q
  · rename_i dd cd sl ho
    split at q
    · rename_i C' bm k0 k1 k2 k3 n k5 hm hs
      simp only [Bool.and_eq_true, beq_iff_eq, Bool.not_eq_true'] at q
      obtain ⟨⟨⟨⟨⟨rfl, rfl⟩, hdel⟩, ht⟩, hok⟩, hni⟩ := q
      obtain ⟨nm, bs, mro, ns, qn, hd, sn, sub, ab, col, del⟩ := cd
      dsimp only at hm hdel hok hni
      subst hm hdel
      have hsl : sl = #[k0, k1, k2, k3, some (.builtin n), k5] := by
        obtain ⟨l⟩ := sl
        simp only at hs
        rw [hs]
      subst hsl
      exact ⟨bm, ns, nm, qn, bs, hd, sn, sub, ab, col, dd, k0, k1, k2, k3, k5, _, X _ _ ho, .of_isNs (PySem.W.isNs_of_in X hok), PySem.W.nsMap_none_of_in X hok hni, PySem.W.tail_of_in X ht⟩
    · cases q
  · cases q

def tRaise (C : Addr) (E : XK) (t : TA) : TS := fun D σ H => t σ H fun vs H' => vs.length ≤ sizeLine ∧ E (.ref C) none H'
section
variable {X : Cx}
theorem ps_raise {x : Str} {C : Addr} {e : Expr} {np cpos pos : Pos} {t : TA} {E : XK} (f : Full X) (hc : X.calm = true) (hg : Gl X x) (hm : X.mg x = some (.ref C)) (hx : PySem.W.excIn X.K C bmV "ValueError.__new__" = true) (ha : PA X [e] t)
    (hE : ∀ (pins : List (Addr × Obj)) (σ : St) (H : Hp) (s : Shared) (a : Addr), Fly X pins σ H s a C none → E (.ref C) none H → X.xe (.ref a) s)
    (hs : starEach [e] X.env = [(false, eval e X.env)] := by rfl) (hd : (x == ("__debug__" : Str)) = false := by decide) :
    PS X (.Raise (some (.Call (.Name x np) [e] [] cpos)) none pos) (tRaise C E t) := by
  intro pins s σ H D I h
  obtain ⟨bm0, _, _, _, _, _, _, _, _, _, _, _, _, _, _, _, _, hC0, _, _, T0⟩ := exc_of_in I.kIn hx
  obtain ⟨bm, N, nm, qn, bs, hdct, sn, sub, ab, col, dd, k0, k1, k2, k3, k5, mN, hC, hN, hni, T⟩ := exc_of_in I.ok.mod.kin hx
  refine wpAny_Raise_call_subU (mN := mN) (C := C) (nm := nm) (q := qn) (N := N) (bs := bs) (bm := bm) (hdct := hdct) (sn := sn) (sub := sub) (ab := ab) (col := col) (dd := dd) (k0 := k0) (k1 := k1) (k2 := k2) (k3 := k3) (k5 := k5)
    F.excBase_ValueError (by decide +kernel) F.excBase_ValueError (T.hasType (by decide +kernel)) (I.ok.hd hc) (by rw [hs]; rfl) hni ?_
  refine thn (pe_glob hg hm (v := .ref C) rfl hd pins s σ H (fun v H' => v = .ref C ∧ H' = H) I ⟨rfl, rfl⟩) fun u s0 ⟨v, H', I0, r0, e1, e2⟩ => ?_
  subst e1 e2
  obtain rfl : u = Value.ref C := r0
  refine ⟨rfl, ?_⟩
  rw [hs]
  refine Calls.evalArgs_plain ?_
  have ha' := ha cpos pins s0 σ H' _ I0 h
  rw [hs] at ha'
  refine thn ha' fun us s1 ⟨vs, H1, I1, r, hl, q⟩ => ?_
  have keep : ∀ b o, X.base.get? b = some o → s1.heap.get? b = some o := I1.bk
  refine ⟨rfl, by show us.length ≤ _; rw [← r.length]; exact hl, keep _ _ hC, hN.keeps keep, T.keeps keep, fun h' a hmd => ?_⟩
  obtain ⟨tt, he, _, _⟩ := hmd.there
  have I2 : Inv X pins σ H1 { s1 with heap := h' } := I1.kept (t' := s1.toks) hmd.keeps
  exact hE pins σ H1 _ a ⟨I2, ⟨_, _, he, rfl, rfl, rfl⟩, I1.nw f hmd.new, fun t e => by cases e⟩ q
end
/-- .. in a def's body -/
theorem raiseX {P : Program} {w : World} {K : PySem.W.Frag} {mg : Str → Option Value} {base : Heap} {N : List Str} {qual : Str} {scope : Scope} {f : Addr} {cd : Value} {A : Around} {outer : List Env} {s : Shared} {H : Hp} {E : XK} {C : Addr} :
    ∀ (pins : List (Addr × Obj)) (σ : St) (H1 : Hp) (s1 : Shared) (a : Addr), Fly (cxOf (CXx P w) P w K mg base N qual scope f cd A outer s H E) pins σ H1 s1 a C none → E (.ref C) none H1 → (cxOf (CXx P w) P w K mg base N qual scope f cd A outer s H E).xe (.ref a) s1 :=
  fun pins σ H1 s1 a F q => F.out full_of q
end L2

namespace L2
open PySem PySem.Spec PyProof.Rows

/-- what the class behind except must have -/
structure XSup (K : PySem.W.Frag) (S : Addr) : Prop where
  ty : PySem.W.typeIn K (.ref S) = some (.type "type")
  bx : PySem.W.mroIn K S (.type "BaseException") = some true
  is : (PySem.W.clsIn K S).isSome = true
theorem xmatch {K : PySem.W.Frag} {M : Model} {A : Around} {E : Value → Shared → Prop} {h : Heap} {g : Array GenState} {d : Drawn} {t : Nat} {os : OsState} {e C S : Addr} {oe : Obj} {b : Bool} {Q : Bool → Shared → Prop}
    (X : K.In h) (xs : XSup K S) (hs : PySem.W.mroIn K C (.ref S) = some b) (he : h.get? e = some oe) (hcls : oe.cls = .ref C) (hq : Q b ⟨h, g, d, t, os⟩) : wpAny M A (excMatches (.ref e) (.ref S)) Q E ⟨h, g, d, t, os⟩ := by
  have L1 : PySem.W.Looks M h (typeOf (.ref S)) (.type "type") := PySem.W.looks_typeIn X xs.ty
  have L2 : PySem.W.Looks M h (isSubtype (.ref S) (.type "BaseException")) true := PySem.W.looks_mroIn X xs.bx
  have L3 : PySem.W.Looks M h (isSubtype (.ref C) (.ref S)) b := PySem.W.looks_mroIn X hs
  have f := tc_notTuple
  have L4 : PySem.W.Looks M h (isType (.ref S)) true := by
    have hcD := xs.is
    unfold PySem.W.clsIn at hcD
    split at hcD
    · rename_i c' d' cd' sl' ho
      intro A' Q' E' s' k q
      unfold isType loadHead
      exact wpAny_bind (wpAny_loadPart (k _ _ (X _ _ ho)) (wpAny_pure q))
    · cases hcD
  unfold excMatches isInstance isExcClass
  repeat (first | (with_reducible refine wpAny_loadPart_at he ?_; rw [hcls]) | with_reducible refine L1.at ?_ | with_reducible refine L4.at ?_ | with_reducible refine L2.at ?_ | with_reducible refine L3.at ?_ | wp_step)
  cases b <;> first | exact hq | (wp_walk; exact hq)

section
variable {X : Cx} {pins : List (Addr × Obj)} {σ : St} {H : Hp} {s : Shared} {a C t : Addr} {h' : Heap}
/-- the exception and its traceback are pinned -/
theorem Fly.pin (F : Fly X pins σ H s a C (some t)) : ∃ oe oT : Obj, Inv X (pins ++ [(a, oe), (t, oT)]) σ H s ∧ oe.cls = .ref C ∧
    ∀ (X' : Cx) (s' : Shared), Inv X' (pins ++ [(a, oe), (t, oT)]) σ H s' → Inv X pins σ H s' → s'.heap.get? a = some oe ∧ Fly X pins σ H s' a C (some t) := by
  obtain ⟨oe, vs, he, hcl, hd, h1, hne, oT, ts, hT, hdT, h3⟩ := F.xrec
  have ff : ∀ b ∈ frs X.stack, ∀ o vs, s.heap.get? b = some o → o.data = .fields vs → False := fun b hb o vs e q => by
    obtain ⟨_, o', ho', hnf⟩ := F.inv.stack.mem hb
    rw [e] at ho'; cases ho'
    exact hnf vs q
  have fs : ∀ b ∈ X.fs, b ∈ frs X.stack ∨ True := fun _ _ => .inr trivial
  have nfs : ∀ b o vs, s.heap.get? b = some o → o.data = .fields vs → b ∉ X.fs := fun b o vs e q hb => by
    obtain ⟨_, o', ho', hnf⟩ := F.inv.funs.mem hb
    rw [e] at ho'; cases ho'
    exact hnf vs q
  refine ⟨oe, oT, F.inv.pins_of fun p hp => ?_, hcl, fun X' s' I' I => ?_⟩
  · rcases List.mem_append.mp hp with z | z
    · exact F.inv.pin p (List.mem_append_right _ z)
    · rcases List.mem_cons.mp z with rfl | z
      · exact ⟨he, F.na.2.1, F.na.2.2.2.1, nfs _ _ _ he hd, fun v q => by rw [hd] at q; cases q⟩
      · rcases List.mem_cons.mp z with rfl | z
        · exact ⟨hT, (F.nt t rfl).2.1, (F.nt t rfl).2.2.2.1, nfs _ _ _ hT hdT, fun v q => by rw [hdT] at q; cases q⟩
        · exact nomatch z
  · have e1 := (I'.pin (a, oe) (List.mem_append_right _ (List.mem_append_right _ (.head _)))).1
    have e2 := (I'.pin (t, oT) (List.mem_append_right _ (List.mem_append_right _ (.tail _ (.head _))))).1
    exact ⟨e1, I, ⟨oe, vs, e1, hcl, hd, h1, hne, oT, ts, e2, hdT, h3⟩, F.na, F.nt⟩
/-- the exception is tracked from here on -/
theorem Fly.track {T : Option Addr} (F : Fly X pins σ H s a C T) : Inv X pins σ (upd H a (.ext (ExcAt a C))) s := by
  have I := F.inv
  obtain ⟨n1, n2, n3, n4, n5, n6⟩ := F.na
  have ne : ∀ b u, H b = some u → b ≠ a := fun b u e z => by rw [z, n2] at e; cases e
  obtain ⟨oe, vs, he, hcl, hd, _⟩ := F.xrec
  refine ⟨I.ok, I.os, I.bare, ⟨I.base.keep, I.base.slot, fun b o e n hx => ?_, I.base.there, fun b xs e => ?_, fun b o u e => ?_, fun b ps e => ?_⟩, I.loc, I.cell, ?_, fun x c e => ?_, fun p hp => ?_, fun b u e => ?_, I.len⟩
  · rw [upd_ne fun z => by rw [z, n1] at e; cases e]; exact I.base.free b o e n hx
  · rw [upd_ne (ne b _ (I.base.tups b xs e))]; exact I.base.tups b xs e
  · rw [upd_ne (ne b _ (I.base.frzs b o u e))]; exact I.base.frzs b o u e
  · obtain ⟨more, q⟩ := I.base.tbls b ps e
    exact ⟨more, by rw [upd_ne (ne b _ q)]; exact q⟩
  · rw [upd_ne (Ne.symm n4)]; exact I.free
  · rw [upd_ne (n5 x c e)]; exact I.freeC x c e
  · obtain ⟨q1, q2, q3⟩ := I.pin p hp
    exact ⟨q1, by rw [upd_ne (n6 p hp)]; exact q2, q3⟩
  · by_cases hb : b = a
    · subst hb
      rw [upd_same] at e; cases e
      exact ⟨⟨oe, he, hcl, vs, hd⟩, ⟨oe, he⟩, fun h1 h2 ⟨o, q, r⟩ k => ⟨o, k o q, r⟩⟩
    · rw [upd_ne hb] at e
      exact (I.hok b u e).stay (fun c v _ q => q) (fun c q => by rw [upd_ne (ne c _ q)]; exact q) fun c xs q => by rw [upd_ne (ne c _ q)]; exact q
/-- a name goes -/
theorem goes_ok {M : Model} {A : Around} {E : Value → Shared → Prop} {i : Nat} {n : Str} {pos : Pos} {Q : Unit → Shared → Prop} (I : Inv X pins σ H s) (hN : X.N.Nodup) (hi : X.N[i]? = some n) (hk : X.env.kindOf n = some .local)
    (h : ∀ s', Inv X pins (σ.set i none) H s' → Q () s') : wpAny M A (do bindName X.env n .none; unbindBehindTheSuite X.env n pos) Q E s := by
  obtain ⟨m, hn, hl⟩ := id I.loc
  have hcls : (X.env.scope.kind == .class || (X.env.scope.kind == .module && X.env.locals != X.env.globals)) = false := by rw [I.ok.kind]; rfl
  refine wpAny_nameGoes_keeps hk hn hcls fun h' v hn' hs => ?_
  obtain ⟨oL, _, _, hoL, _⟩ := id hn
  have cne := I.cne
  have neL : ∀ b o, X.s₀.heap.get? b = some o → b ≠ X.env.locals := fun b o e => Nat.ne_of_lt (Nat.lt_of_lt_of_le (Heap.lt_size e) I.ok.above)
  refine h _ ⟨I.ok, I.os, I.bare, ⟨fun b o e n hb hx => (hs.2 b (neL b o e)).trans (I.base.keep b o e n hb hx), fun b o e n hb hx => ?_, I.base.free, fun b o e hx => ?_, I.base.tups, I.base.frzs, I.base.tbls⟩, ⟨_, hn', fun j y v' e1 e2 e3 => ?_⟩, fun y c e => ?_, I.free, I.freeC, fun p hp => ?_, fun b ob e => ?_, by simpa using I.len⟩
  · obtain ⟨sl, e1⟩ := I.base.slot b o e n hb hx
    exact ⟨sl, (hs.2 b (neL b o e)).trans e1⟩
  · obtain ⟨o', e1⟩ := I.base.there b o e hx
    exact ⟨o', (hs.2 b (neL b o e)).trans e1⟩
  · by_cases hj : j = i
    · subst hj
      rw [List.getElem?_set] at e2
      split at e2
      · split at e2 <;> cases e2
      · rename_i z; exact absurd rfl z
    · rw [List.getElem?_set_ne (Ne.symm hj)] at e2
      obtain ⟨u', r', q⟩ := hl j y v' e1 e2 e3
      refine ⟨u', r', ?_⟩
      rcases q with ⟨k, e⟩ | ⟨k, c, e, z⟩
      · refine .inl ⟨k, ?_⟩
        have : y ≠ n := fun e => hj (nodup_ix hN e1 (e ▸ hi))
        simp [this, e]
      · exact .inr ⟨k, c, e, z.sameBut hs (cne y c e)⟩
  · obtain ⟨w', z⟩ := I.cell y c e
    exact ⟨w', z.sameBut hs (cne y c e)⟩
  · obtain ⟨e, n, ne, nf, d⟩ := I.pin p hp
    exact ⟨(hs.2 p.1 ne).trans e, n, ne, nf, d⟩
  · refine (I.hok b ob e).stay (fun c w' hc q => (hs.2 c ?_).trans q) (fun _ q => q) fun _ _ q => q
    rintro rfl
    rcases hc with hc | hc
    · rw [← hc, I.free] at e; cases e
    · rw [I.free] at hc; cases hc
end

/-! ### try .. except C as n -/
/-- the body of a try -/
abbrev Cx.tried (X : Cx) (pn : List (Addr × Obj)) (E : Value → Shared → Prop) : Cx := { X with pn := pn, xe := E }
/-- the suite behind except -/
abbrev Cx.hnd (X : Cx) (e : Value) : Cx := { X with A := X.A.mark (some e), calm := false, xe := fun _ _ => False }
section
variable {X : Cx} {pins p2 : List (Addr × Obj)} {σ : St} {H : Hp} {s : Shared} {E : Value → Shared → Prop} {e : Value}
theorem Cx.Ok.tried (ok : X.Ok) {pn : List (Addr × Obj)} : (X.tried pn E).Ok := ⟨ok.mod, ok.kind, ok.glob, ok.blt, ok.above, ok.inj, ok.has, ok.cab, ok.hd, ok.frames, ok.stk, ok.exf, ok.bs, ok.bsz, ok.noex, ok.exfs, ok.funs, ok.frf⟩
theorem Cx.Ok.untried {pn : List (Addr × Obj)} (ok : (X.tried pn E).Ok) : X.Ok := ⟨ok.mod, ok.kind, ok.glob, ok.blt, ok.above, ok.inj, ok.has, ok.cab, ok.hd, ok.frames, ok.stk, ok.exf, ok.bs, ok.bsz, ok.noex, ok.exfs, ok.funs, ok.frf⟩
theorem Inv.tried (I : Inv X pins σ H s) : Inv (X.tried (X.pn ++ pins) E) [] σ H s := ⟨I.ok.tried, I.os, I.bare, I.base, I.loc, I.cell, I.free, I.freeC, fun p hp => I.pin p (by simpa using hp), I.hok, I.len⟩
theorem Inv.untried (I : Inv (X.tried (X.pn ++ pins) E) p2 σ H s) : Inv X pins σ H s := ⟨I.ok.untried, I.os, I.bare, I.base, I.loc, I.cell, I.free, I.freeC, fun p hp => I.pin p (List.mem_append_left _ hp), I.hok, I.len⟩
theorem Inv.hnd (I : Inv X pins σ H s) : Inv (X.hnd e) pins σ H s :=
  have ok := I.ok
  ⟨⟨ok.mod, ok.kind, ok.glob, ok.blt, ok.above, ok.inj, ok.has, ok.cab, fun z => Bool.noConfusion z, ok.frames, ok.stk, ok.exf, ok.bs, ok.bsz, ok.noex, ok.exfs, ok.funs, ok.frf⟩, I.os, I.bare, I.base, I.loc, I.cell, I.free, I.freeC, I.pin, I.hok, I.len⟩
theorem Inv.unhnd (I : Inv (X.hnd e) pins σ H s) (ok : X.Ok) : Inv X pins σ H s := ⟨ok, I.os, I.bare, I.base, I.loc, I.cell, I.free, I.freeC, I.pin, I.hok, I.len⟩
end
def goesD (i : Nat) (D : Ends) : Ends := { nx := fun σ H => D.nx (σ.set i none) H, rt := D.rt, bk := fun σ H => D.bk (σ.set i none) H, ct := fun σ H => D.ct (σ.set i none) H }
def tTry (K : PySem.W.Frag) (S : Addr) (i : Nat) (EX : XK) (tb ts : TS) : TS := fun D σ H =>
  (∀ c H', EX c none H' → ∃ C, c = .ref C ∧ XCls K C ∧ PySem.W.mroIn K C (.ref S) = some true ∧ ∀ (a : Addr) (σ' : St), H' a = none → σ'.length = σ.length → ts (goesD i D) (σ'.set i (some (.ref a))) (upd H' a (.ext (ExcAt a C)))) ∧ tb D σ H
theorem ps_try {X : Cx} {i : Nat} {x n : Str} {S : Addr} {body : List Stmt} {b0 : Stmt} {suite : List Stmt} {np hpos pos : Pos} {tb ts : TS} {EX : XK} (f : Full X) (hN : X.N.Nodup) (hg : Gl X x) (hm : X.mg x = some (.ref S)) (xs : XSup X.K S)
    (hb : ∀ (pn : List (Addr × Obj)) (E : Value → Shared → Prop), Passes (CXx X.prog X.w) (X.tried pn E) EX → PSs (X.tried pn E) body tb)
    (hs : ∀ e : Value, PSs (X.hnd e) (b0 :: suite) ts) (hi : X.N[i]? = some n := by rfl) (hk : X.env.kindOf n = some .local := by rfl) (hd : (x == ("__debug__" : Str)) = false := by decide) :
    PS X (.Try body [.ExceptHandler (some (.Name x np)) (some n) (b0 :: suite) hpos] [] [] pos) (tTry X.K S i EX tb ts) := by
  intro pins s σ H D I h
  obtain ⟨hX, h⟩ := h
  refine wpAny_Try_except ?_
  have up : ∀ f s', SP (X.tried (X.pn ++ pins) fun e s' => ∃ a C t σ' H', e = .ref a ∧ σ'.length = σ.length ∧ Fly X pins σ' H' s' a C (some t) ∧ EX (.ref C) none H') [] D f s' → SP X pins D f s' := fun f s' q => by
    cases f with
    | next => obtain ⟨σ', H', I', q⟩ := q; exact ⟨σ', H', I'.untried, q⟩
    | brk => obtain ⟨σ', H', I', q⟩ := q; exact ⟨σ', H', I'.untried, q⟩
    | cont => obtain ⟨σ', H', I', q⟩ := q; exact ⟨σ', H', I'.untried, q⟩
    | ret u => obtain ⟨v, σ', H', I', r, q⟩ := q; exact ⟨v, σ', H', I'.untried, r, q⟩
  refine wpAny_mono (hb (X.pn ++ pins) (fun e s' => ∃ a C t σ' H', e = .ref a ∧ σ'.length = σ.length ∧ Fly X pins σ' H' s' a C (some t) ∧ EX (.ref C) none H') ?_ [] s σ H D I.tried h) (fun fl s' q => ?_) fun e s' q => ?_
  · intro pins1 σ1 H1 s1 e s' I1 hc
    obtain ⟨a, C, t, H', rfl, F, q⟩ := I1.untried.flies f hc
    exact ⟨a, C, t, σ1, H', rfl, by rw [F.inv.len, I.len], F, q⟩
  · cases fl with
    | next => exact wpAny_execs_nil (up _ _ q)
    | brk => exact up _ _ q
    | cont => exact up _ _ q
    | ret u => exact up _ _ q
  obtain ⟨a, C, t, σ', H', rfl, hl, F, q⟩ := q
  refine F.note f fun s3 t3 F3 => ?_
  obtain ⟨C', e1, xc, sub, hts⟩ := hX _ _ q
  cases e1
  obtain ⟨oe, oT, Ip, hcl, back⟩ := F3.pin
  refine wpAny_handleBy_cons (codeAny_handlers_test (wpAny_mono (pe_glob (X := X.hnd (.ref a)) hg hm (v := .ref S) rfl hd _ s3 σ' H' (fun v H'' => v = .ref S ∧ H'' = H') Ip.hnd ⟨rfl, rfl⟩) (fun u s4 z => ?_) fun _ _ z => False.elim z)) (by intro z; cases z)
  obtain ⟨v, H4, I4, r4, rfl, rfl⟩ := z
  obtain rfl : u = Value.ref S := r4
  obtain ⟨he4, F4⟩ := back _ s4 I4 ((I4.unhnd I.ok).pins_of fun p hp => I4.pin p (List.mem_append_right _ (List.mem_append_left _ hp)))
  have kin := F4.inv.kIn
  obtain ⟨hh, gg, dd, tk, os⟩ := s4
  refine xmatch kin xs sub he4 hcl ?_
  refine codeAny_handlers_suite_as ?_
  refine F4.land f fun s5 t5 F5 => ?_
  refine store_ok (i := i) (v := .ref a) F5.track hN hi (.inl hk) rfl (fun s6 I6 => ?_) (.inr hk)
  refine wpAny_mono (hs (.ref a) pins s6 _ _ (goesD i D) I6.hnd (hts a σ' F5.na.2.1 hl)) (fun fl s7 q7 => ?_) fun _ _ z => False.elim z
  cases fl with
  | next => obtain ⟨σ7, H7, I7, q7⟩ := q7; exact goes_ok (I7.unhnd I.ok) hN hi hk fun s8 I8 => ⟨_, H7, I8, q7⟩
  | brk => obtain ⟨σ7, H7, I7, q7⟩ := q7; exact goes_ok (I7.unhnd I.ok) hN hi hk fun s8 I8 => ⟨_, H7, I8, q7⟩
  | cont => obtain ⟨σ7, H7, I7, q7⟩ := q7; exact goes_ok (I7.unhnd I.ok) hN hi hk fun s8 I8 => ⟨_, H7, I8, q7⟩
  | ret u => obtain ⟨v, σ7, H7, I7, r7, q7⟩ := q7; exact goes_ok (I7.unhnd I.ok) hN hi hk fun s8 I8 => ⟨v, _, H7, I8, r7, q7⟩
end L2

namespace L2
open PySem PySem.Spec PyProof.Rows
section
variable {X : Cx}
/-! ### x is not True, for None and bools -/
end
end L2

namespace L2
open PySem PySem.Spec PyProof.Rows
/-! ### a def of the top, as a caller wants it -/
structure DefAt (K : PySem.W.Frag) (mg : Str → Option Value) (x : Str) (st : Stmt) (ps : List Str) (f : Addr) (fd : FuncData) : Prop where
  fn : Fun K x x st f fd
  mg : mg x = some (.ref f)
  bd : Binds K fd ps []
/-- a walk's kinds, one or the other -/
theorem PI.or {X : Cx} {tg it : Expr} {wi wi' : TI} (h : PI X tg it wi) (h' : PI X tg it wi') : PI X tg it (fun σ H R => wi σ H R ∨ wi' σ H R) := fun pins s σ H R I q => by
  rcases q with q | q
  · exact h pins s σ H R I q
  · exact h' pins s σ H R I q
end L2
namespace My
open PySem L2
def top (i : Nat) : Stmt := PySem.Challenge.pw_toldsums_k32_no_places_of_kept_rows.main.body.getD i (.Pass ⟨0, 0, 0, 0⟩)
/-- what is no name of the module -/
structure Txt (mg : Str → Option Value) : Prop where
  b_len : mg "len" = none
  b_sum : mg "sum" = none
  b_range : mg "range" = none
  b_tuple : mg "tuple" = none
  b_list : mg "list" = none
  b_int : mg "int" = none
  b_str : mg "str" = none
  b_bool : mg "bool" = none
  b_isinstance : mg "isinstance" = none
  b_min : mg "min" = none
  b_max : mg "max" = none
  b_zip : mg "zip" = none
  b_reversed : mg "reversed" = none
  b_sorted : mg "sorted" = none
  b_abs : mg "abs" = none
  b_all : mg "all" = none
  b_any : mg "any" = none
  b_set : mg "set" = none
  b_ValueError : mg "ValueError" = none
theorem mod_lt (x m : Int) (h : 0 < m) : 0 ≤ x % m ∧ x % m < m := ⟨Int.emod_nonneg _ (by omega), Int.emod_lt_of_pos _ h⟩
theorem mulL {x : Int} (y m : Int) (h : 0 < m) (hm : m < 2 ^ 64) : CMul (x % m) y := by
  have := mod_lt x m h
  left
  omega
theorem iteB {A B : Prop} (h : B) : if (!true) = true then A else B := h
end My
namespace L2
open PySem PySem.Spec PyProof.Rows
/-! ### the forms of a comprehension's walk that one uses -/
theorem walk_range {lo : Int} {n : Nat} {g : TG} {t : TT} {b : TB} {N : St → Hp → Prop} {σ : St} {H : Hp} (Pv : Nat → St → Hp → Prop) (h0 : Pv 0 σ H)
    (hs : ∀ i σ H, i < n → Pv i σ H → g (.int (lo + i)) σ H fun σ2 H2 => t σ2 H2 fun k H3 => if k = true then b σ2 H3 (Pv (i + 1)) else Pv (i + 1) σ2 H3) (hd : ∀ σ H, Pv n σ H → N σ H) : bWalk (Itr lo n) g t b N σ H :=
  for_range (tb := fun D σ2 H2 => t σ2 H2 fun k H3 => if k = true then b σ2 H3 D.nx else D.nx σ2 H3) (D := { nx := N, rt := fun _ _ => True }) Pv h0 hs hd
theorem walk_list {K : PySem.W.Frag} {a : Addr} {xs : List V} {g : TG} {t : TT} {b : TB} {N : St → Hp → Prop} {σ : St} {H : Hp} (Pv : Nat → St → Hp → Prop) (h0 : Pv 0 σ H) (hl : ∀ i σ H, i ≤ xs.length → Pv i σ H → SqL K H a xs)
    (hs : ∀ i x σ H, xs[i]? = some x → Pv i σ H → g x σ H fun σ2 H2 => t σ2 H2 fun k H3 => if k = true then b σ2 H3 (Pv (i + 1)) else Pv (i + 1) σ2 H3) (hd : ∀ σ H, Pv xs.length σ H → N σ H) : bWalk (Itl K a) g t b N σ H :=
  for_list (tb := fun D σ2 H2 => t σ2 H2 fun k H3 => if k = true then b σ2 H3 D.nx else D.nx σ2 H3) (D := { nx := N, rt := fun _ _ => True }) Pv h0 hl hs hd
theorem walk_zip {K : PySem.W.Frag} {b1 b2 : Bool} {a1 a2 : Addr} {xs ys : List V} {g : TG} {t : TT} {b : TB} {N : St → Hp → Prop} {σ : St} {H : Hp} (Pv : Nat → St → Hp → Prop) (h0 : Pv 0 σ H)
    (hl : ∀ i σ H, i ≤ min xs.length ys.length → Pv i σ H → SqB K b1 H a1 xs ∧ SqB K b2 H a2 ys)
    (hs : ∀ i x y p σ H, xs[i]? = some x → ys[i]? = some y → H p = none → Pv i σ H → g (.ref p) σ (upd H p (.tup [x, y])) fun σ2 H2 => t σ2 H2 fun k H3 => if k = true then b σ2 H3 (Pv (i + 1)) else Pv (i + 1) σ2 H3) (hd : ∀ σ H, Pv (min xs.length ys.length) σ H → N σ H) :
    bWalk (Itz K b1 b2 a1 a2) g t b N σ H := by
  refine ⟨fun i m σ H => m = min xs.length ys.length - i ∧ i ≤ min xs.length ys.length ∧ Pv i σ H, ⟨_, rfl, Nat.zero_le _, h0⟩, ?_⟩
  rintro i m σ H ⟨rfl, hi, p⟩
  obtain ⟨q1, q2⟩ := hl i σ H hi p
  by_cases hlt : i < min xs.length ys.length
  · have h1 : i < xs.length := by omega
    have h2 : i < ys.length := by omega
    refine .inr ⟨⟨xs, ys, _, _, q1, q2, List.getElem?_eq_getElem h1, List.getElem?_eq_getElem h2⟩, Pv (i + 1), fun σ' H' p' => ⟨_, by omega, rfl, hlt, p'⟩, fun v H' y => ?_⟩
    obtain ⟨a, x, z, rfl, hn, rfl, y1, y2⟩ := y
    exact hs i x z a σ H (y1 xs q1) (y2 ys q2) hn p
  · have e : i = min xs.length ys.length := by omega
    subst e
    exact .inl ⟨⟨xs, ys, q1, q2, by omega⟩, hd σ H p⟩
theorem atI_ints (ns : List Int) {r : Int} (h0 : 0 ≤ r) (h1 : r < ns.length) : ∃ n, atI (ns.map V.int) r = some (.int n) ∧ n ∈ ns ∧ ns[r.toNat]? = some n := by
  obtain ⟨j, rfl⟩ := Int.eq_ofNat_of_zero_le h0
  have hj : j < ns.length := by omega
  refine ⟨ns[j], atI_nat ?_, List.getElem_mem hj, ?_⟩
  · rw [List.getElem?_map, List.getElem?_eq_getElem hj]; rfl
  · rw [Int.toNat_natCast]; exact List.getElem?_eq_getElem hj
theorem size_le {n : Nat} (h : n ≤ 1000000) : n ≤ sizeLine := Nat.le_trans h (by decide)
theorem size_lt {n : Nat} (h : n ≤ 1000000) : n < sizeLine := Nat.lt_of_le_of_lt h (by decide)
end L2

namespace My
open PySem L2
def Scr (K : PySem.W.Frag) (H : Hp) (a : Addr) (scr : List Int) : Prop := SqL K H a (scr.map V.int) ∧ scr.length ≤ 63
theorem Scr.same {K : PySem.W.Frag} {H H' : Hp} {a : Addr} {scr : List Int} (h : Scr K H a scr) (s : Same H H') : Scr K H' a scr := ⟨s.seq h.1, h.2⟩
def spNum (K : PySem.W.Frag) : Sp := fun vs H Q _ => ∃ (a : Addr) (scr : List Int) (n : Int), vs = [.ref a, .int n] ∧ Scr K H a scr ∧ 0 ≤ n ∧ n < 1000000 ∧ ∀ (r : Int) (H' : Hp), 0 ≤ r → r < 1000000 → Same H H' → Q (.int r) H'
section
variable {P : Program} {w : World} {K : PySem.W.Frag} {mg : Str → Option Value} {base : Heap}
abbrev s_law_number : Stmt := top 23
theorem sc_law_number : FnScope ["script", "k", "cells", "size", "cell", "turn", "rest", "step", "seed"] ["script", "k"] (defScope s_law_number) := ⟨rfl, rfl, rfl, by decide +kernel, rfl, by decide +kernel, by decide +kernel⟩
theorem ok_number {f : Addr} {fd : FuncData} (F : Fun K "_law_number" "_law_number" s_law_number f fd) (T : Txt mg) : FnOk P w K mg base CX0 1 f fd ["script", "k"] (spNum K) := by
  refine F.ok sc_law_number (fun vs H Q E h => ?_) (fun cdv A outer s H vs Q E hr h => ?_)
  · obtain ⟨a, scr, n, rfl, _⟩ := h
    rfl
  · obtain ⟨a, scr, n, rfl, ⟨hS, hl⟩, n0, n1, k⟩ := h
    refine ⟨_, (pss_cons (ps_set (i := 2) sc_law_number.nd rfl (Or.inl rfl) (pe_op op_cat (pe_callTy (cList (K := K) rfl) (by rfl) T.b_list PyProof.Rows.Boot.«list» (pa_cons (pv 0) pa_nil)) (pe_lst (pa_cons pe_int pa_nil))))
      (pss_cons (ps_set (i := 3) sc_law_number.nd rfl (Or.inl rfl) (pe_callB (call_max2 rfl) (by rfl) T.b_max PyProof.Rows.Boot.«max» (pa_cons pe_int (pa_cons (pe_callB (cLen (K := K) rfl) (by rfl) T.b_len PyProof.Rows.Boot.«len» (pa_cons (pv 0) pa_nil)) pa_nil))))
      (pss_cons (ps_set (i := 4) sc_law_number.nd rfl (Or.inl rfl) (pe_ix (ixL (K := K) rfl) (pv 2) (pe_op op_mod (pv 1) (pv 3)) (fun _ _ => rfl)))
      (pss_cons (ps_set (i := 5) sc_law_number.nd rfl (Or.inl rfl) (pe_op op_fdivW (pv 1) (pv 3)))
      (pss_cons (ps_set (i := 6) sc_law_number.nd rfl (Or.inl rfl) (pv 4))
      (pss_cons (ps_for PassesOwn.never rfl (pi_range1 (by rfl) T.b_range (pa_cons (pe_callB (call_min2 rfl) (by rfl) T.b_min PyProof.Rows.Boot.«min» (pa_cons (pv 5) (pa_cons pe_int pa_nil))) pa_nil)) (pg_name (i := 7) sc_law_number.nd rfl (Or.inl rfl))
        (pss_one (ps_set (i := 6) sc_law_number.nd rfl (Or.inl rfl) (pe_op op_fdivW (pv 6) pe_int))))
      (pss_cons (ps_if (PW.pt (pw_and (pt_cmpR op_ge (pv 4) (pe_op op_pow pe_int pe_int) (nomark _)) (pw_and (pt_cmpR op_lt (pv 5) pe_int (nomark _)) (pw_and1 (pt_cmpR op_gt (pv 6) pe_int (nomark _))))))
        (pss_one (ps_ret (pe_op op_mod (pv 6) pe_int)))
        pss_nil)
      (pss_cons (ps_set (i := 8) sc_law_number.nd rfl (Or.inl rfl) (pe_op op_mod (pe_op op_mul (pe_op op_add (pe_op op_add (pe_op op_add (pe_op op_mod (pv 4) pe_int) pe_int) (pe_op op_mul pe_int (pv 5))) (pe_op op_mul pe_int (pv 1))) pe_int) pe_int))
      (pss_cons (ps_set (i := 8) sc_law_number.nd rfl (Or.inl rfl) (pe_op op_mod (pe_op op_add (pe_op op_add (pe_op op_mul (pv 8) (pv 8)) (pe_op op_mul pe_int (pv 5))) (pe_op op_mul pe_int (pv 1))) pe_int))
      (pss_one (ps_ret (pe_op op_mod (pe_op op_fdivW (pe_op op_mod (pe_op op_mul (pv 8) pe_int) pe_int) pe_int) pe_int)))))))))))), ?_⟩
    have hlm : (scr.map V.int).length = scr.length := List.length_map _
    -- cells = list(script) + [0]
    refine ⟨_, rfl, a, _, rfl, .inl hS, fun l1 hl1 => ⟨by show 1 ≤ sizeLine; decide, fun l2 hl2 => ⟨l1, l2, _, _, rfl, rfl, (upd_ne (ne_of_none upd_same hl2)).trans upd_same, upd_same, size_le (by rw [hlm]; show scr.length + 1 ≤ 1000000; omega), fun l3 hl3 => ?_⟩⟩⟩
    have S3 : Same H (upd (upd (upd H l1 (.lst (scr.map V.int))) l2 (.lst [.int 0])) l3 (.lst (scr.map V.int ++ [.int 0]))) := (Same.lay hl1).trans ((Same.lay hl2).trans (Same.lay hl3))
    have hc3 : upd (upd (upd H l1 (.lst (scr.map V.int))) l2 (.lst [.int 0])) l3 (.lst (scr.map V.int ++ [.int 0])) l3 = some (.lst ((scr ++ [0]).map V.int)) := by rw [upd_same, List.map_append]; rfl
    -- size = max(1, len(script))
    refine ⟨_, rfl, a, _, rfl, .inl (S3.seq hS), _, _, rfl, ?_⟩
    obtain ⟨sz, hsz⟩ : ∃ sz : Int, (if ((scr.map V.int).length : Int) > 1 then ((scr.map V.int).length : Int) else 1) = sz := ⟨_, rfl⟩
    have sz0 : 0 < sz := by rw [← hsz]; split <;> omega
    have sz1 : sz ≤ scr.length + 1 := by rw [← hsz]; split <;> omega
    rw [hsz]
    -- cell = cells[k % size]
    have ⟨m0, m1⟩ := mod_lt n sz sz0
    obtain ⟨cell, hcell, _, _⟩ := atI_ints (scr ++ [0]) m0 (by rw [List.length_append]; simp only [List.length_cons, List.length_nil]; omega)
    refine ⟨_, rfl, _, rfl, _, rfl, _, _, rfl, rfl, sz0, l3, _, _, _, rfl, rfl, SqL.of hc3, hcell, ?_⟩
    -- turn = k // size; rest = cell
    refine ⟨_, rfl, _, rfl, _, _, rfl, rfl, ⟨sz0, by omega⟩, ?_⟩
    have t0 : 0 ≤ n / sz := Int.ediv_nonneg n0 (by omega)
    refine ⟨_, rfl, ?_⟩
    -- for step in range(min(turn, 60))
    refine ⟨_, rfl, _, _, rfl, _, rfl, by split <;> omega, by split <;> omega, for_range (fun i σ H' => ∃ (r : Int) (v7 : Option V), σ = [some (.ref a), some (.int n), some (.ref l3), some (.int sz), some (.int cell), some (.int (n / sz)), some (.int r), v7, none] ∧ Same H H') ⟨_, none, rfl, S3⟩ ?_ ?_⟩
    · rintro i σ H' _ ⟨r, v7, rfl, S'⟩
      refine ⟨_, rfl, _, _, rfl, rfl, ⟨by decide, by decide⟩, ?_⟩
      exact ⟨_, _, rfl, S'⟩
    · rintro σ H' ⟨r, v7, rfl, S'⟩
      refine ⟨_, rfl, _, _, rfl, rfl, ⟨by decide, by decide, by decide⟩, _, _, rfl, rfl, _, rfl, ite2 (fun e1 => ⟨_, rfl, _, _, rfl, rfl, _, rfl, ite2 (fun e2 => ⟨_, rfl, _, _, rfl, rfl, _, rfl, ite2 (fun e3 => ?y) (fun e3 => ?n1)⟩) (fun e2 => iteF ?n2)⟩) (fun e1 => iteF ?n3)⟩
      case y =>
        refine ⟨_, rfl, _, _, rfl, rfl, (by show (0 : Int) < _; decide), ?_⟩
        have := mod_lt r 1000000 (by decide)
        exact k _ _ this.1 this.2 S'
      case n1 | n2 | n3 =>
        refine ⟨_, rfl, _, _, rfl, rfl, (by show (0 : Int) < _; decide), _, _, rfl, rfl, _, rfl, _, _, rfl, rfl, .inl ⟨by decide, by decide⟩, _, _, rfl, rfl, _, rfl, _, _, rfl, rfl, .inl ⟨by decide, by decide⟩, _, _, rfl, rfl, _, _, rfl, rfl, .inr ⟨by decide, by decide⟩, _, _, rfl, rfl, (by show (0 : Int) < _; decide), ?_⟩
        refine ⟨_, rfl, _, rfl, _, _, rfl, rfl, mulL _ _ (by decide) (by decide), _, rfl, _, _, rfl, rfl, .inl ⟨by decide, by decide⟩, _, _, rfl, rfl, _, rfl, _, _, rfl, rfl, .inl ⟨by decide, by decide⟩, _, _, rfl, rfl, _, _, rfl, rfl, (by show (0 : Int) < _; decide), ?_⟩
        refine ⟨_, rfl, _, _, rfl, rfl, mulL _ _ (by decide) (by decide), _, _, rfl, rfl, (by show (0 : Int) < _; decide), _, _, rfl, rfl, ⟨by decide, by decide⟩, _, _, rfl, rfl, (by show (0 : Int) < _; decide), ?_⟩
        exact k _ _ (mod_lt _ _ (by decide)).1 (mod_lt _ _ (by decide)).2 S'
end
end My

namespace My
open PySem L2
def spRow (K : PySem.W.Frag) : Sp := fun vs H Q _ => ∃ (a : Addr) (scr : List Int) (st most : Int), vs = [.ref a, .int st, .int most] ∧ Scr K H a scr ∧ 0 ≤ st ∧ st < 10000 ∧ 0 ≤ most ∧ most ≤ 60 ∧
  ∀ (p : Addr) (ns : List Int) (H' : Hp), H' p = some (.tup (ns.map V.int)) → ns.length ≤ most.toNat → Same H H' → Q (.ref p) H'
section
variable {P : Program} {w : World} {K : PySem.W.Frag} {mg : Str → Option Value} {base : Heap}
abbrev s_law_row : Stmt := top 24
theorem sc_law_row : FnScope ["script", "start", "most", "head", "kind", "base", "found", "k", "number", "sign", "great", "near", "some"] ["script", "start", "most"] (defScope s_law_row) := ⟨rfl, rfl, rfl, by decide +kernel, rfl, by decide +kernel, by decide +kernel⟩
theorem ok_row {f fn : Addr} {fd fdn : FuncData} (F : Fun K "_law_row" "_law_row" s_law_row f fd) (T : Txt mg) (D__law_number : DefAt K mg "_law_number" s_law_number ["script", "k"] fn fdn) : FnOk P w K mg base CX0 2 f fd ["script", "start", "most"] (spRow K) := by
  have G__law_number : FnOk P w K mg base CX0 1 fn fdn ["script", "k"] (spNum K) := ok_number D__law_number.fn T
  refine F.ok sc_law_row (fun vs H Q E h => ?_) (fun cdv A outer s H vs Q E hr h => ?_)
  · obtain ⟨a, scr, st, most, rfl, _⟩ := h
    rfl
  · obtain ⟨a, scr, st, most, rfl, hS, s0, s1, o0, o1, k⟩ := h
    refine ⟨_, (pss_cons (ps_set (i := 3) sc_law_row.nd rfl (Or.inl rfl) (pe_call G__law_number (hr.mono (by first | decide | exact Nat.le_refl _)) rfl D__law_number.mg D__law_number.fn.kp D__law_number.bd .nil pass0 (pa_cons (pv 0) (pa_cons (pv 1) pa_nil))))
      (pss_cons (ps_set (i := 4) sc_law_row.nd rfl (Or.inl rfl) (pe_op op_mod (pe_op op_fdivW (pv 3) pe_int) pe_int))
      (pss_cons (ps_set (i := 5) sc_law_row.nd rfl (Or.inl rfl) (pe_call G__law_number (hr.mono (by first | decide | exact Nat.le_refl _)) rfl D__law_number.mg D__law_number.fn.kp D__law_number.bd .nil pass0 (pa_cons (pv 0) (pa_cons (pe_op op_add (pv 1) pe_int) pa_nil))))
      (pss_cons (ps_set (i := 6) sc_law_row.nd rfl (Or.inl rfl) (pe_lst pa_nil))
      (pss_cons (ps_for PassesOwn.never rfl (pi_range1 (by rfl) T.b_range (pa_cons (pe_op op_mod (pv 3) (pe_op op_add (pv 2) pe_int)) pa_nil)) (pg_name (i := 7) sc_law_row.nd rfl (Or.inl rfl))
        (pss_cons (ps_set (i := 8) sc_law_row.nd rfl (Or.inl rfl) (pe_call G__law_number (hr.mono (by first | decide | exact Nat.le_refl _)) rfl D__law_number.mg D__law_number.fn.kp D__law_number.bd .nil pass0 (pa_cons (pv 0) (pa_cons (pe_op op_add (pe_op op_add (pv 1) pe_int) (pv 7)) pa_nil))))
        (pss_cons (ps_set (i := 9) sc_law_row.nd rfl (Or.inl rfl) (pe_ix (ixL (K := K) rfl) (pe_lst (pa_cons pe_int (pa_cons (pe_un un_neg pe_int) pa_nil))) (pe_op op_mod (pe_call G__law_number (hr.mono (by first | decide | exact Nat.le_refl _)) rfl D__law_number.mg D__law_number.fn.kp D__law_number.bd .nil pass0 (pa_cons (pv 0) (pa_cons (pe_op op_add (pe_op op_add (pv 1) pe_int) (pv 7)) pa_nil))) pe_int) (fun _ _ => rfl)))
        (pss_cons (ps_set (i := 10) sc_law_row.nd rfl (Or.inl rfl) (pe_op op_mul (pe_op op_add (pe_op op_mul (pv 8) (pe_op op_pow pe_int pe_int)) (pe_call G__law_number (hr.mono (by first | decide | exact Nat.le_refl _)) rfl D__law_number.mg D__law_number.fn.kp D__law_number.bd .nil pass0 (pa_cons (pv 0) (pa_cons (pe_op op_add (pe_op op_add (pv 1) pe_int) (pv 7)) pa_nil)))) (pv 9)))
        (pss_cons (ps_set (i := 11) sc_law_row.nd rfl (Or.inl rfl) (pe_op op_mul (pe_op op_sub (pe_op op_sub (pe_op op_pow pe_int pe_int) pe_int) (pe_op op_mod (pv 8) pe_int)) (pv 9)))
        (pss_cons (ps_set (i := 12) sc_law_row.nd rfl (Or.inl rfl) (pe_lst (pa_cons (pe_op op_sub (pe_op op_mod (pv 8) pe_int) pe_int) (pa_cons (pe_op op_mul (pe_op op_fdivW (pe_op op_mod (pv 8) pe_int) pe_int) (pv 9)) (pa_cons (pe_op op_sub (pe_op op_mod (pv 8) pe_int) pe_int) (pa_cons (pv 10) (pa_cons (pe_op op_sub (pe_op op_mod (pv 5) pe_int) pe_int) pa_nil)))))))
        (pss_cons (ps_expr (pe_bm PySem.F.plainAttrs_list PySem.F.slot_list_extend PySem.F.type_list_extend mt_extend (pv 12) (pa_cons (pe_lst (pa_cons (pe_op op_mul (pe_op op_add (pe_op op_mod (pv 5) pe_int) pe_int) (pe_ix (ixL (K := K) rfl) (pe_lst (pa_cons pe_int (pa_cons (pe_un un_neg pe_int) pa_nil))) (pe_op op_mod (pv 7) pe_int) (fun _ _ => rfl))) (pa_cons (pv 11) (pa_cons (pe_op op_mul (pe_op op_fdivW (pe_op op_mod (pv 8) pe_int) pe_int) (pv 10)) pa_nil)))) pa_nil)))
        (pss_one (ps_expr (pe_bm PySem.F.plainAttrs_list PySem.F.slot_list_append PySem.F.type_list_append mt_append (pv 6) (pa_cons (pe_ix (ixL (K := K) rfl) (pv 12) (pv 4) (fun _ _ => rfl)) pa_nil)))))))))))
      (pss_one (ps_ret (pe_callTy (cTuple (K := K) rfl) (by rfl) T.b_tuple PyProof.Rows.Boot.«tuple» (pa_cons (pv 6) pa_nil))))))))), ?_⟩
    -- head, kind, base
    refine ⟨_, rfl, _, rfl, a, scr, _, rfl, hS, s0, by omega, fun hd H1 hd0 hd1 S1 => ?_⟩
    refine ⟨_, rfl, _, _, rfl, rfl, ⟨by decide, by decide⟩, _, _, rfl, rfl, (by show (0 : Int) < _; decide), ?_⟩
    refine ⟨_, rfl, _, rfl, _, _, rfl, rfl, a, scr, _, rfl, hS.same S1, by omega, by omega, fun bs H2 bs0 bs1 S2' => ?_⟩
    have S2 := S1.trans S2'
    -- found = []
    refine ⟨by show 0 ≤ sizeLine; decide, fun l hl => ?_⟩
    have S3 := S2.trans (Same.lay (o := .lst []) hl)
    have hnl : H l = none := S2.free hl
    have ⟨kd0, kd1⟩ := mod_lt (hd / 61) 8 (by decide)
    have ⟨m0, m1⟩ := mod_lt hd (most + 1) (by omega)
    -- for k in range(head % (most + 1))
    refine ⟨_, rfl, _, rfl, _, _, rfl, rfl, _, _, rfl, rfl, (by show (0 : Int) < most + 1; omega), _, rfl, by omega, by omega, for_range (n := (hd % (most + 1)).toNat) (fun i σ H' => ∃ (v7 v8 v9 v10 v11 v12 : Option V) (ns : List Int), σ = [some (.ref a), some (.int st), some (.int most), some (.int hd), some (.int (hd / 61 % 8)), some (.int bs), some (.ref l), v7, v8, v9, v10, v11, v12] ∧ H' l = some (.lst (ns.map V.int)) ∧ ns.length = i ∧ Same H H') ?_ ?_ ?_⟩
    · exact ⟨none, none, none, none, none, none, [], rfl, upd_same, rfl, S3⟩
    · rintro i σ H' hi ⟨v7, v8, v9, v10, v11, v12, ns, rfl, ha, hn, S'⟩
      -- number
      refine ⟨_, rfl, _, rfl, _, _, rfl, rfl, _, rfl, _, _, rfl, rfl, a, scr, _, rfl, hS.same S', by omega, by omega, fun nu H4 nu0 nu1 T4 => ?_⟩
      have S4 := S'.trans T4
      -- sign = [1, -1][.. % 2]
      refine ⟨1, rfl, by show 2 ≤ sizeLine; decide, fun p hp => ⟨_, rfl, _, rfl, _, _, rfl, rfl, _, rfl, _, _, rfl, rfl, a, scr, _, rfl, (hS.same S4).same (Same.lay hp), by omega, by omega, fun r1 H5 r10 r11 T5 => ?_⟩⟩
      have ⟨q0, q1⟩ := mod_lt r1 2 (by decide)
      obtain ⟨sg, hsg, hsm, _⟩ := atI_ints [1, -1] q0 q1
      have hsg' : sg = 1 ∨ sg = -1 := by simpa using hsm
      refine ⟨_, _, rfl, rfl, (by show (0 : Int) < _; decide), p, _, _, _, rfl, rfl, SqL.of (T5 _ _ upd_same), hsg, ?_⟩
      have T5' : Same H' H5 := T4.trans ((Same.lay hp).trans T5)
      have S5 := S'.trans T5'
      -- great
      refine ⟨_, rfl, _, _, rfl, rfl, ⟨by decide, by decide, by decide⟩, _, _, rfl, rfl, .inl (by omega), _, rfl, _, rfl, _, _, rfl, rfl, _, rfl, _, _, rfl, rfl, a, scr, _, rfl, hS.same S5, by omega, by omega, fun r2 H6 r20 r21 T6 => ?_⟩
      have S6 := S5.trans T6
      refine ⟨_, _, rfl, rfl, _, rfl, _, _, rfl, rfl, .inr (by omega), ?_⟩
      -- near
      refine ⟨_, _, rfl, rfl, ⟨by decide, by decide, by decide⟩, _, _, rfl, rfl, _, rfl, _, _, rfl, rfl, (by show (0 : Int) < _; decide), _, _, rfl, rfl, _, rfl, _, _, rfl, rfl, .inr (by omega), ?_⟩
      -- some = [..]
      have md := mod_lt nu 3 (by decide)
      refine ⟨_, rfl, _, _, rfl, rfl, (by show (0 : Int) < _; decide), _, _, rfl, rfl, ?_⟩
      refine ⟨_, rfl, _, _, rfl, rfl, (by show (0 : Int) < _; decide), _, _, rfl, rfl, ⟨by decide, by decide⟩, _, rfl, _, _, rfl, rfl, .inr (by omega), ?_⟩
      refine ⟨_, rfl, _, _, rfl, rfl, (by show (0 : Int) < _; decide), _, _, rfl, rfl, _, rfl, _, rfl, _, _, rfl, rfl, (by show (0 : Int) < _; decide), _, _, rfl, rfl, by show 5 ≤ sizeLine; decide, fun q hq => ?_⟩
      -- some.extend([..])
      refine ⟨_, rfl, .inl ⟨rfl, _, SqL.of upd_same⟩, ?_⟩
      refine ⟨_, rfl, _, _, rfl, rfl, (by show (0 : Int) < _; decide), _, _, rfl, rfl, 1, rfl, by show 2 ≤ sizeLine; decide, fun p2 hp2 => ⟨_, rfl, _, _, rfl, rfl, (by show (0 : Int) < _; decide), ?_⟩⟩
      have ⟨u0, u1⟩ := mod_lt (0 + (i : Int)) 2 (by decide)
      obtain ⟨sg2, hsg2, hsm2, _⟩ := atI_ints [1, -1] u0 u1
      have hsg2' : sg2 = 1 ∨ sg2 = -1 := by simpa using hsm2
      refine ⟨p2, _, _, _, rfl, rfl, SqL.of upd_same, hsg2, _, _, rfl, rfl, .inr (by omega), _, rfl, ?_⟩
      refine ⟨_, rfl, _, _, rfl, rfl, (by show (0 : Int) < _; decide), _, _, rfl, rfl, ⟨by decide, by decide⟩, _, rfl, _, _, rfl, rfl, .inl ?_, by show 3 ≤ sizeLine; decide, fun p3 hp3 => ?_⟩
      · have := mod_lt nu 5 (by decide)
        omega
      have hq' : H' q = none := T5'.free (T6.free hq)
      have hp2' := hp2
      have hp3' := hp3
      refine ⟨q, p3, _, _, rfl, rfl, (upd_ne (ne_of_none ((upd_ne (ne_of_none upd_same hp2)).trans upd_same) hp3)).trans ((upd_ne (ne_of_none upd_same hp2)).trans upd_same), upd_same, by show 5 + 3 ≤ sizeLine; decide, ?_⟩
      -- found.append(some[kind])
      have T7 : Same H' (upd (upd (upd (upd H6 q (.lst [.int (nu % 7 - 3), .int (nu % 3 / 2 * sg), .int (nu % 199 - 99), .int ((nu * 10 ^ Int.toNat 6 + r2) * sg), .int (bs % 19 - 9)])) p2 (.lst [.int 1, .int (-1)])) p3 (.lst [.int ((bs % 9 + 1) * sg2), .int ((10 ^ Int.toNat 12 - 1 - nu % 3) * sg), .int (nu % 5 / 4 * ((nu * 10 ^ Int.toNat 6 + r2) * sg))])) q (.lst ([.int (nu % 7 - 3), .int (nu % 3 / 2 * sg), .int (nu % 199 - 99), .int ((nu * 10 ^ Int.toNat 6 + r2) * sg), .int (bs % 19 - 9)] ++ [.int ((bs % 9 + 1) * sg2), .int ((10 ^ Int.toNat 12 - 1 - nu % 3) * sg), .int (nu % 5 / 4 * ((nu * 10 ^ Int.toNat 6 + r2) * sg))]))) := fun b o e => by
        rw [upd_ne (ne_of_none e hq')]
        exact Same.lay hp3 _ _ (Same.lay hp2 _ _ (Same.lay hq _ _ (T6 _ _ (T5' _ _ e))))
      obtain ⟨sm, hsm8, _, _⟩ := atI_ints [nu % 7 - 3, nu % 3 / 2 * sg, nu % 199 - 99, (nu * 10 ^ Int.toNat 6 + r2) * sg, bs % 19 - 9, (bs % 9 + 1) * sg2, (10 ^ Int.toNat 12 - 1 - nu % 3) * sg, nu % 5 / 4 * ((nu * 10 ^ Int.toNat 6 + r2) * sg)] kd0 kd1
      refine ⟨_, rfl, .inl ⟨rfl, _, SqL.of (T7 _ _ ha)⟩, _, rfl, _, rfl, q, _, _, _, rfl, rfl, SqL.of upd_same, hsm8, l, _, _, rfl, rfl, T7 _ _ ha, size_lt (by rw [List.length_map]; omega), ?_⟩
      refine ⟨_, _, _, _, _, _, ns ++ [sm], rfl, by rw [upd_same, List.map_append]; rfl, by rw [List.length_append, hn]; rfl, fun b o e => ?_⟩
      rw [upd_ne (ne_of_none e hnl)]
      exact T7 _ _ (S' _ _ e)
    · rintro σ H' ⟨v7, v8, v9, v10, v11, v12, ns, rfl, ha, hn, S'⟩
      exact ⟨_, rfl, l, _, rfl, .inl ⟨SqL.of ha, fun q hq => k q ns _ upd_same (by omega) (S'.trans (Same.lay hq))⟩⟩
end
end My

namespace My
open PySem L2
/-! ### the mathematics: sums ahead, stretches -/
def psum (ns : List Int) (k : Nat) : Int := (ns.take k).sum
def psums (ns : List Int) (i : Nat) : List Int := (List.range (i + 1)).map (psum ns)
theorem psum_succ {ns : List Int} {i : Nat} {n : Int} (h : ns[i]? = some n) : psum ns (i + 1) = psum ns i + n := by
  unfold psum
  rw [List.take_add_one, h, List.sum_append]
  simp
theorem psums_last (ns : List Int) (i : Nat) : psums ns i = (List.range i).map (psum ns) ++ [psum ns i] := by
  unfold psums
  rw [List.range_succ, List.map_append]; rfl
theorem psums_succ (ns : List Int) (i : Nat) : psums ns (i + 1) = psums ns i ++ [psum ns (i + 1)] := by
  rw [psums_last ns (i + 1)]; rfl
theorem psums_len (ns : List Int) (i : Nat) : (psums ns i).length = i + 1 := by unfold psums; simp
theorem psums_get (ns : List Int) (n k : Nat) (h : k ≤ n) : (psums ns n)[k]? = some (psum ns k) := by
  unfold psums
  rw [List.getElem?_map, List.getElem?_range (by omega)]; rfl
/-- the stretches from the place lo on, j of them -/
def from1 (lo j : Nat) : List (Nat × Nat) := (List.range j).map fun t => (lo, lo + 1 + t)
theorem from1_succ (lo j : Nat) : from1 lo (j + 1) = from1 lo j ++ [(lo, lo + 1 + j)] := by
  unfold from1
  rw [List.range_succ, List.map_append]; rfl
/-- the stretches of a row of n numbers that begin ahead of the place i -/
def prsTo (n i : Nat) : List (Nat × Nat) := (List.range i).flatMap fun lo => from1 lo (n - lo)
def prs (n : Nat) : List (Nat × Nat) := prsTo n n
theorem prsTo_succ (n i : Nat) : prsTo n (i + 1) = prsTo n i ++ from1 i (n - i) := by
  unfold prsTo
  rw [List.range_succ, List.flatMap_append]; simp
theorem prs_mem {n lo hi : Nat} (h : (lo, hi) ∈ prs n) : lo < hi ∧ hi ≤ n := by
  unfold prs prsTo at h
  obtain ⟨l, h1, h2⟩ := List.mem_flatMap.mp h
  unfold from1 at h2
  obtain ⟨t, h3, h4⟩ := List.mem_map.mp h2
  have e1 : l = lo := congrArg Prod.fst h4
  have e2 : l + 1 + t = hi := congrArg Prod.snd h4
  have := List.mem_range.mp h1
  have := List.mem_range.mp h3
  omega
def hit (ns : List Int) (tot : Int) (p : Nat × Nat) : Bool := decide (psum ns p.2 - psum ns p.1 = tot)
theorem filter_take_succ {α : Type} (f : α → Bool) {l : List α} {i : Nat} {x : α} (h : l[i]? = some x) : (l.take (i + 1)).filter f = (l.take i).filter f ++ (if f x then [x] else []) := by
  rw [List.take_add_one, h, List.filter_append]
  cases hx : f x <;> simp [hx]
/-! ### lists of pairs, of triples, on the heap -/
/-- a list whose items are tuples: of each the values by g -/
def TupsAt {α : Type} (g : α → List V) (H : Hp) (xs : List V) (ps : List α) : Prop := xs.length = ps.length ∧ ∀ (i : Nat) (p : α), ps[i]? = some p → ∃ a, xs[i]? = some (.ref a) ∧ H a = some (.tup (g p))
theorem TupsAt.nil {α : Type} {g : α → List V} {H : Hp} : TupsAt g H [] [] := ⟨rfl, fun i p h => by simp at h⟩
theorem TupsAt.mono {α : Type} {g : α → List V} {H H' : Hp} {xs : List V} {ps : List α} (h : TupsAt g H xs ps) (k : ∀ a zs, H a = some (.tup zs) → H' a = some (.tup zs)) : TupsAt g H' xs ps :=
  ⟨h.1, fun i p e => let ⟨a, h1, h2⟩ := h.2 i p e; ⟨a, h1, k a _ h2⟩⟩
theorem TupsAt.snoc {α : Type} {g : α → List V} {H : Hp} {xs : List V} {ps : List α} {a : Addr} {p : α} (h : TupsAt g H xs ps) (ha : H a = some (.tup (g p))) : TupsAt g H (xs ++ [.ref a]) (ps ++ [p]) := by
  refine ⟨by rw [List.length_append, List.length_append, h.1]; rfl, fun i q e => ?_⟩
  by_cases hi : i < ps.length
  · rw [List.getElem?_append_left hi] at e
    obtain ⟨b, h1, h2⟩ := h.2 i q e
    exact ⟨b, by rw [List.getElem?_append_left (by rw [h.1]; exact hi)]; exact h1, h2⟩
  · have hl : i < (ps ++ [p]).length := (List.getElem?_eq_some_iff.mp e).1
    rw [List.length_append] at hl
    have hi2 : i = ps.length := by simp only [List.length_cons, List.length_nil] at hl; omega
    subst hi2
    rw [List.getElem?_append_right (Nat.le_refl _)] at e
    simp only [Nat.sub_self, List.getElem?_cons_zero, Option.some.injEq] at e
    subst e
    refine ⟨a, ?_, ha⟩
    rw [← h.1, List.getElem?_append_right (Nat.le_refl _)]; simp
def g2 (p : Nat × Nat) : List V := [.int p.1, .int p.2]
def g3 (ns : List Int) (p : Nat × Nat) : List V := [.int p.1, .int p.2, .int (psum ns p.2 - psum ns p.1)]
theorem same_tup {H H' : Hp} (s : Same H H') : ∀ a zs, H a = some (.tup zs) → H' a = some (.tup zs) := fun a zs e => s _ _ e
/-- a row of ints -/
def RowAt (H : Hp) (p : Addr) (ns : List Int) : Prop := H p = some (.tup (ns.map V.int)) ∧ ns.length ≤ 1000
def spSums : Sp := fun vs H Q _ => ∃ p ns, vs = [.ref p] ∧ RowAt H p ns ∧ ∀ q H', H' q = some (.tup ((psums ns ns.length).map V.int)) → Same H H' → Q (.ref q) H'
section
variable {P : Program} {w : World} {K : PySem.W.Frag} {mg : Str → Option Value} {base : Heap}
abbrev s_sums_ahead : Stmt := top 8
theorem sc_sums_ahead : FnScope ["row", "ahead", "number"] ["row"] (defScope s_sums_ahead) := ⟨rfl, rfl, rfl, by decide +kernel, rfl, by decide +kernel, by decide +kernel⟩
theorem ok_sums_ahead {f : Addr} {fd : FuncData} (F : Fun K "sums_ahead" "sums_ahead" s_sums_ahead f fd) (T : Txt mg) : FnOk P w K mg base CX0 1 f fd ["row"] spSums := by
  refine F.ok sc_sums_ahead (fun vs H Q E h => ?_) (fun cdv A outer s H vs Q E hr h => ?_)
  · obtain ⟨p, ns, rfl, _⟩ := h
    rfl
  · obtain ⟨p, ns, rfl, ⟨hp, hl⟩, k⟩ := h
    refine ⟨_, (pss_cons (ps_set (i := 1) sc_sums_ahead.nd rfl (Or.inl rfl) (pe_lst (pa_cons pe_int pa_nil)))
      (pss_cons (ps_for PassesOwn.never rfl (piT (K := K) rfl (pv 0)) (pg_name (i := 2) sc_sums_ahead.nd rfl (Or.inl rfl))
        (pss_one (ps_expr (pe_bm PySem.F.plainAttrs_list PySem.F.slot_list_append PySem.F.type_list_append mt_append (pv 1) (pa_cons (pe_op op_add (pe_ix (ixL (K := K) rfl) (pv 1) (pe_un un_neg pe_int) (fun _ _ => rfl)) (pv 2)) pa_nil)))))
      (pss_one (ps_ret (pe_callTy (cTuple (K := K) rfl) (by rfl) T.b_tuple PyProof.Rows.Boot.«tuple» (pa_cons (pv 1) pa_nil)))))), ?_⟩
    refine ⟨by show 1 ≤ sizeLine; decide, fun l hl1 => ?_⟩
    have S1 : Same H (upd H l (.lst [.int 0])) := Same.lay hl1
    refine ⟨_, rfl, p, rfl, ⟨_, SqT.of (S1 _ _ hp)⟩, for_tup (xs := ns.map V.int) (fun i σ H' => ∃ v2 : Option V, σ = [some (.ref p), some (.ref l), v2] ∧ Same H H' ∧ H' l = some (.lst ((psums ns i).map V.int))) ?_ ?_ ?_ ?_⟩
    · exact ⟨none, rfl, S1, upd_same⟩
    · rintro i σ H' _ ⟨v2, rfl, S', _⟩
      exact SqT.of (S' _ _ hp)
    · rintro i x σ H' hx ⟨v2, rfl, S', ha⟩
      obtain ⟨n, hn, rfl⟩ : ∃ n, ns[i]? = some n ∧ V.int n = x := by rw [List.getElem?_map] at hx; exact Option.map_eq_some_iff.mp hx
      have hi : i < ns.length := (List.getElem?_eq_some_iff.mp hn).1
      have ha' : H' l = some (.lst (((List.range i).map (psum ns)).map V.int ++ [.int (psum ns i)])) := by rw [ha, psums_last, List.map_append]; rfl
      refine ⟨_, rfl, .inl ⟨rfl, _, SqL.of ha⟩, _, rfl, 1, rfl, l, _, _, _, rfl, rfl, SqL.of ha', atI_last _ _, _, rfl, _, _, rfl, rfl, l, _, _, rfl, rfl, ha, size_lt (by rw [List.length_map, psums_len]; omega), ?_⟩
      refine ⟨_, rfl, fun b o e => by rw [upd_ne (ne_of_none e hl1)]; exact S' b o e, ?_⟩
      rw [upd_same, psums_succ, List.map_append, psum_succ hn]; rfl
    · rintro σ H' ⟨v2, rfl, S', ha⟩
      rw [List.length_map] at ha
      exact ⟨_, rfl, l, _, rfl, .inl ⟨SqL.of ha, fun q hq => k q _ upd_same (S'.trans (Same.lay hq))⟩⟩
def spStr : Sp := fun vs H Q _ => ∃ p ns, vs = [.ref p] ∧ RowAt H p ns ∧ ∀ q xs H', H' q = some (.lst xs) → TupsAt g2 H' xs (prs ns.length) → Same H H' → Q (.ref q) H'
abbrev s_stretches_of : Stmt := top 9
theorem sc_stretches_of : FnScope ["row", "many"] ["row"] (defScope s_stretches_of) := ⟨rfl, rfl, rfl, by decide +kernel, rfl, by decide +kernel, by decide +kernel⟩
theorem ok_stretches_of {f : Addr} {fd : FuncData} (F : Fun K "stretches_of" "stretches_of" s_stretches_of f fd) (T : Txt mg) : FnOk P w K mg base CX0 1 f fd ["row"] spStr := by
  refine F.ok sc_stretches_of (fun vs H Q E h => ?_) (fun cdv A outer s H vs Q E hr h => ?_)
  · obtain ⟨p, ns, rfl, _⟩ := h
    rfl
  · obtain ⟨p, ns, rfl, ⟨hp, hl⟩, k⟩ := h
    refine ⟨_, (pss_cons (ps_set (i := 1) sc_stretches_of.nd rfl (Or.inr rfl) (pe_callB (cLen (K := K) rfl) (by rfl) T.b_len PyProof.Rows.Boot.«len» (pa_cons (pv 0) pa_nil)))
      (pss_one (ps_ret (pe_comp (N := ["low", "high", "many"]) (cap := [none, none, some 1]) rfl (show blkOk ["row", "many"] (defScope s_stretches_of) ["low", "high", "many"] [none, none, some 1] _ = true by decide +kernel) (pi_range1 (by rfl) T.b_range (pa_cons (pv 1) pa_nil)) (fun cl C s3 H3 fp => ⟨(pg_name (i := 0) (show (["low", "high", "many"] : List Str).Nodup by decide +kernel) rfl (Or.inl rfl)), pts_nil, fun it acc => (paf_for rfl rfl rfl (pi_range2 (by rfl) T.b_range (pa_cons (pe_op op_add (pv 0) pe_int) (pa_cons (pe_op op_add (pv 2) pe_int) pa_nil))) (pg_name (i := 1) (show (["low", "high", "many"] : List Str).Nodup by decide +kernel) rfl (Or.inl rfl)) pts_nil (fun it1 => (paf_emit rfl (pe_tup (pa_cons (pv 0) (pa_cons (pv 1) pa_nil))))))⟩))))), ?_⟩
    refine ⟨_, rfl, p, _, rfl, .inr (SqT.of hp), ?_⟩
    have hlm : (ns.map V.int).length = ns.length := List.length_map _
    refine ⟨_, rfl, _, rfl, by omega, by omega, fun acc hacc => ?_⟩
    refine walk_range (fun i σ H' => ∃ (v1 v2 : Option V) (xs : List V), σ = [v1, v2, some (.int ((ns.map V.int).length : Int))] ∧ H' acc = some (.lst xs) ∧ TupsAt g2 H' xs (prsTo ns.length i) ∧ xs.length ≤ i * 1000 ∧ Same H H') ?_ ?_ ?_
    · exact ⟨none, none, [], rfl, upd_same, TupsAt.nil, by simp, Same.lay hacc⟩
    · rintro i σ H' hi ⟨v1, v2, xs, rfl, ha, ht, hx, S'⟩
      have hi' : i < ns.length := by omega
      refine ⟨_, rfl, _, _, rfl, rfl, _, rfl, _, _, rfl, rfl, _, _, rfl, ⟨by omega, by omega, by omega, by omega⟩, ?_⟩
      have ej : ((((ns.map V.int).length : Int) + 1) - (0 + (i : Int) + 1)).toNat = ns.length - i := by omega
      rw [ej]
      refine walk_range (fun j σ H' => ∃ (v2 : Option V) (xs : List V), σ = [some (.int (0 + (i : Int))), v2, some (.int ((ns.map V.int).length : Int))] ∧ H' acc = some (.lst xs) ∧ TupsAt g2 H' xs (prsTo ns.length i ++ from1 i j) ∧ xs.length ≤ i * 1000 + j ∧ Same H H') ?_ ?_ ?_
      · exact ⟨v2, xs, rfl, ha, by simpa [from1] using ht, by omega, S'⟩
      · rintro j σ H2 hj ⟨v2, xs, rfl, ha, ht, hx, S'⟩
        refine ⟨_, rfl, _, rfl, by show 2 ≤ sizeLine; decide, fun a hna => ⟨xs, (upd_ne (ne_of_none ha hna)).trans ha, size_lt (by omega), _, _, rfl, upd_same, ?_, by rw [List.length_append]; simp only [List.length_cons, List.length_nil]; omega, ?_⟩⟩
        · have e1 : (0 : Int) + (i : Int) = ((i : Nat) : Int) := by omega
          have e2 : (0 : Int) + (i : Int) + 1 + (j : Int) = ((i + 1 + j : Nat) : Int) := by omega
          rw [from1_succ, ← List.append_assoc]
          refine TupsAt.snoc (ht.mono fun b zs e => ?_) ?_
          · rw [upd_ne (ne_of e ha (by intro z; cases z)), upd_ne (ne_of_none e hna)]; exact e
          · rw [upd_ne (Ne.symm (ne_of_none ha hna)), upd_same, e2, e1]; rfl
        · exact fun b o e => by rw [upd_ne (ne_of_none e hacc), upd_ne (ne_of_none (S' b o e) hna)]; exact S' b o e
      · rintro σ H2 ⟨v2, xs, rfl, ha, ht, hx, S'⟩
        exact ⟨_, _, xs, rfl, ha, by rw [prsTo_succ]; exact ht, by omega, S'⟩
    · rintro σ H' ⟨v1, v2, xs, rfl, ha, ht, hx, S'⟩
      have e : (((ns.map V.int).length : Int)).toNat = ns.length := by omega
      rw [e] at ht
      exact k acc xs H' ha ht S'
theorem prsTo_len (n : Nat) (hn : n ≤ 1000) : ∀ i, i ≤ n → (prsTo n i).length ≤ i * 1000
  | 0, _ => by simp [prsTo]
  | i + 1, h => by
    have ih := prsTo_len n hn i (by omega)
    rw [prsTo_succ, List.length_append]
    have : (from1 i (n - i)).length = n - i := by unfold from1; simp
    omega
theorem prs_len (n : Nat) (hn : n ≤ 1000) : (prs n).length ≤ 1000000 := by
  have := prsTo_len n hn n (Nat.le_refl _)
  unfold prs
  omega
end
end My

namespace My
open PySem L2
/-- a list of pairs: a sum, and a stretch, a tuple of its own -/
def SumsAt (ns : List Int) (H : Hp) (xs : List V) (ps : List (Nat × Nat)) : Prop := xs.length = ps.length ∧ ∀ (i : Nat) (p : Nat × Nat), ps[i]? = some p → ∃ a b, xs[i]? = some (.ref a) ∧ H a = some (.tup [.int (psum ns p.2 - psum ns p.1), .ref b]) ∧ H b = some (.tup (g2 p))
theorem SumsAt.nil {ns : List Int} {H : Hp} : SumsAt ns H [] [] := ⟨rfl, fun i p h => by simp at h⟩
theorem SumsAt.mono {ns : List Int} {H H' : Hp} {xs : List V} {ps : List (Nat × Nat)} (h : SumsAt ns H xs ps) (k : ∀ a zs, H a = some (.tup zs) → H' a = some (.tup zs)) : SumsAt ns H' xs ps :=
  ⟨h.1, fun i p e => let ⟨a, b, h1, h2, h3⟩ := h.2 i p e; ⟨a, b, h1, k a _ h2, k b _ h3⟩⟩
theorem SumsAt.snoc {ns : List Int} {H : Hp} {xs : List V} {ps : List (Nat × Nat)} {a b : Addr} {p : Nat × Nat} (h : SumsAt ns H xs ps) (ha : H a = some (.tup [.int (psum ns p.2 - psum ns p.1), .ref b])) (hb : H b = some (.tup (g2 p))) : SumsAt ns H (xs ++ [.ref a]) (ps ++ [p]) := by
  refine ⟨by rw [List.length_append, List.length_append, h.1]; rfl, fun i q e => ?_⟩
  by_cases hi : i < ps.length
  · rw [List.getElem?_append_left hi] at e
    obtain ⟨c, c2, h1, h2, h3⟩ := h.2 i q e
    exact ⟨c, c2, by rw [List.getElem?_append_left (by rw [h.1]; exact hi)]; exact h1, h2, h3⟩
  · have hl : i < (ps ++ [p]).length := (List.getElem?_eq_some_iff.mp e).1
    rw [List.length_append] at hl
    have hi2 : i = ps.length := by simp only [List.length_cons, List.length_nil] at hl; omega
    subst hi2
    rw [List.getElem?_append_right (Nat.le_refl _)] at e
    simp only [Nat.sub_self, List.getElem?_cons_zero, Option.some.injEq] at e
    subst e
    refine ⟨a, b, ?_, ha, hb⟩
    rw [← h.1, List.getElem?_append_right (Nat.le_refl _)]; simp
/-- the stretches whose sum a test lets through -/
def hb (ns : List Int) (t : Int → Bool) (p : Nat × Nat) : Bool := t (psum ns p.2 - psum ns p.1)
def hitsBy (ns : List Int) (t : Int → Bool) : List (Nat × Nat) := (prs ns.length).filter (hb ns t)
theorem take_succ {α : Type} {l : List α} {i : Nat} {x : α} (h : l[i]? = some x) : l.take (i + 1) = l.take i ++ [x] := by
  rw [List.take_add_one, h]; rfl
def spSummed : Sp := fun vs H Q _ => ∃ p ns, vs = [.ref p] ∧ RowAt H p ns ∧ ∀ q xs H', H q = none → H' q = some (.lst xs) → SumsAt ns H' xs (prs ns.length) → Same H H' → Q (.ref q) H'
section
variable {P : Program} {w : World} {K : PySem.W.Frag} {mg : Str → Option Value} {base : Heap}
abbrev s_summed_stretches : Stmt := top 10
theorem sc_summed_stretches : FnScope ["row", "ahead"] ["row"] (defScope s_summed_stretches) := ⟨rfl, rfl, rfl, by decide +kernel, rfl, by decide +kernel, by decide +kernel⟩
theorem ok_summed_stretches {f fa fs : Addr} {fd fda fds : FuncData} (F : Fun K "summed_stretches" "summed_stretches" s_summed_stretches f fd) (T : Txt mg) (D_sums_ahead : DefAt K mg "sums_ahead" s_sums_ahead ["row"] fa fda) (D_stretches_of : DefAt K mg "stretches_of" s_stretches_of ["row"] fs fds) :
    FnOk P w K mg base CX0 2 f fd ["row"] spSummed := by
  have G_sums_ahead : FnOk P w K mg base CX0 1 fa fda ["row"] spSums := ok_sums_ahead D_sums_ahead.fn T
  have G_stretches_of : FnOk P w K mg base CX0 1 fs fds ["row"] spStr := ok_stretches_of D_stretches_of.fn T
  refine F.ok sc_summed_stretches (fun vs H Q E h => ?_) (fun cdv A outer s H vs Q E hr h => ?_)
  · obtain ⟨p, ns, rfl, _⟩ := h
    rfl
  · obtain ⟨p, ns, rfl, ⟨hp, hl⟩, k⟩ := h
    refine ⟨_, (pss_cons (ps_set (i := 1) sc_summed_stretches.nd rfl (Or.inr rfl) (pe_call G_sums_ahead (hr.mono (by first | decide | exact Nat.le_refl _)) rfl D_sums_ahead.mg D_sums_ahead.fn.kp D_sums_ahead.bd .nil pass0 (pa_cons (pv 0) pa_nil)))
      (pss_one (ps_ret (pe_comp (N := ["low", "high", "ahead"]) (cap := [none, none, some 1]) rfl (show blkOk ["row", "ahead"] (defScope s_summed_stretches) ["low", "high", "ahead"] [none, none, some 1] _ = true by decide +kernel) (piL (K := K) rfl (pe_call G_stretches_of (hr.mono (by first | decide | exact Nat.le_refl _)) rfl D_stretches_of.mg D_stretches_of.fn.kp D_stretches_of.bd .nil pass0 (pa_cons (pv 0) pa_nil))) (fun cl C s3 H3 fp => ⟨(pgT (K := K) (n := 2) rfl rfl (pgs_cons (pg_name (i := 0) (show (["low", "high", "ahead"] : List Str).Nodup by decide +kernel) rfl (Or.inl rfl)) (pgs_cons (pg_name (i := 1) (show (["low", "high", "ahead"] : List Str).Nodup by decide +kernel) rfl (Or.inl rfl)) pgs_nil))), pts_nil, fun it acc => (paf_emit rfl (pe_tup (pa_cons (pe_op op_sub (pe_ix (ixT (K := K) rfl) (pv 2) (pv 1) (fun _ _ => rfl)) (pe_ix (ixT (K := K) rfl) (pv 2) (pv 0) (fun _ _ => rfl))) (pa_cons (pe_tup (pa_cons (pv 0) (pa_cons (pv 1) pa_nil))) pa_nil))))⟩))))), ?_⟩
    refine ⟨_, rfl, p, ns, rfl, ⟨hp, hl⟩, fun q1 H1 hq1 S1 => ?_⟩
    refine ⟨_, rfl, p, ns, rfl, ⟨S1 _ _ hp, hl⟩, fun q2 ys H2 hq2 ht2 S2 => ⟨q2, rfl, ⟨_, SqL.of hq2⟩, fun acc hacc => ?_⟩⟩
    have hq1' := S2 _ _ hq1
    have plen := prs_len ns.length hl
    refine walk_list (xs := ys) (fun i σ H' => ∃ (v1 v2 : Option V) (xs : List V), σ = [v1, v2, some (.ref q1)] ∧ H' acc = some (.lst xs) ∧ SumsAt ns H' xs ((prs ns.length).take i) ∧ Same H2 H') ?_ ?_ ?_ ?_
    · exact ⟨none, none, [], rfl, upd_same, SumsAt.nil, Same.lay hacc⟩
    · rintro i σ H' _ ⟨v1, v2, xs, rfl, ha, ht, S'⟩
      exact SqL.of (S' _ _ hq2)
    · rintro i y σ H' hy ⟨v1, v2, xs, rfl, ha, ht, S'⟩
      have hi : i < (prs ns.length).length := by rw [← ht2.1]; exact (List.getElem?_eq_some_iff.mp hy).1
      obtain ⟨a, e1, e2⟩ := ht2.2 i _ (List.getElem?_eq_getElem hi)
      rw [hy] at e1
      have e1 : y = .ref a := Option.some.inj e1
      subst e1
      obtain ⟨⟨lo, hi'⟩, hpr⟩ : ∃ pr, (prs ns.length)[i] = pr := ⟨_, rfl⟩
      have hg : (prs ns.length)[i]? = some (lo, hi') := by rw [List.getElem?_eq_getElem hi, hpr]
      rw [hpr] at e2
      obtain ⟨m1, m2⟩ := prs_mem (List.mem_of_getElem? hg)
      have xlen : xs.length ≤ 1000000 := by
        rw [ht.1, List.length_take]; omega
      refine ⟨a, _, rfl, SqT.of (S' _ _ e2), rfl, _, _, rfl, _, _, rfl, rfl, ?_⟩
      refine ⟨_, rfl, _, rfl, q1, _, _, _, rfl, rfl, SqT.of (S' _ _ hq1'), atI_nat (by rw [List.getElem?_map, psums_get ns _ _ m2]; rfl), _, rfl, _, rfl, q1, _, _, _, rfl, rfl, SqT.of (S' _ _ hq1'), atI_nat (by rw [List.getElem?_map, psums_get ns _ _ (by omega)]; rfl), _, _, rfl, rfl, ?_⟩
      refine ⟨_, rfl, _, rfl, by show 2 ≤ sizeLine; decide, fun b hb => ?_⟩
      refine ⟨by show 2 ≤ sizeLine; decide, fun c hc => ?_⟩
      have ha1 := (upd_ne (o := HO.tup [V.int lo, V.int hi']) (ne_of_none ha hb)).trans ha
      have ha2 := (upd_ne (o := HO.tup [V.int (psum ns hi' - psum ns lo), V.ref b]) (ne_of_none ha1 hc)).trans ha1
      refine ⟨xs, ha2, size_lt xlen, _, _, _, rfl, upd_same, ?_, ?_⟩
      · rw [take_succ hg]
        have hbc : b ≠ c := fun e => by subst e; rw [upd_same] at hc; cases hc
        refine SumsAt.snoc (b := b) (ht.mono fun d zs e => ?_) ?_ ?_
        · rw [upd_ne (ne_of e ha (by intro z; cases z)), upd_ne (ne_of_none ((upd_ne (ne_of_none e hb)).trans e) hc), upd_ne (ne_of_none e hb)]; exact e
        · rw [upd_ne (Ne.symm (ne_of_none ha1 hc)), upd_same]
        · rw [upd_ne (Ne.symm (ne_of_none ha hb)), upd_ne hbc, upd_same]; rfl
      · exact fun d o e => by
          have e' := (upd_ne (o := HO.tup [V.int lo, V.int hi']) (ne_of_none (S' d o e) hb)).trans (S' d o e)
          rw [upd_ne (ne_of_none e hacc), upd_ne (ne_of_none e' hc)]; exact e'
    · rintro σ H' ⟨v1, v2, xs, rfl, ha, ht, S'⟩
      rw [ht2.1, List.take_length] at ht
      exact k acc xs H' ((S1.trans S2).free hacc) ha ht (S1.trans (S2.trans S'))
end
end My

namespace My
open PySem L2
section
variable {P : Program} {w : World} {K : PySem.W.Frag} {mg : Str → Option Value} {base : Heap}
def spAll : Sp := fun vs H Q _ => ∃ (p : Addr) (ns : List Int) (tot : Int), vs = [.ref p, .int tot] ∧ RowAt H p ns ∧ ∀ q xs H', H q = none → H' q = some (.lst xs) → TupsAt g2 H' xs (hitsBy ns (fun s => decide (s = tot))) → Same H H' → Q (.ref q) H'
abbrev s_all_with : Stmt := top 15
theorem sc_all_with : FnScope ["row", "total"] ["row", "total"] (defScope s_all_with) := ⟨rfl, rfl, rfl, by decide +kernel, rfl, by decide +kernel, by decide +kernel⟩
theorem ok_all_with {f fz : Addr} {fd fdz : FuncData} (F : Fun K "all_with" "all_with" s_all_with f fd) (T : Txt mg) (D_summed_stretches : DefAt K mg "summed_stretches" s_summed_stretches ["row"] fz fdz) (G_summed_stretches : FnOk P w K mg base CX0 2 fz fdz ["row"] spSummed) :
    FnOk P w K mg base CX0 3 f fd ["row", "total"] spAll := by
  refine F.ok sc_all_with (fun vs H Q E h => ?_) (fun cdv A outer s H vs Q E hr h => ?_)
  · obtain ⟨p, ns, tot, rfl, _⟩ := h
    rfl
  · obtain ⟨p, ns, tot, rfl, ⟨hp, hl⟩, k⟩ := h
    refine ⟨_, (pss_one (ps_ret (pe_comp (N := ["own", "stretch", "total"]) (cap := [none, none, some 1]) rfl (show blkOk ["row", "total"] (defScope s_all_with) ["own", "stretch", "total"] [none, none, some 1] _ = true by decide +kernel) (piL (K := K) rfl (pe_call G_summed_stretches (hr.mono (by first | decide | exact Nat.le_refl _)) rfl D_summed_stretches.mg D_summed_stretches.fn.kp D_summed_stretches.bd .nil pass0 (pa_cons (pv 0) pa_nil))) (fun cl C s3 H3 fp => ⟨(pgT (K := K) (n := 2) rfl rfl (pgs_cons (pg_name (i := 0) (show (["own", "stretch", "total"] : List Str).Nodup by decide +kernel) rfl (Or.inl rfl)) (pgs_cons (pg_name (i := 1) (show (["own", "stretch", "total"] : List Str).Nodup by decide +kernel) rfl (Or.inl rfl)) pgs_nil))), (pts_one (pt_cmpR op_eq (pv 0) (pv 2) (nomark _))), fun it acc => (paf_emit rfl (pv 1))⟩)))), ?_⟩
    refine ⟨_, rfl, p, ns, rfl, ⟨hp, hl⟩, fun q2 ys H2 _ hq2 ht2 S2 => ⟨q2, rfl, ⟨_, SqL.of hq2⟩, fun acc hacc => ?_⟩⟩
    have plen := prs_len ns.length hl
    refine walk_list (xs := ys) (fun i σ H' => ∃ (v1 v2 : Option V) (xs : List V), σ = [v1, v2, some (.int tot)] ∧ H' acc = some (.lst xs) ∧ TupsAt g2 H' xs (((prs ns.length).take i).filter (hb ns (fun s => decide (s = tot)))) ∧ Same H2 H') ?_ ?_ ?_ ?_
    · exact ⟨none, none, [], rfl, upd_same, by simpa using TupsAt.nil, Same.lay hacc⟩
    · rintro i σ H' _ ⟨v1, v2, xs, rfl, ha, ht, S'⟩
      exact SqL.of (S' _ _ hq2)
    · rintro i y σ H' hy ⟨v1, v2, xs, rfl, ha, ht, S'⟩
      have hi : i < (prs ns.length).length := by rw [← ht2.1]; exact (List.getElem?_eq_some_iff.mp hy).1
      obtain ⟨a, b, e1, e2, e3⟩ := ht2.2 i _ (List.getElem?_eq_getElem hi)
      rw [hy] at e1
      have e1 : y = .ref a := Option.some.inj e1
      subst e1
      have hg : (prs ns.length)[i]? = some (prs ns.length)[i] := List.getElem?_eq_getElem hi
      generalize (prs ns.length)[i] = pr at e2 e3 hg
      have xlen : xs.length ≤ 1000000 := by
        rw [ht.1]
        exact Nat.le_trans (List.length_filter_le _ _) (by rw [List.length_take]; omega)
      have yes : hb ns (fun s => decide (s = tot)) pr = true → ∀ v1 v2 : Option V, ∃ (v1' v2' : Option V) (xs' : List V), [v1, v2, some (.int tot)] = [v1', v2', some (.int tot)] ∧ upd H' acc (.lst (xs ++ [.ref b])) acc = some (.lst xs') ∧ TupsAt g2 (upd H' acc (.lst (xs ++ [.ref b]))) xs' (((prs ns.length).take (i + 1)).filter (hb ns (fun s => decide (s = tot)))) ∧ Same H2 (upd H' acc (.lst (xs ++ [.ref b]))) := fun hh v1 v2 => by
        refine ⟨v1, v2, _, rfl, upd_same, ?_, fun c o e => by rw [upd_ne (ne_of_none e hacc)]; exact S' c o e⟩
        rw [filter_take_succ _ hg, hh]
        exact TupsAt.snoc (ht.mono fun c zs e => by rw [upd_ne (ne_of e ha (by intro z; cases z))]; exact e) (by rw [upd_ne (ne_of (S' _ _ e3) ha (by intro z; cases z))]; exact S' _ _ e3)
      have no : hb ns (fun s => decide (s = tot)) pr = false → ∀ v1 v2 : Option V, ∃ (v1' v2' : Option V) (xs' : List V), [v1, v2, some (.int tot)] = [v1', v2', some (.int tot)] ∧ H' acc = some (.lst xs') ∧ TupsAt g2 H' xs' (((prs ns.length).take (i + 1)).filter (hb ns (fun s => decide (s = tot)))) ∧ Same H2 H' := fun hh v1 v2 => by
        refine ⟨v1, v2, xs, rfl, ha, ?_, S'⟩
        rw [filter_take_succ _ hg, hh]
        simpa using ht
      refine ⟨a, _, rfl, SqT.of (S' _ _ e2), rfl, _, _, rfl, _, _, rfl, rfl, ?_⟩
      refine ⟨_, rfl, _, rfl, rfl, _, rfl, ite2 (fun e => ?_) (fun e => ?_)⟩
      · refine ⟨_, rfl, xs, ha, size_lt xlen, yes ?_ _ _⟩
        rw [decide_eq_true_eq] at e
        injection e with e
        exact decide_eq_true e
      · refine no ?_ _ _
        exact decide_eq_false fun z => e (decide_eq_true (congrArg V.int z))
    · rintro σ H' ⟨v1, v2, xs, rfl, ha, ht, S'⟩
      rw [ht2.1, List.take_length] at ht
      exact k acc xs H' (S2.free hacc) ha ht (S2.trans S')
end
end My

namespace My
open PySem L2
section
variable {P : Program} {w : World} {K : PySem.W.Frag} {mg : Str → Option Value} {base : Heap}
def spCount : Sp := fun vs H Q _ => ∃ (p : Addr) (ns : List Int) (tot : Int), vs = [.ref p, .int tot] ∧ RowAt H p ns ∧ ∀ H', Same H H' → Q (.int ((hitsBy ns (fun s => decide (s = tot))).length : Int)) H'
abbrev s_count_with : Stmt := top 16
theorem sc_count_with : FnScope ["row", "total"] ["row", "total"] (defScope s_count_with) := ⟨rfl, rfl, rfl, by decide +kernel, rfl, by decide +kernel, by decide +kernel⟩
theorem ok_count_with {f fa : Addr} {fd fda : FuncData} (F : Fun K "count_with" "count_with" s_count_with f fd) (T : Txt mg) (D_all_with : DefAt K mg "all_with" s_all_with ["row", "total"] fa fda) (G_all_with : FnOk P w K mg base CX0 3 fa fda ["row", "total"] spAll) :
    FnOk P w K mg base CX0 4 f fd ["row", "total"] spCount := by
  refine F.ok sc_count_with (fun vs H Q E h => ?_) (fun cdv A outer s H vs Q E hr h => ?_)
  · obtain ⟨p, ns, tot, rfl, _⟩ := h
    rfl
  · obtain ⟨p, ns, tot, rfl, hR, k⟩ := h
    refine ⟨_, (pss_one (ps_ret (pe_callB (cLen (K := K) rfl) (by rfl) T.b_len PyProof.Rows.Boot.«len» (pa_cons (pe_call G_all_with (hr.mono (by first | decide | exact Nat.le_refl _)) rfl D_all_with.mg D_all_with.fn.kp D_all_with.bd .nil pass0 (pa_cons (pv 0) (pa_cons (pv 1) pa_nil))) pa_nil)))), ?_⟩
    refine ⟨_, rfl, _, rfl, p, ns, tot, rfl, hR, fun q xs H1 _ hq ht S1 => ⟨q, xs, rfl, .inl (SqL.of hq), ?_⟩⟩
    rw [ht.1]
    exact k H1 S1
end
end My

namespace My
open PySem L2
/-! ### the best by a number, the least as a pair -/
theorem pick_first {bt : Nat → Nat → Bool} : ∀ n, 0 < n → (∀ i, i < n → bt i 0 = false) → pick bt n = some 0
  | 0, h, _ => absurd h (Nat.lt_irrefl _)
  | 1, _, _ => rfl
  | n + 2, _, hb => by
    have ih := pick_first (n + 1) (Nat.succ_pos _) fun i hi => hb i (by omega)
    show (match pick bt (n + 1) with | none => some (n + 1) | some j => if bt (n + 1) j then some (n + 1) else some j) = some 0
    rw [ih]
    simp only [hb (n + 1) (by omega), Bool.false_eq_true, if_false]
def pLt (a b : Nat × Nat) : Prop := a.1 < b.1 ∨ a.1 = b.1 ∧ a.2 < b.2
theorem from1_sorted (lo : Nat) : ∀ j, (from1 lo j).Pairwise pLt
  | 0 => by unfold from1; simp
  | j + 1 => by
    rw [from1_succ, List.pairwise_append]
    refine ⟨from1_sorted lo j, by simp, fun a ha b hb => ?_⟩
    unfold from1 at ha
    obtain ⟨t, ht, rfl⟩ := List.mem_map.mp ha
    have hb : b = (lo, lo + 1 + j) := by simpa using hb
    subst hb
    have := List.mem_range.mp ht
    exact .inr ⟨rfl, by show lo + 1 + t < lo + 1 + j; omega⟩
theorem prsTo_sorted (n : Nat) : ∀ i, (prsTo n i).Pairwise pLt ∧ ∀ p ∈ prsTo n i, p.1 < i
  | 0 => by unfold prsTo; simp
  | i + 1 => by
    obtain ⟨h1, h2⟩ := prsTo_sorted n i
    have h3 : ∀ p ∈ from1 i (n - i), p.1 = i := fun p hp => by
      unfold from1 at hp
      obtain ⟨t, _, rfl⟩ := List.mem_map.mp hp
      rfl
    rw [prsTo_succ]
    refine ⟨List.pairwise_append.mpr ⟨h1, from1_sorted _ _, fun a ha b hb => .inl (by rw [h3 b hb]; exact h2 a ha)⟩, fun p hp => ?_⟩
    rcases List.mem_append.mp hp with h | h
    · have := h2 p h; omega
    · rw [h3 p h]; exact Nat.lt_succ_self _
theorem hitsBy_sorted (ns : List Int) (t : Int → Bool) : (hitsBy ns t).Pairwise pLt := (prsTo_sorted _ _).1.filter _
def pI (p : Nat × Nat) : List Int := [(p.1 : Int), (p.2 : Int)]
theorem g2_pI (p : Nat × Nat) : g2 p = (pI p).map V.int := rfl
theorem lex_pI (p q : Nat × Nat) (h : p = q ∨ pLt p q) : HT.lexLt (pI q) (pI p) = false := by
  obtain ⟨p1, p2⟩ := p
  obtain ⟨q1, q2⟩ := q
  have h' : (p1 = q1 ∧ p2 = q2) ∨ p1 < q1 ∨ (p1 = q1 ∧ p2 < q2) := by
    rcases h with h | h | h
    · cases h; exact .inl ⟨rfl, rfl⟩
    · exact .inr (.inl h)
    · exact .inr (.inr h)
  show HT.lexLt [(q1 : Int), (q2 : Int)] [(p1 : Int), (p2 : Int)] = false
  rw [HT.lexLt_cons, HT.lexLt_cons, HT.lexLt_nil_nil]
  by_cases e1 : (q1 : Int) = (p1 : Int)
  · rw [if_pos e1]
    by_cases e2 : (q2 : Int) = (p2 : Int)
    · rw [if_pos e2]
    · rw [if_neg e2]; exact decide_eq_false (by omega)
  · rw [if_neg e1]; exact decide_eq_false (by omega)
/-- the first, by places -/
def firstOf (ps : List (Nat × Nat)) : Option (Nat × Nat) := ps[0]?
def kLen (ps : List (Nat × Nat)) (i : Nat) : Int := (((ps.getD i (0, 0)).2 : Nat) : Int) - (((ps.getD i (0, 0)).1 : Nat) : Int)
def longOf (ps : List (Nat × Nat)) : Option (Nat × Nat) := (pick (fun i k => if false then decide (kLen ps i < kLen ps k) else decide (kLen ps k < kLen ps i)) ps.length).bind fun j => ps[j]?
def shortOf (ps : List (Nat × Nat)) : Option (Nat × Nat) := (pick (fun i k => if true then decide (kLen ps i < kLen ps k) else decide (kLen ps k < kLen ps i)) ps.length).bind fun j => ps[j]?
/-- a stretch or None -/
def OptAt (H : Hp) (v : V) (o : Option (Nat × Nat)) : Prop := match o with
  | none => v = .non
  | some p => ∃ a, v = .ref a ∧ H a = some (.tup (g2 p))
theorem OptAt.mono {H H' : Hp} {v : V} {o : Option (Nat × Nat)} (h : OptAt H v o) (s : Same H H') : OptAt H' v o := by
  cases o with
  | none => exact h
  | some p => obtain ⟨a, e1, e2⟩ := h; exact ⟨a, e1, s _ _ e2⟩
theorem TupsAt.opt {H : Hp} {xs : List V} {ps : List (Nat × Nat)} (h : TupsAt g2 H xs ps) {j : Nat} {x : V} (hx : xs[j]? = some x) : OptAt H x ps[j]? := by
  have hj : j < ps.length := by rw [← h.1]; exact (List.getElem?_eq_some_iff.mp hx).1
  obtain ⟨a, e1, e2⟩ := h.2 j _ (List.getElem?_eq_getElem hj)
  rw [hx] at e1; cases e1
  rw [List.getElem?_eq_getElem hj]
  exact ⟨a, rfl, e2⟩
def spLen : Sp := fun vs H Q _ => ∃ (a : Addr) (p : Nat × Nat), vs = [.ref a] ∧ H a = some (.tup (g2 p)) ∧ Q (.int ((p.2 : Int) - (p.1 : Int))) H
def spPick (o : List (Nat × Nat) → Option (Nat × Nat)) : Sp := fun vs H Q _ => ∃ (l : Addr) (xs : List V) (ps : List (Nat × Nat)), vs = [.ref l] ∧ H l = some (.lst xs) ∧ TupsAt g2 H xs ps ∧ ps.Pairwise pLt ∧ ∀ v H', OptAt H' v (o ps) → Same H H' → Q v H'
section
variable {P : Program} {w : World} {K : PySem.W.Frag} {mg : Str → Option Value} {base : Heap}
abbrev s_length_of : Stmt := top 11
theorem sc_length_of : FnScope ["stretch", "low", "high"] ["stretch"] (defScope s_length_of) := ⟨rfl, rfl, rfl, by decide +kernel, rfl, by decide +kernel, by decide +kernel⟩
theorem ok_length_of {f : Addr} {fd : FuncData} (F : Fun K "length_of" "length_of" s_length_of f fd) (T : Txt mg) : FnOk P w K mg base CX0 1 f fd ["stretch"] spLen := by
  refine F.ok sc_length_of (fun vs H Q E h => ?_) (fun cdv A outer s H vs Q E hr h => ?_)
  · obtain ⟨a, p, rfl, _⟩ := h
    rfl
  · obtain ⟨a, p, rfl, ha, k⟩ := h
    refine ⟨_, (pss_cons (ps_asg (pv 0) (pgT (K := K) (n := 2) rfl rfl (pgs_cons (pg_name (i := 1) sc_length_of.nd rfl (Or.inl rfl)) (pgs_cons (pg_name (i := 2) sc_length_of.nd rfl (Or.inl rfl)) pgs_nil))))
      (pss_one (ps_ret (pe_op op_sub (pv 2) (pv 1))))), ?_⟩
    refine ⟨_, rfl, a, _, rfl, SqT.of ha, rfl, _, _, rfl, _, _, rfl, rfl, ?_⟩
    exact ⟨_, rfl, _, rfl, _, _, rfl, rfl, k⟩
abbrev s_first_of : Stmt := top 12
theorem sc_first_of : FnScope ["stretches"] ["stretches"] (defScope s_first_of) := ⟨rfl, rfl, rfl, by decide +kernel, rfl, by decide +kernel, by decide +kernel⟩
theorem ok_first_of {f : Addr} {fd : FuncData} (F : Fun K "first_of" "first_of" s_first_of f fd) (T : Txt mg) : FnOk P w K mg base CX0 2 f fd ["stretches"] (spPick firstOf) := by
  refine F.ok sc_first_of (fun vs H Q E h => ?_) (fun cdv A outer s H vs Q E hr h => ?_)
  · obtain ⟨l, xs, ps, rfl, _⟩ := h
    rfl
  · obtain ⟨l, xs, ps, rfl, hq, ht, hs, k⟩ := h
    have hu1 := (Room.in1 (k := 0) hr).units0
    refine ⟨_, (pss_one (ps_ret (pe_callBK (cMinD (K := K) rfl rfl hu1) (by rfl) T.b_min PyProof.Rows.Boot.«min» (pa_cons (pv 0) pa_nil) (pk_cons pe_non pk_nil)))), ?_⟩
    refine ⟨_, rfl, l, xs, fun i => pI (ps.getD i (0, 0)), rfl, rfl, SqL.of hq, fun i x hx => ?_, fun H2 S2 => ?_⟩
    · have hi : i < ps.length := by rw [← ht.1]; exact (List.getElem?_eq_some_iff.mp hx).1
      obtain ⟨a, e1, e2⟩ := ht.2 i _ (List.getElem?_eq_getElem hi)
      rw [hx] at e1; cases e1
      refine ⟨a, rfl, ?_⟩
      rw [e2, g2_pI]
      simp [List.getD, List.getElem?_eq_getElem hi]
    · by_cases h0 : 0 < xs.length
      · rw [pick_first xs.length h0 ?_]
        · intro x hx
          exact k x H2 ((ht.mono (same_tup S2)).opt hx) S2
        · intro i hi
          refine lex_pI _ _ ?_
          rw [ht.1] at hi h0
          simp only [List.getD, List.getElem?_eq_getElem hi, List.getElem?_eq_getElem h0, Option.getD_some]
          by_cases hi0 : i = 0
          · subst hi0; exact .inl rfl
          · exact .inr (List.pairwise_iff_getElem.mp hs 0 i h0 hi (by omega))
      · have e : xs.length = 0 := by omega
        have e2 : ps = [] := List.length_eq_zero_iff.mp (by rw [← ht.1]; exact e)
        rw [e]
        exact k .non H2 (by rw [e2]; rfl) S2
abbrev s_longest_of : Stmt := top 13
theorem sc_longest_of : FnScope ["stretches"] ["stretches"] (defScope s_longest_of) := ⟨rfl, rfl, rfl, by decide +kernel, rfl, by decide +kernel, by decide +kernel⟩
theorem ok_longest_of {f fl : Addr} {fd fdl : FuncData} (F : Fun K "longest_of" "longest_of" s_longest_of f fd) (T : Txt mg) (D_length_of : DefAt K mg "length_of" s_length_of ["stretch"] fl fdl) : FnOk P w K mg base CX0 3 f fd ["stretches"] (spPick longOf) := by
  have G_length_of : FnOk P w K mg base CX0 1 fl fdl ["stretch"] spLen := ok_length_of D_length_of.fn T
  refine F.ok sc_longest_of (fun vs H Q E h => ?_) (fun cdv A outer s H vs Q E hr h => ?_)
  · obtain ⟨l, xs, ps, rfl, _⟩ := h
    rfl
  · obtain ⟨l, xs, ps, rfl, hq, ht, hs, k⟩ := h
    have hr1 := Room.in1 (k := 1) hr
    refine ⟨_, (pss_one (ps_ret (pe_callBK (cMmK false (K := K) G_length_of hr1 D_length_of.bd rfl rfl) (by rfl) T.b_max PyProof.Rows.Boot.«max» (pa_cons (pv 0) pa_nil) (pk_cons (pe_glob (v := .ref _) (by rfl) D_length_of.mg rfl) (pk_cons pe_non pk_nil))))), ?_⟩
    refine ⟨_, rfl, l, xs, kLen ps, rfl, rfl, SqL.of hq, fun i x H' Qk hx S' hQ => ?_, fun H2 S2 => ?_⟩
    · have hi : i < ps.length := by rw [← ht.1]; exact (List.getElem?_eq_some_iff.mp hx).1
      obtain ⟨a, e1, e2⟩ := ht.2 i _ (List.getElem?_eq_getElem hi)
      rw [hx] at e1; cases e1
      refine ⟨a, _, rfl, S' _ _ e2, ?_⟩
      have e : kLen ps i = ((ps[i]).2 : Int) - ((ps[i]).1 : Int) := by unfold kLen; simp [List.getD, List.getElem?_eq_getElem hi]
      rw [← e]
      exact hQ H' (Same.refl _)
    · rw [ht.1]
      cases e : pick (fun i k => if false then decide (kLen ps i < kLen ps k) else decide (kLen ps k < kLen ps i)) ps.length with
      | none => exact k .non H2 (by unfold longOf; rw [e]; rfl) S2
      | some j =>
        intro x hx
        refine k x H2 ?_ S2
        unfold longOf
        rw [e]
        exact (ht.mono (same_tup S2)).opt hx
end
end My

namespace My
open PySem L2
def spAllOpt (o : List (Nat × Nat) → Option (Nat × Nat)) : Sp := fun vs H Q _ => ∃ (p : Addr) (ns : List Int) (tot : Int), vs = [.ref p, .int tot] ∧ RowAt H p ns ∧ ∀ v H', OptAt H' v (o (hitsBy ns (fun s => decide (s = tot)))) → Same H H' → Q v H'
section
variable {P : Program} {w : World} {K : PySem.W.Frag} {mg : Str → Option Value} {base : Heap}
abbrev s_first_with : Stmt := top 17
theorem sc_first_with : FnScope ["row", "total"] ["row", "total"] (defScope s_first_with) := ⟨rfl, rfl, rfl, by decide +kernel, rfl, by decide +kernel, by decide +kernel⟩
theorem ok_first_with {f fa fo : Addr} {fd fda fdo : FuncData} (F : Fun K "first_with" "first_with" s_first_with f fd) (T : Txt mg) (D_all_with : DefAt K mg "all_with" s_all_with ["row", "total"] fa fda) (G_all_with : FnOk P w K mg base CX0 3 fa fda ["row", "total"] spAll)
    (D_first_of : DefAt K mg "first_of" s_first_of ["stretches"] fo fdo) (G_first_of : FnOk P w K mg base CX0 2 fo fdo ["stretches"] (spPick firstOf)) : FnOk P w K mg base CX0 4 f fd ["row", "total"] (spAllOpt firstOf) := by
  refine F.ok sc_first_with (fun vs H Q E h => ?_) (fun cdv A outer s H vs Q E hr h => ?_)
  · obtain ⟨p, ns, tot, rfl, _⟩ := h
    rfl
  · obtain ⟨p, ns, tot, rfl, hR, k⟩ := h
    refine ⟨_, (pss_one (ps_ret (pe_call G_first_of (hr.mono (by first | decide | exact Nat.le_refl _)) rfl D_first_of.mg D_first_of.fn.kp D_first_of.bd .nil pass0 (pa_cons (pe_call G_all_with (hr.mono (by first | decide | exact Nat.le_refl _)) rfl D_all_with.mg D_all_with.fn.kp D_all_with.bd .nil pass0 (pa_cons (pv 0) (pa_cons (pv 1) pa_nil))) pa_nil)))), ?_⟩
    refine ⟨_, rfl, _, rfl, p, ns, tot, rfl, hR, fun q xs H1 _ hq ht S1 => ⟨q, xs, _, rfl, hq, ht, hitsBy_sorted _ _, fun v H2 o2 S2 => ?_⟩⟩
    exact k v H2 o2 (S1.trans S2)
abbrev s_longest_with : Stmt := top 18
theorem sc_longest_with : FnScope ["row", "total"] ["row", "total"] (defScope s_longest_with) := ⟨rfl, rfl, rfl, by decide +kernel, rfl, by decide +kernel, by decide +kernel⟩
theorem ok_longest_with {f fa fo : Addr} {fd fda fdo : FuncData} (F : Fun K "longest_with" "longest_with" s_longest_with f fd) (T : Txt mg) (D_all_with : DefAt K mg "all_with" s_all_with ["row", "total"] fa fda) (G_all_with : FnOk P w K mg base CX0 3 fa fda ["row", "total"] spAll)
    (D_longest_of : DefAt K mg "longest_of" s_longest_of ["stretches"] fo fdo) (G_longest_of : FnOk P w K mg base CX0 3 fo fdo ["stretches"] (spPick longOf)) : FnOk P w K mg base CX0 4 f fd ["row", "total"] (spAllOpt longOf) := by
  refine F.ok sc_longest_with (fun vs H Q E h => ?_) (fun cdv A outer s H vs Q E hr h => ?_)
  · obtain ⟨p, ns, tot, rfl, _⟩ := h
    rfl
  · obtain ⟨p, ns, tot, rfl, hR, k⟩ := h
    refine ⟨_, (pss_one (ps_ret (pe_call G_longest_of (hr.mono (by first | decide | exact Nat.le_refl _)) rfl D_longest_of.mg D_longest_of.fn.kp D_longest_of.bd .nil pass0 (pa_cons (pe_call G_all_with (hr.mono (by first | decide | exact Nat.le_refl _)) rfl D_all_with.mg D_all_with.fn.kp D_all_with.bd .nil pass0 (pa_cons (pv 0) (pa_cons (pv 1) pa_nil))) pa_nil)))), ?_⟩
    refine ⟨_, rfl, _, rfl, p, ns, tot, rfl, hR, fun q xs H1 _ hq ht S1 => ⟨q, xs, _, rfl, hq, ht, hitsBy_sorted _ _, fun v H2 o2 S2 => ?_⟩⟩
    exact k v H2 o2 (S1.trans S2)
end
end My

namespace My
open PySem L2
/-- all is kept but what stands at l -/
def Kp (l : Addr) (H H' : Hp) : Prop := ∀ b o, H b = some o → b ≠ l → H' b = some o
theorem Kp.refl {l : Addr} (H : Hp) : Kp l H H := fun _ _ h _ => h
theorem Kp.trans {l : Addr} {H H1 H2 : Hp} (a : Kp l H H1) (b : Kp l H1 H2) : Kp l H H2 := fun x o h n => b x o (a x o h n) n
theorem Kp.of {l : Addr} {H H' : Hp} (s : Same H H') : Kp l H H' := fun b o h _ => s b o h
theorem Kp.lay {l p : Addr} {H H' : Hp} {o : HO} (s : Kp l H H') (h : H' p = none) : Kp l H (upd H' p o) := fun b o' e n => by rw [upd_ne (ne_of_none (s b o' e n) h)]; exact s b o' e n
/-- the list at l was new -/
theorem Kp.same {l : Addr} {H H1 H' : Hp} (s : Same H H1) (h : H l = none) (k : Kp l H1 H') : Same H H' := fun b o e => k b o (s b o e) (ne_of_none e h)
theorem Kp.tups {α : Type} {g : α → List V} {l : Addr} {H H' : Hp} {xs ys : List V} {ps : List α} (k : Kp l H H') (hl : H l = some (.lst ys)) (h : TupsAt g H xs ps) : TupsAt g H' xs ps := h.mono fun a zs e => k a _ e (ne_of e hl (by intro z; cases z))
abbrev eqT (tot : Int) : Int → Bool := fun s => decide (s = tot)
end My

namespace My
open PySem L2
/-! ### a kept row -/
structure MethAt (K : PySem.W.Frag) (C : Addr) (x qual : Str) (st : Stmt) (ps : List Str) (f : Addr) (fd : FuncData) : Prop where
  fn : Fun K x qual st f fd
  mt : Meth K C x f
  bd : Binds K fd ps []
structure TxtC (K : PySem.W.Frag) (mg : Str → Option Value) (C : Addr) : Prop where
  cl : Cls K C
  nN : NoAttr K C "numbers"
  nT : NoAttr K C "total"
  mgC : mg "KeptRow" = some (.ref C)
theorem nt : ¬ (("numbers" : Str) = "total") := by decide +kernel
def flds (p : Addr) (t : Int) : List (Str × V) := putF "total" (.int t) (putF "numbers" (.ref p) [])
theorem flds_eq (p : Addr) (t : Int) : flds p t = ([("numbers", V.ref p), ("total", V.int t)] : List (Str × V)) := by
  show (if ("numbers" : Str) = "total" then [(("numbers" : Str), V.int t)] else (("numbers" : Str), V.ref p) :: putF "total" (V.int t) []) = ([("numbers", V.ref p), ("total", V.int t)] : List (Str × V))
  rw [if_neg nt]
  all_goals rfl
theorem flds_num (p : Addr) (t : Int) : (flds p t).lookup ("numbers" : Str) = some (.ref p) := by
  unfold flds
  rw [lookup_putF, if_neg nt, lookup_putF, if_pos rfl]
theorem flds_tot (p : Addr) (t : Int) : (flds p t).lookup ("total" : Str) = some (.int t) := by
  unfold flds
  rw [lookup_putF, if_pos rfl]
theorem flds_no (p : Addr) (t : Int) {m : Str} (h1 : ¬ m = "total") (h2 : ¬ m = "numbers") : (flds p t).lookup m = none := by
  unfold flds
  rw [lookup_putF, if_neg h1, lookup_putF, if_neg h2]
  all_goals rfl
theorem flds_put (p q : Addr) (t : Int) : putF "numbers" (.ref q) (flds p t) = flds q t := by
  rw [flds_eq, flds_eq]
  show (if ("numbers" : Str) = "numbers" then ([(("numbers" : Str), V.ref q), ("total", V.int t)] : List (Str × V)) else _) = ([("numbers", V.ref q), ("total", V.int t)] : List (Str × V))
  rw [if_pos rfl]
/-- a KeptRow stands at x: the numbers, the sum -/
structure KeptAt (C : Addr) (H : Hp) (x p : Addr) (ns : List Int) (tot : Int) : Prop where
  ob : ∃ dx, H x = some (.ins C dx (flds p tot))
  rw : RowAt H p ns
theorem RowAt.same {H H' : Hp} {p : Addr} {ns : List Int} (h : RowAt H p ns) (s : Same H H') : RowAt H' p ns := ⟨s _ _ h.1, h.2⟩
theorem KeptAt.same {C : Addr} {H H' : Hp} {x p : Addr} {ns : List Int} {tot : Int} (h : KeptAt C H x p ns tot) (s : Same H H') : KeptAt C H' x p ns tot := ⟨let ⟨dx, e⟩ := h.ob; ⟨dx, s _ _ e⟩, h.rw.same s⟩
/-- other things than x, where x is changed -/
theorem KeptAt.nt {C : Addr} {H : Hp} {x p b : Addr} {ns : List Int} {tot : Int} {zs : List V} (h : KeptAt C H x p ns tot) (e : H b = some (.tup zs)) : b ≠ x := let ⟨dx, e'⟩ := h.ob; ne_of e e' (by intro z; cases z)
theorem KeptAt.nl {C : Addr} {H : Hp} {x p b : Addr} {ns : List Int} {tot : Int} {zs : List V} (h : KeptAt C H x p ns tot) (e : H b = some (.lst zs)) : b ≠ x := let ⟨dx, e'⟩ := h.ob; ne_of e e' (by intro z; cases z)
def cnt (ns : List Int) (tot : Int) : Int := ((hitsBy ns (eqT tot)).length : Int)
def spInit (C : Addr) : Sp := fun vs H Q _ => ∃ (x dx p : Addr) (ns : List Int) (tot : Int), vs = [.ref x, .ref p, .int tot] ∧ H x = some (.ins C dx []) ∧ RowAt H p ns ∧ ∀ H', KeptAt C H' x p ns tot → Kp x H H' → Q .non H'
def spRowNow (C : Addr) : Sp := fun vs H Q _ => ∃ (x p : Addr) (ns : List Int) (tot : Int), vs = [.ref x] ∧ KeptAt C H x p ns tot ∧ Q (.ref p) H
def spCountNow (C : Addr) : Sp := fun vs H Q _ => ∃ (x p : Addr) (ns : List Int) (tot : Int), vs = [.ref x] ∧ KeptAt C H x p ns tot ∧ ∀ H', Same H H' → Q (.int (cnt ns tot)) H'
def spOptNow (C : Addr) (o : List (Nat × Nat) → Option (Nat × Nat)) : Sp := fun vs H Q _ => ∃ (x p : Addr) (ns : List Int) (tot : Int), vs = [.ref x] ∧ KeptAt C H x p ns tot ∧ ∀ v H', OptAt H' v (o (hitsBy ns (eqT tot))) → Same H H' → Q v H'
def spChange (C : Addr) : Sp := fun vs H Q _ => ∃ (x p q : Addr) (ns ms : List Int) (tot : Int), vs = [.ref x, .ref q] ∧ KeptAt C H x p ns tot ∧ RowAt H q ms ∧ ∀ H', KeptAt C H' x q ms tot → Kp x H H' → Q (.int (cnt ms tot - cnt ns tot)) H'
def spPut (C : Addr) : Sp := fun vs H Q _ => ∃ (x p : Addr) (ns : List Int) (tot n : Int), vs = [.ref x, .int n] ∧ KeptAt C H x p ns tot ∧ ns.length < 1000 ∧ ∀ q H', KeptAt C H' x q (ns ++ [n]) tot → Kp x H H' → Q (.int (cnt (ns ++ [n]) tot - cnt ns tot)) H'
def spTake' (C : Addr) : Sp := fun vs H Q _ => ∃ (x p : Addr) (ns : List Int) (tot : Int), vs = [.ref x] ∧ KeptAt C H x p ns tot ∧ 0 < ns.length ∧ ∀ q H', KeptAt C H' x q ns.dropLast tot → Kp x H H' → Q (.int (cnt ns.dropLast tot - cnt ns tot)) H'
def spLed : Sp := fun vs H Q _ => ∃ (p : Addr) (ns : List Int) (pl : Nat) (n : Int), vs = [.ref p, .int (pl : Int), .int n] ∧ RowAt H p ns ∧ pl < ns.length ∧ ∀ q H', RowAt H' q (ns.set pl n) → Same H H' → Q (.ref q) H'
def spLead (C : Addr) : Sp := fun vs H Q _ => ∃ (x p : Addr) (ns : List Int) (tot n : Int) (pl : Nat), vs = [.ref x, .int (pl : Int), .int n] ∧ KeptAt C H x p ns tot ∧ pl < ns.length ∧ ∀ q H', KeptAt C H' x q (ns.set pl n) tot → Kp x H H' → Q (.int (cnt (ns.set pl n) tot - cnt ns tot)) H'
theorem set_cut (ns : List Int) (pl : Nat) (n : Int) (h : pl < ns.length) : ns.take pl ++ [n] ++ ns.drop (pl + 1) = ns.set pl n := by
  apply List.ext_getElem?
  intro j
  rw [List.getElem?_set, List.append_assoc, List.getElem?_append]
  have hl : (ns.take pl).length = pl := by rw [List.length_take]; omega
  rw [hl]
  by_cases h1 : j < pl
  · rw [if_pos h1, List.getElem?_take_of_lt h1, if_neg (by omega)]
  · rw [if_neg h1]
    by_cases h2 : pl = j
    · subst h2
      rw [if_pos rfl, if_pos h, Nat.sub_self]; rfl
    · rw [if_neg h2]
      obtain ⟨d, rfl⟩ : ∃ d, j = pl + 1 + d := ⟨j - pl - 1, by omega⟩
      rw [show pl + 1 + d - pl = d + 1 by omega]
      show (ns.drop (pl + 1))[d]? = _
      rw [List.getElem?_drop]
section
variable {P : Program} {w : World} {K : PySem.W.Frag} {mg : Str → Option Value} {base : Heap}
/-- t[:place] + (number,) + t[place + 1:], as the reading asks -/
theorem led_read {H : Hp} {p : Addr} {ns : List Int} {pl : Nat} {n : Int} {Q : VK} (hp : RowAt H p ns) (hpl : pl < ns.length) (k : ∀ q H', RowAt H' q (ns.set pl n) → Same H H' → Q (.ref q) H') :
    rSlTB (.ref p) none (some (pl : Int)) H fun x H1 => (∀ (q : Addr), H1 q = none → rCatB x (.ref q) (upd H1 q (.tup [.int n])) fun y H2 => rSlTB (.ref p) (some ((pl : Int) + 1)) none H2 fun z H3 => rCatB y z H3 Q) := by
  obtain ⟨h1, h2⟩ := hp
  refine ⟨p, _, rfl, h1, fun q1 H1 S1 hq1 q2 hq2 => ?_⟩
  rw [cutV_map, cut_to ns pl (by omega)] at hq1
  refine ⟨q1, q2, _, _, rfl, rfl, (upd_ne (ne_of_none hq1 hq2)).trans hq1, upd_same, size_le (by rw [List.length_map, List.length_take]; simp only [List.length_cons, List.length_nil]; omega), fun q3 H2 S2 hq3 => ?_⟩
  have S12 : Same H H2 := S1.trans ((Same.lay hq2).trans S2)
  refine ⟨p, _, rfl, S12 _ _ h1, fun q4 H3 S3 hq4 => ?_⟩
  rw [show (pl : Int) + 1 = ((pl + 1 : Nat) : Int) by omega, cutV_map, cut_from ns (pl + 1) (by omega)] at hq4
  refine ⟨q3, q4, _, _, rfl, rfl, S3 _ _ hq3, hq4, size_le (by simp only [List.length_map, List.length_take, List.length_drop, List.length_append, List.length_cons, List.length_nil]; omega), fun q5 H4 S4 hq5 => k q5 H4 ⟨?_, by rw [List.length_set]; exact h2⟩ (S12.trans (S3.trans S4))⟩
  rw [hq5, ← set_cut ns pl n hpl, List.map_append, List.map_append]; rfl
abbrev s_row_led : Stmt := top 20
theorem sc_row_led : FnScope ["row", "place", "number"] ["row", "place", "number"] (defScope s_row_led) := ⟨rfl, rfl, rfl, by decide +kernel, rfl, by decide +kernel, by decide +kernel⟩
theorem ok_row_led {f : Addr} {fd : FuncData} (F : Fun K "row_led" "row_led" s_row_led f fd) (T : Txt mg) : FnOk P w K mg base CX0 1 f fd ["row", "place", "number"] spLed := by
  refine F.ok sc_row_led (fun vs H Q E h => ?_) (fun cdv A outer s H vs Q E hr h => ?_)
  · obtain ⟨p, ns, pl, n, rfl, _⟩ := h
    rfl
  · obtain ⟨p, ns, pl, n, rfl, hp, hpl, k⟩ := h
    refine ⟨_, (pss_cons (ps_if (pt_not (pt_chain op_le op_lt pe_int (pv 1) (pe_callB (cLen (K := K) rfl) (by rfl) T.b_len PyProof.Rows.Boot.«len» (pa_cons (pv 0) pa_nil))))
        (pss_one ps_no)
        pss_nil)
      (pss_one (ps_ret (pe_op oCatB (pe_op oCatB (pe_slice slTB (pv 0) po_none (po_some (pv 1))) (pe_tup (pa_cons (pv 2) pa_nil))) (pe_slice slTB (pv 0) (po_some (pe_op op_add (pv 1) pe_int)) po_none))))), ?_⟩
    have hlm : (ns.map V.int).length = ns.length := List.length_map _
    refine ⟨_, rfl, _, _, rfl, rfl, _, rfl, ?_⟩
    rw [decide_eq_true (show (0 : Int) ≤ (pl : Int) by omega)]
    refine iteT ⟨_, rfl, p, _, rfl, .inr (SqT.of hp.1), _, _, rfl, rfl, _, rfl, ?_⟩
    rw [decide_eq_true (show (pl : Int) < ((ns.map V.int).length : Int) by omega)]
    refine iteF ?_
    refine ⟨_, rfl, _, rfl, _, rfl, ?_⟩
    obtain ⟨pp, xs, e1, e2, e3⟩ := led_read (Q := Q) hp hpl k
    refine ⟨pp, xs, e1, e2, fun q H' S hq => ?_⟩
    have := e3 q H' S hq
    refine ⟨_, rfl, by show 1 ≤ sizeLine; decide, fun q2 hq2 => ?_⟩
    obtain ⟨a, b, us, ws, z1, z2, z3, z4, z5, z6⟩ := this q2 hq2
    refine ⟨a, b, us, ws, z1, z2, z3, z4, z5, fun q3 H3 S3 hq3 => ?_⟩
    obtain ⟨pp', xs', e1', e2', e3'⟩ := z6 q3 H3 S3 hq3
    exact ⟨_, rfl, _, rfl, _, _, rfl, rfl, _, rfl, pp', xs', e1', e2', e3'⟩
abbrev s_init : Stmt := inClass (top 21) 0
abbrev s_put_number : Stmt := inClass (top 21) 1
abbrev s_take_number : Stmt := inClass (top 21) 2
abbrev s_lead_number : Stmt := inClass (top 21) 3
abbrev s_change_to : Stmt := inClass (top 21) 4
abbrev s_row_now : Stmt := inClass (top 21) 5
abbrev s_count_now : Stmt := inClass (top 21) 6
abbrev s_first_now : Stmt := inClass (top 21) 7
theorem sc_init : FnScope ["self", "row", "total"] ["self", "row", "total"] (defScope s_init) := ⟨rfl, rfl, rfl, by decide +kernel, rfl, by decide +kernel, by decide +kernel⟩
theorem ok_init {f C : Addr} {fd : FuncData} (F : Fun K "__init__" "KeptRow.__init__" s_init f fd) (T : Txt mg) (TC : TxtC K mg C) : FnOk P w K mg base CX0 1 f fd ["self", "row", "total"] (spInit C) := by
  refine F.ok sc_init (fun vs H Q E h => ?_) (fun cdv A outer s H vs Q E hr h => ?_)
  · obtain ⟨x, dx, p, ns, tot, rfl, _⟩ := h
    rfl
  · obtain ⟨x, dx, p, ns, tot, rfl, hx, hp, k⟩ := h
    refine ⟨_, (pss_cons (ps_fld (pv 0) (pe_callTy (cTuple (K := K) rfl) (by rfl) T.b_tuple PyProof.Rows.Boot.«tuple» (pa_cons (pv 1) pa_nil)) rfl)
      (pss_one (ps_fld (pv 0) (pv 2) rfl))), ?_⟩
    have npx : p ≠ x := ne_of hp.1 hx (by intro z; cases z)
    refine ⟨_, rfl, p, _, rfl, .inr ⟨SqT.of hp.1, _, rfl, x, C, dx, [], rfl, hx, TC.cl, TC.nN, (by show 0 < 1000; decide), ?_⟩⟩
    refine ⟨_, rfl, _, rfl, x, C, dx, _, rfl, upd_same, TC.cl, TC.nT, (by show 1 < 1000; decide), ?_⟩
    exact k _ ⟨⟨dx, upd_same⟩, by rw [RowAt, upd_ne npx, upd_ne npx]; exact hp⟩ fun b o e nb => by rw [upd_ne nb, upd_ne nb]; exact e
theorem sc_row_now : FnScope ["self"] ["self"] (defScope s_row_now) := ⟨rfl, rfl, rfl, by decide +kernel, rfl, by decide +kernel, by decide +kernel⟩
theorem ok_row_now {f C : Addr} {fd : FuncData} (F : Fun K "row_now" "KeptRow.row_now" s_row_now f fd) (TC : TxtC K mg C) : FnOk P w K mg base CX0 1 f fd ["self"] (spRowNow C) := by
  refine F.ok sc_row_now (fun vs H Q E h => ?_) (fun cdv A outer s H vs Q E hr h => ?_)
  · obtain ⟨x, p, ns, tot, rfl, _⟩ := h
    rfl
  · obtain ⟨x, p, ns, tot, rfl, ⟨⟨dx, hx⟩, hp⟩, k⟩ := h
    refine ⟨_, (pss_one (ps_ret (pe_fld (pv 0) rfl))), ?_⟩
    exact ⟨_, rfl, x, C, dx, _, _, rfl, hx, TC.cl, TC.nN, flds_num _ _, k⟩
theorem sc_count_now : FnScope ["self"] ["self"] (defScope s_count_now) := ⟨rfl, rfl, rfl, by decide +kernel, rfl, by decide +kernel, by decide +kernel⟩
theorem ok_count_now {f C fc : Addr} {fd fdc : FuncData} (F : Fun K "count_now" "KeptRow.count_now" s_count_now f fd) (TC : TxtC K mg C) (D_count_with : DefAt K mg "count_with" s_count_with ["row", "total"] fc fdc) (G_count_with : FnOk P w K mg base CX0 4 fc fdc ["row", "total"] spCount) : FnOk P w K mg base CX0 5 f fd ["self"] (spCountNow C) := by
  refine F.ok sc_count_now (fun vs H Q E h => ?_) (fun cdv A outer s H vs Q E hr h => ?_)
  · obtain ⟨x, p, ns, tot, rfl, _⟩ := h
    rfl
  · obtain ⟨x, p, ns, tot, rfl, ⟨⟨dx, hx⟩, hp⟩, k⟩ := h
    refine ⟨_, (pss_one (ps_ret (pe_call G_count_with (hr.mono (by first | decide | exact Nat.le_refl _)) rfl D_count_with.mg D_count_with.fn.kp D_count_with.bd .nil pass0 (pa_cons (pe_fld (pv 0) rfl) (pa_cons (pe_fld (pv 0) rfl) pa_nil))))), ?_⟩
    exact ⟨_, rfl, x, C, dx, _, _, rfl, hx, TC.cl, TC.nN, flds_num _ _, _, rfl, x, C, dx, _, _, rfl, hx, TC.cl, TC.nT, flds_tot _ _, p, ns, tot, rfl, hp, k⟩
theorem sc_first_now : FnScope ["self"] ["self"] (defScope s_first_now) := ⟨rfl, rfl, rfl, by decide +kernel, rfl, by decide +kernel, by decide +kernel⟩
theorem ok_first_now {f C fc : Addr} {fd fdc : FuncData} (F : Fun K "first_now" "KeptRow.first_now" s_first_now f fd) (TC : TxtC K mg C) (D_first_with : DefAt K mg "first_with" s_first_with ["row", "total"] fc fdc) (G_first_with : FnOk P w K mg base CX0 4 fc fdc ["row", "total"] (spAllOpt firstOf)) : FnOk P w K mg base CX0 5 f fd ["self"] (spOptNow C firstOf) := by
  refine F.ok sc_first_now (fun vs H Q E h => ?_) (fun cdv A outer s H vs Q E hr h => ?_)
  · obtain ⟨x, p, ns, tot, rfl, _⟩ := h
    rfl
  · obtain ⟨x, p, ns, tot, rfl, ⟨⟨dx, hx⟩, hp⟩, k⟩ := h
    refine ⟨_, (pss_one (ps_ret (pe_call G_first_with (hr.mono (by first | decide | exact Nat.le_refl _)) rfl D_first_with.mg D_first_with.fn.kp D_first_with.bd .nil pass0 (pa_cons (pe_fld (pv 0) rfl) (pa_cons (pe_fld (pv 0) rfl) pa_nil))))), ?_⟩
    exact ⟨_, rfl, x, C, dx, _, _, rfl, hx, TC.cl, TC.nN, flds_num _ _, _, rfl, x, C, dx, _, _, rfl, hx, TC.cl, TC.nT, flds_tot _ _, p, ns, tot, rfl, hp, k⟩
abbrev s_longest_now : Stmt := inClass (top 21) 8
theorem sc_longest_now : FnScope ["self"] ["self"] (defScope s_longest_now) := ⟨rfl, rfl, rfl, by decide +kernel, rfl, by decide +kernel, by decide +kernel⟩
theorem ok_longest_now {f C fc : Addr} {fd fdc : FuncData} (F : Fun K "longest_now" "KeptRow.longest_now" s_longest_now f fd) (TC : TxtC K mg C) (D_longest_with : DefAt K mg "longest_with" s_longest_with ["row", "total"] fc fdc) (G_longest_with : FnOk P w K mg base CX0 4 fc fdc ["row", "total"] (spAllOpt longOf)) : FnOk P w K mg base CX0 5 f fd ["self"] (spOptNow C longOf) := by
  refine F.ok sc_longest_now (fun vs H Q E h => ?_) (fun cdv A outer s H vs Q E hr h => ?_)
  · obtain ⟨x, p, ns, tot, rfl, _⟩ := h
    rfl
  · obtain ⟨x, p, ns, tot, rfl, ⟨⟨dx, hx⟩, hp⟩, k⟩ := h
    refine ⟨_, (pss_one (ps_ret (pe_call G_longest_with (hr.mono (by first | decide | exact Nat.le_refl _)) rfl D_longest_with.mg D_longest_with.fn.kp D_longest_with.bd .nil pass0 (pa_cons (pe_fld (pv 0) rfl) (pa_cons (pe_fld (pv 0) rfl) pa_nil))))), ?_⟩
    exact ⟨_, rfl, x, C, dx, _, _, rfl, hx, TC.cl, TC.nN, flds_num _ _, _, rfl, x, C, dx, _, _, rfl, hx, TC.cl, TC.nT, flds_tot _ _, p, ns, tot, rfl, hp, k⟩
theorem sc_change_to : FnScope ["self", "row", "ahead"] ["self", "row"] (defScope s_change_to) := ⟨rfl, rfl, rfl, by decide +kernel, rfl, by decide +kernel, by decide +kernel⟩
theorem ok_change_to {f C fc : Addr} {fd fdc : FuncData} (F : Fun K "change_to" "KeptRow.change_to" s_change_to f fd) (TC : TxtC K mg C) (M_count_now : MethAt K C "count_now" "KeptRow.count_now" s_count_now ["self"] fc fdc) (G_count_now : FnOk P w K mg base CX0 5 fc fdc ["self"] (spCountNow C)) : FnOk P w K mg base CX0 6 f fd ["self", "row"] (spChange C) := by
  refine F.ok sc_change_to (fun vs H Q E h => ?_) (fun cdv A outer s H vs Q E hr h => ?_)
  · obtain ⟨x, p, q, ns, ms, tot, rfl, _⟩ := h
    rfl
  · obtain ⟨x, p, q, ns, ms, tot, rfl, KA, hq, k⟩ := h
    obtain ⟨dx, hx⟩ := KA.ob
    refine ⟨_, (pss_cons (ps_set (i := 2) sc_change_to.nd rfl (Or.inl rfl) (pe_meth0 (pv 0) TC.cl M_count_now.mt G_count_now (hr.mono (by first | decide | exact Nat.le_refl _)) M_count_now.bd .nil pass0))
      (pss_cons (ps_fld (pv 0) (pv 1) rfl)
      (pss_one (ps_ret (pe_op op_sub (pe_meth0 (pv 0) TC.cl M_count_now.mt G_count_now (hr.mono (by first | decide | exact Nat.le_refl _)) M_count_now.bd .nil pass0) (pv 2)))))), ?_⟩
    refine ⟨_, rfl, x, dx, _, rfl, hx, flds_no _ _ (by decide +kernel) (by decide +kernel), x, p, ns, tot, rfl, KA, fun H1 S1 => ?_⟩
    have hx1 := S1 _ _ hx
    refine ⟨_, rfl, _, rfl, x, C, dx, _, rfl, hx1, TC.cl, TC.nN, (by rw [flds_eq]; show 2 < 1000; decide), ?_⟩
    have nqx : q ≠ x := ne_of hq.1 hx (by intro z; cases z)
    have KB : KeptAt C (upd H1 x (.ins C dx (putF "numbers" (.ref q) (flds p tot)))) x q ms tot := ⟨⟨dx, by rw [upd_same, flds_put]⟩, by rw [RowAt, upd_ne nqx]; exact hq.same S1⟩
    obtain ⟨dx2, hx2⟩ := KB.ob
    refine ⟨_, rfl, x, dx2, _, rfl, hx2, flds_no _ _ (by decide +kernel) (by decide +kernel), x, q, ms, tot, rfl, KB, fun H2 S2 => ?_⟩
    refine ⟨_, rfl, _, _, rfl, rfl, k H2 (KB.same S2) ?_⟩
    exact fun b o e nb => S2 _ _ (by rw [upd_ne nb]; exact S1 b o e)
theorem sc_put_number : FnScope ["self", "number"] ["self", "number"] (defScope s_put_number) := ⟨rfl, rfl, rfl, by decide +kernel, rfl, by decide +kernel, by decide +kernel⟩
theorem ok_put_number {f C fc : Addr} {fd fdc : FuncData} (F : Fun K "put_number" "KeptRow.put_number" s_put_number f fd) (TC : TxtC K mg C) (M_change_to : MethAt K C "change_to" "KeptRow.change_to" s_change_to ["self", "row"] fc fdc) (G_change_to : FnOk P w K mg base CX0 6 fc fdc ["self", "row"] (spChange C)) : FnOk P w K mg base CX0 7 f fd ["self", "number"] (spPut C) := by
  refine F.ok sc_put_number (fun vs H Q E h => ?_) (fun cdv A outer s H vs Q E hr h => ?_)
  · obtain ⟨x, p, ns, tot, n, rfl, _⟩ := h
    rfl
  · obtain ⟨x, p, ns, tot, n, rfl, KA, hl, k⟩ := h
    obtain ⟨dx, hx⟩ := KA.ob
    refine ⟨_, (pss_one (ps_ret (pe_meth (pv 0) TC.cl M_change_to.mt G_change_to (hr.mono (by first | decide | exact Nat.le_refl _)) M_change_to.bd .nil pass0 (pa_cons (pe_op oCatB (pe_fld (pv 0) rfl) (pe_tup (pa_cons (pv 1) pa_nil))) pa_nil)))), ?_⟩
    refine ⟨_, rfl, x, dx, _, rfl, hx, flds_no _ _ (by decide +kernel) (by decide +kernel), _, rfl, x, C, dx, _, _, rfl, hx, TC.cl, TC.nN, flds_num _ _, _, rfl, by show 1 ≤ sizeLine; decide, fun q1 hq1 => ?_⟩
    refine ⟨p, q1, _, _, rfl, rfl, (upd_ne (ne_of_none KA.rw.1 hq1)).trans KA.rw.1, upd_same, size_le (by rw [List.length_map]; simp only [List.length_cons, List.length_nil]; omega), fun q2 H2 S2 hq2 => ?_⟩
    have S : Same H H2 := (Same.lay hq1).trans S2
    have hr2 : RowAt H2 q2 (ns ++ [n]) := ⟨by rw [hq2, List.map_append]; rfl, by rw [List.length_append]; simp only [List.length_cons, List.length_nil]; omega⟩
    exact ⟨x, p, q2, ns, _, tot, rfl, KA.same S, hr2, fun H3 KB k3 => k q2 H3 KB (Kp.trans (Kp.of S) k3)⟩
theorem sc_take_number : FnScope ["self"] ["self"] (defScope s_take_number) := ⟨rfl, rfl, rfl, by decide +kernel, rfl, by decide +kernel, by decide +kernel⟩
theorem ok_take_number {f C fc : Addr} {fd fdc : FuncData} (F : Fun K "take_number" "KeptRow.take_number" s_take_number f fd) (TC : TxtC K mg C) (M_change_to : MethAt K C "change_to" "KeptRow.change_to" s_change_to ["self", "row"] fc fdc) (G_change_to : FnOk P w K mg base CX0 6 fc fdc ["self", "row"] (spChange C)) : FnOk P w K mg base CX0 7 f fd ["self"] (spTake' C) := by
  refine F.ok sc_take_number (fun vs H Q E h => ?_) (fun cdv A outer s H vs Q E hr h => ?_)
  · obtain ⟨x, p, ns, tot, rfl, _⟩ := h
    rfl
  · obtain ⟨x, p, ns, tot, rfl, KA, hl, k⟩ := h
    obtain ⟨dx, hx⟩ := KA.ob
    refine ⟨_, (pss_cons (ps_if (pt_not (pt_tup (pe_fld (pv 0) rfl)))
        (pss_one ps_no)
        pss_nil)
      (pss_one (ps_ret (pe_meth (pv 0) TC.cl M_change_to.mt G_change_to (hr.mono (by first | decide | exact Nat.le_refl _)) M_change_to.bd .nil pass0 (pa_cons (pe_slice slTB (pe_fld (pv 0) rfl) po_none (po_some (pe_un un_neg pe_int))) pa_nil))))), ?_⟩
    have hne : (!(ns.map V.int).isEmpty) = true := by cases ns with
      | nil => simp at hl
      | cons _ _ => rfl
    refine ⟨_, rfl, x, C, dx, _, _, rfl, hx, TC.cl, TC.nN, flds_num _ _, p, _, rfl, KA.rw.1, ?_⟩
    rw [hne]
    refine iteF ?_
    refine ⟨_, rfl, x, dx, _, rfl, hx, flds_no _ _ (by decide +kernel) (by decide +kernel), _, rfl, x, C, dx, _, _, rfl, hx, TC.cl, TC.nN, flds_num _ _, 1, rfl, _, rfl, p, _, rfl, KA.rw.1, fun q2 H2 S2 hq2 => ?_⟩
    have hr2 : RowAt H2 q2 ns.dropLast := ⟨by rw [hq2, cutV_map, cut_last ns hl], by rw [List.length_dropLast]; have := KA.rw.2; omega⟩
    exact ⟨x, p, q2, ns, _, tot, rfl, KA.same S2, hr2, fun H3 KB k3 => k q2 H3 KB (Kp.trans (Kp.of S2) k3)⟩
theorem sc_lead_number : FnScope ["self", "place", "number"] ["self", "place", "number"] (defScope s_lead_number) := ⟨rfl, rfl, rfl, by decide +kernel, rfl, by decide +kernel, by decide +kernel⟩
theorem ok_lead_number {f C fc fl : Addr} {fd fdc fdl : FuncData} (F : Fun K "lead_number" "KeptRow.lead_number" s_lead_number f fd) (T : Txt mg) (TC : TxtC K mg C) (M_change_to : MethAt K C "change_to" "KeptRow.change_to" s_change_to ["self", "row"] fc fdc) (G_change_to : FnOk P w K mg base CX0 6 fc fdc ["self", "row"] (spChange C))
    (D_row_led : DefAt K mg "row_led" s_row_led ["row", "place", "number"] fl fdl) : FnOk P w K mg base CX0 7 f fd ["self", "place", "number"] (spLead C) := by
  have G_row_led : FnOk P w K mg base CX0 1 fl fdl ["row", "place", "number"] spLed := ok_row_led D_row_led.fn T
  refine F.ok sc_lead_number (fun vs H Q E h => ?_) (fun cdv A outer s H vs Q E hr h => ?_)
  · obtain ⟨x, p, ns, tot, n, pl, rfl, _⟩ := h
    rfl
  · obtain ⟨x, p, ns, tot, n, pl, rfl, KA, hl, k⟩ := h
    obtain ⟨dx, hx⟩ := KA.ob
    refine ⟨_, (pss_one (ps_ret (pe_meth (pv 0) TC.cl M_change_to.mt G_change_to (hr.mono (by first | decide | exact Nat.le_refl _)) M_change_to.bd .nil pass0 (pa_cons (pe_call G_row_led (hr.mono (by first | decide | exact Nat.le_refl _)) rfl D_row_led.mg D_row_led.fn.kp D_row_led.bd .nil pass0 (pa_cons (pe_fld (pv 0) rfl) (pa_cons (pv 1) (pa_cons (pv 2) pa_nil)))) pa_nil)))), ?_⟩
    refine ⟨_, rfl, x, dx, _, rfl, hx, flds_no _ _ (by decide +kernel) (by decide +kernel), _, rfl, x, C, dx, _, _, rfl, hx, TC.cl, TC.nN, flds_num _ _, _, rfl, _, rfl, p, ns, pl, n, rfl, KA.rw, hl, fun q2 H2 hr2 S2 => ?_⟩
    exact ⟨x, p, q2, ns, _, tot, rfl, KA.same S2, hr2, fun H3 KB k3 => k q2 H3 KB (Kp.trans (Kp.of S2) k3)⟩
end
end My

namespace My
open PySem L2
def spLStr : Sp := fun vs H Q _ => ∃ p ns, vs = [.ref p] ∧ RowAt H p ns ∧ ∀ q xs H', H q = none → H' q = some (.lst xs) → TupsAt (g3 ns) H' xs (prs ns.length) → Same H H' → Q (.ref q) H'
section
variable {P : Program} {w : World} {K : PySem.W.Frag} {mg : Str → Option Value} {base : Heap}
abbrev s_law_stretches : Stmt := top 25
theorem sc_law_stretches : FnScope ["row", "found", "low", "total", "high"] ["row"] (defScope s_law_stretches) := ⟨rfl, rfl, rfl, by decide +kernel, rfl, by decide +kernel, by decide +kernel⟩
theorem ok_law_stretches {f : Addr} {fd : FuncData} (F : Fun K "_law_stretches" "_law_stretches" s_law_stretches f fd) (T : Txt mg) : FnOk P w K mg base CX0 1 f fd ["row"] spLStr := by
  refine F.ok sc_law_stretches (fun vs H Q E h => ?_) (fun cdv A outer s H vs Q E hr h => ?_)
  · obtain ⟨p, ns, rfl, _⟩ := h
    rfl
  · obtain ⟨p, ns, rfl, ⟨hp, hl⟩, k⟩ := h
    refine ⟨_, (pss_cons (ps_set (i := 1) sc_law_stretches.nd rfl (Or.inl rfl) (pe_lst pa_nil))
      (pss_cons (ps_for PassesOwn.never rfl (pi_range1 (by rfl) T.b_range (pa_cons (pe_callB (cLen (K := K) rfl) (by rfl) T.b_len PyProof.Rows.Boot.«len» (pa_cons (pv 0) pa_nil)) pa_nil)) (pg_name (i := 2) sc_law_stretches.nd rfl (Or.inl rfl))
        (pss_cons (ps_set (i := 3) sc_law_stretches.nd rfl (Or.inl rfl) pe_int)
        (pss_one (ps_for PassesOwn.never rfl (pi_range2 (by rfl) T.b_range (pa_cons (pe_op op_add (pv 2) pe_int) (pa_cons (pe_op op_add (pe_callB (cLen (K := K) rfl) (by rfl) T.b_len PyProof.Rows.Boot.«len» (pa_cons (pv 0) pa_nil)) pe_int) pa_nil))) (pg_name (i := 4) sc_law_stretches.nd rfl (Or.inl rfl))
          (pss_cons (ps_set (i := 3) sc_law_stretches.nd rfl (Or.inl rfl) (pe_op op_add (pv 3) (pe_ix (ixT (K := K) rfl) (pv 0) (pe_op op_sub (pv 4) pe_int) (fun _ _ => rfl))))
          (pss_one (ps_expr (pe_bm PySem.F.plainAttrs_list PySem.F.slot_list_append PySem.F.type_list_append mt_append (pv 1) (pa_cons (pe_tup (pa_cons (pv 2) (pa_cons (pv 4) (pa_cons (pv 3) pa_nil)))) pa_nil)))))))))
      (pss_one (ps_ret (pv 1))))), ?_⟩
    have hlm : (ns.map V.int).length = ns.length := List.length_map _
    refine ⟨by show 0 ≤ sizeLine; decide, fun l hl1 => ?_⟩
    have S1 : Same H (upd H l (.lst [])) := Same.lay hl1
    refine ⟨_, rfl, p, _, rfl, .inr (SqT.of (S1 _ _ hp)), _, rfl, by omega, by omega, for_range (n := ((ns.map V.int).length : Int).toNat) (fun i σ H' => ∃ (v2 v3 v4 : Option V) (xs : List V), σ = [some (.ref p), some (.ref l), v2, v3, v4] ∧ H' l = some (.lst xs) ∧ TupsAt (g3 ns) H' xs (prsTo ns.length i) ∧ xs.length ≤ i * 1000 ∧ Same H H') ?_ ?_ ?_⟩
    · exact ⟨none, none, none, [], rfl, upd_same, TupsAt.nil, by simp, S1⟩
    · rintro i σ H' hi ⟨v2, v3, v4, xs, rfl, ha, ht, hx, S'⟩
      refine ⟨_, rfl, _, _, rfl, rfl, _, rfl, p, _, rfl, .inr (SqT.of (S' _ _ hp)), _, _, rfl, rfl, _, _, rfl, ⟨by omega, by omega, by omega, by omega⟩, ?_⟩
      have ej : ((((ns.map V.int).length : Int) + 1) - (0 + (i : Int) + 1)).toNat = ns.length - i := by omega
      rw [ej]
      refine for_range (fun j σ H' => ∃ (v4 : Option V) (xs : List V), σ = [some (.ref p), some (.ref l), some (.int (0 + (i : Int))), some (.int (psum ns (i + j) - psum ns i)), v4] ∧ H' l = some (.lst xs) ∧ TupsAt (g3 ns) H' xs (prsTo ns.length i ++ from1 i j) ∧ xs.length ≤ i * 1000 + j ∧ Same H H') ?_ ?_ ?_
      · refine ⟨v4, xs, ?_, ha, by simpa [from1] using ht, by omega, S'⟩
        rw [Nat.add_zero, Int.sub_self]; rfl
      · rintro j σ H2 hj ⟨v4, xs, rfl, ha, ht, hx, S'⟩
        have hij : i + j < ns.length := by omega
        have hn : ns[i + j]? = some ns[i + j] := List.getElem?_eq_getElem hij
        have hat : atI (ns.map V.int) (0 + (i : Int) + 1 + (j : Int) - 1) = some (.int ns[i + j]) := by
          rw [show (0 : Int) + (i : Int) + 1 + (j : Int) - 1 = ((i + j : Nat) : Int) by omega]
          exact atI_nat (by rw [List.getElem?_map, hn]; rfl)
        refine ⟨_, rfl, _, rfl, _, rfl, _, _, rfl, rfl, p, _, _, _, rfl, rfl, SqT.of (S' _ _ hp), hat, _, _, rfl, rfl, ?_⟩
        refine ⟨_, rfl, .inl ⟨rfl, _, SqL.of ha⟩, _, rfl, _, rfl, _, rfl, by show 3 ≤ sizeLine; decide, fun a hna => ⟨l, xs, _, rfl, rfl, (upd_ne (ne_of_none ha hna)).trans ha, size_lt (by omega), ?_⟩⟩
        have e3 : psum ns (i + j) - psum ns i + ns[i + j] = psum ns (i + 1 + j) - psum ns i := by
          rw [show i + 1 + j = i + j + 1 by omega, psum_succ hn]; omega
        refine ⟨some (.int (0 + (i : Int) + 1 + (j : Int))), xs ++ [.ref a], ?_, upd_same, ?_, by rw [List.length_append]; simp only [List.length_cons, List.length_nil]; omega, ?_⟩
        · rw [show i + (j + 1) = i + 1 + j by omega, ← e3]; rfl
        · have e1 : (0 : Int) + (i : Int) = ((i : Nat) : Int) := by omega
          have e2 : (0 : Int) + (i : Int) + 1 + (j : Int) = ((i + 1 + j : Nat) : Int) := by omega
          rw [from1_succ, ← List.append_assoc]
          refine TupsAt.snoc (ht.mono fun b zs e => ?_) ?_
          · rw [upd_ne (ne_of e ha (by intro z; cases z)), upd_ne (ne_of_none e hna)]; exact e
          · rw [upd_ne (Ne.symm (ne_of_none ha hna)), upd_same, e2, e1]
            show some (HO.tup [V.int (i : Int), V.int ((i + 1 + j : Nat) : Int), V.int (psum ns (i + j) - psum ns i + ns[i + j])]) = _
            rw [e3]; rfl
        · exact fun b o e => by rw [upd_ne (ne_of_none e hl1), upd_ne (ne_of_none (S' b o e) hna)]; exact S' b o e
      · rintro σ H2 ⟨v4, xs, rfl, ha, ht, hx, S'⟩
        exact ⟨_, _, _, xs, rfl, ha, by rw [prsTo_succ]; exact ht, by omega, S'⟩
    · rintro σ H' ⟨v2, v3, v4, xs, rfl, ha, ht, hx, S'⟩
      have e : (((ns.map V.int).length : Int)).toNat = ns.length := by omega
      rw [e] at ht
      exact ⟨_, rfl, k l xs H' hl1 ha ht S'⟩
end
end My

namespace My
open PySem L2
/-- two values that look alike, to a depth -/
def Alk (H : Hp) : Nat → V → V → Prop
  | 0, x, y => x = y ∧ ((∃ i, x = .int i) ∨ x = .non)
  | n + 1, x, y => (x = y ∧ ((∃ i, x = .int i) ∨ x = .non)) ∨ ∃ (a1 a2 : Addr) (xs ys : List V), x = .ref a1 ∧ y = .ref a2 ∧ H a1 = some (.tup xs) ∧ H a2 = some (.tup ys) ∧ xs.length = ys.length ∧
      ∀ (i : Nat) (x' y' : V), xs[i]? = some x' → ys[i]? = some y' → Alk H n x' y'
theorem Alk.mono {H H' : Hp} (s : Same H H') : ∀ {n : Nat} {x y : V}, Alk H n x y → Alk H' n x y
  | 0, _, _, h => h
  | n + 1, _, _, h => by
    rcases h with h | ⟨a1, a2, xs, ys, e1, e2, h1, h2, hl, hi⟩
    · exact .inl h
    · exact .inr ⟨a1, a2, xs, ys, e1, e2, s _ _ h1, s _ _ h2, hl, fun i x' y' g1 g2 => (hi i x' y' g1 g2).mono s⟩
def spAlk (n : Nat) : Sp := fun vs H Q _ => ∃ x y, vs = [x, y] ∧ Alk H n x y ∧ ∀ H', Same H H' → Q (.bl true) H'
section
variable {P : Program} {w : World} {K : PySem.W.Frag} {mg : Str → Option Value} {base : Heap}
abbrev s_law_alike : Stmt := top 27
theorem sc_law_alike : FnScope ["found", "due"] ["found", "due"] (defScope s_law_alike) := ⟨rfl, rfl, rfl, by decide +kernel, rfl, by decide +kernel, by decide +kernel⟩
theorem alike_body {f : Addr} {fd : FuncData} (n : Nat) (sp' : Sp) (hsp : ∀ m x y H (Q : VK) E, n = m + 1 → Alk H m x y → (∀ H', Same H H' → Q (.bl true) H') → sp' [x, y] H Q E) (T : Txt mg)
    (D__law_alike : DefAt K mg "_law_alike" s_law_alike ["found", "due"] f fd) (G__law_alike : FnOk P w K mg base CX0 n f fd ["found", "due"] sp') : FnOk P w K mg base CX0 (n + 1) f fd ["found", "due"] (spAlk n) := by
  refine D__law_alike.fn.ok sc_law_alike (fun vs H Q E h => ?_) (fun cdv A outer s H vs Q E hr h => ?_)
  · obtain ⟨x, y, rfl, _⟩ := h
    rfl
  · obtain ⟨x, y, rfl, hA, k⟩ := h
    have hu := hr.units0
    refine ⟨_, (pss_cons (ps_if (pt_cmpR op_isN (pv 1) pe_non (nomark _))
        (pss_one (ps_ret (pe_cmpR op_isN (pv 0) pe_non (nomark _))))
        pss_nil)
      (pss_cons (ps_if (pt_val (pe_callB (cIsi (K := K) rfl) (by rfl) T.b_isinstance PyProof.Rows.Boot.«isinstance» (pa_cons (pv 1) (pa_cons (pe_ty (by rfl) T.b_tuple PyProof.Rows.Boot.«tuple») pa_nil))))
        (pss_cons (ps_if (PW.pt (pw_or (pt_not (pt_val (pe_callB (cIsi (K := K) rfl) (by rfl) T.b_isinstance PyProof.Rows.Boot.«isinstance» (pa_cons (pv 0) (pa_cons (pe_ty (by rfl) T.b_tuple PyProof.Rows.Boot.«tuple») pa_nil))))) (pw_or1 (pt_cmpR op_ne (pe_callB (cLen (K := K) rfl) (by rfl) T.b_len PyProof.Rows.Boot.«len» (pa_cons (pv 0) pa_nil)) (pe_callB (cLen (K := K) rfl) (by rfl) T.b_len PyProof.Rows.Boot.«len» (pa_cons (pv 1) pa_nil)) (nomark _)))))
          (pss_one (ps_ret pe_bl))
          pss_nil)
        (pss_one (ps_ret (pe_cmpR (oEq (K := K) rfl false hu) (pe_comp (N := ["one", "other"]) (cap := [none, none]) rfl (show blkOk ["found", "due"] (defScope s_law_alike) ["one", "other"] [none, none] _ = true by decide +kernel) (piZ (K := K) rfl true true (by rfl) T.b_zip (pa_cons (pv 0) (pa_cons (pv 1) pa_nil))) (fun cl C s3 H3 fp => ⟨(pgT (K := K) (n := 2) rfl rfl (pgs_cons (pg_name (i := 0) (show (["one", "other"] : List Str).Nodup by decide +kernel) rfl (Or.inl rfl)) (pgs_cons (pg_name (i := 1) (show (["one", "other"] : List Str).Nodup by decide +kernel) rfl (Or.inl rfl)) pgs_nil))), (pts_one (pt_not (pt_val (pe_call G__law_alike (hr.mono (by first | decide | exact Nat.le_refl _)) rfl D__law_alike.mg D__law_alike.fn.kp D__law_alike.bd .nil pass0 (pa_cons (pv 0) (pa_cons (pv 1) pa_nil)))))), fun it acc => (paf_emit rfl pe_int)⟩)) (pe_lst pa_nil) (nomark _)))))
        pss_nil)
      (pss_one (ps_ret (pe_and (pe_callB (cIsi (K := K) rfl) (by rfl) T.b_isinstance PyProof.Rows.Boot.«isinstance» (pa_cons (pv 0) (pa_cons (pe_ty (by rfl) T.b_int PyProof.Rows.Boot.«int») pa_nil))) (pe_and (pe_not (pe_callB (cIsi (K := K) rfl) (by rfl) T.b_isinstance PyProof.Rows.Boot.«isinstance» (pa_cons (pv 0) (pa_cons (pe_ty (by rfl) T.b_bool PyProof.Rows.Boot.«bool») pa_nil)))) (pe_one (pe_cmpR op_eq (pv 0) (pv 1) (nomark _))))))))), ?_⟩
    have scal : (x = y ∧ ((∃ i, x = .int i) ∨ x = .non)) ∨ ∃ m, n = m + 1 ∧ ∃ (a1 a2 : Addr) (xs ys : List V), x = .ref a1 ∧ y = .ref a2 ∧ H a1 = some (.tup xs) ∧ H a2 = some (.tup ys) ∧ xs.length = ys.length ∧
      ∀ (i : Nat) (x' y' : V), xs[i]? = some x' → ys[i]? = some y' → Alk H m x' y' := by
      cases n with
      | zero => exact .inl hA
      | succ m =>
        rcases hA with h | h
        · exact .inl h
        · exact .inr ⟨m, rfl, h⟩
    rcases scal with ⟨rfl, hsc⟩ | ⟨m, hm, a1, a2, xs, ys, rfl, rfl, h1, h2, hl, hi⟩
    · rcases hsc with ⟨i, rfl⟩ | rfl
      · refine ⟨_, rfl, rfl, _, rfl, ?_⟩
        refine ⟨_, rfl, _, _, _, false, rfl, .int i, .inl ⟨"tuple", rfl, rfl⟩, _, rfl, ?_⟩
        refine ⟨_, rfl, _, _, _, true, rfl, .int i, .inl ⟨"int", rfl, rfl⟩, _, rfl, _, rfl, _, _, _, false, rfl, .int i, .inl ⟨"bool", rfl, rfl⟩, _, rfl, _, rfl, ?_⟩
        refine ⟨_, rfl, _, rfl, rfl, ?_⟩
        rw [decide_eq_true rfl]
        exact k _ (Same.refl _)
      · refine ⟨_, rfl, rfl, _, rfl, ?_⟩
        refine ⟨_, rfl, rfl, ?_⟩
        rw [decide_eq_true rfl]
        exact k _ (Same.refl _)
    · refine ⟨_, rfl, rfl, _, rfl, ?_⟩
      refine ⟨_, rfl, _, _, _, true, rfl, .tup h2, .inl ⟨"tuple", rfl, rfl⟩, _, rfl, ?_⟩
      refine ⟨_, rfl, _, _, _, true, rfl, .tup h1, .inl ⟨"tuple", rfl, rfl⟩, _, rfl, ?_⟩
      refine iteB ⟨_, rfl, a1, _, rfl, .inr (SqT.of h1), _, rfl, a2, _, rfl, .inr (SqT.of h2), rfl, _, rfl, iteNS (by rw [hl]) ?_⟩
      refine ⟨_, rfl, _, rfl, a1, a2, xs, ys, rfl, SqT.of h1, SqT.of h2, fun acc hacc => ?_⟩
      refine walk_zip (xs := xs) (ys := ys) (fun i σ H' => ∃ (v1 v2 : Option V), σ = [v1, v2] ∧ Same H H' ∧ H' acc = some (.lst [])) ?_ ?_ ?_ ?_
      · exact ⟨none, none, rfl, Same.lay hacc, upd_same⟩
      · rintro i σ H' _ ⟨v1, v2, rfl, S', _⟩
        exact ⟨SqT.of (S' _ _ h1), SqT.of (S' _ _ h2)⟩
      · rintro i x' y' q σ H' hx hy hq ⟨v1, v2, rfl, S', ha⟩
        refine ⟨q, _, rfl, SqT.of upd_same, rfl, _, _, rfl, _, _, rfl, rfl, _, rfl, _, rfl, ?_⟩
        refine hsp m x' y' _ _ _ hm ((hi i x' y' hx hy).mono (S'.trans (Same.lay hq))) fun H2 S2 => ⟨true, rfl, iteB ?_⟩
        exact ⟨_, _, rfl, S'.trans ((Same.lay hq).trans S2), S2 _ _ ((upd_ne (ne_of_none ha hq)).trans ha)⟩
      · rintro σ H' ⟨v1, v2, rfl, S', ha⟩
        exact ⟨by show 0 ≤ sizeLine; decide, fun l hl' => ⟨acc, l, [], [], rfl, rfl, SqL.of ((upd_ne (ne_of_none ha hl')).trans ha), SqL.of upd_same, rfl, rfl, k _ (S'.trans (Same.lay hl'))⟩⟩
theorem ok_alike {f : Addr} {fd : FuncData} (T : Txt mg) (D : DefAt K mg "_law_alike" s_law_alike ["found", "due"] f fd) : ∀ n, FnOk P w K mg base CX0 (n + 1) f fd ["found", "due"] (spAlk n)
  | 0 => alike_body 0 (fun _ _ _ _ => False) (fun m _ _ _ _ _ e _ _ => by cases e) T D ⟨fun _ _ _ _ h => h.elim, fun _ _ _ _ _ _ _ _ _ _ _ _ _ h => h.elim⟩
  | n + 1 => alike_body (n + 1) (spAlk n) (fun m x y H Q E e hA q => by cases e; exact ⟨x, y, rfl, hA, q⟩) T D (ok_alike T D n)
end
theorem OptAt.alk {H : Hp} {v u : V} {o : Option (Nat × Nat)} (h1 : OptAt H v o) (h2 : OptAt H u o) : Alk H 1 v u := by
  cases o with
  | none => exact .inl ⟨(show v = .non from h1).trans (show u = .non from h2).symm, .inr h1⟩
  | some p =>
    obtain ⟨a, rfl, e1⟩ := h1
    obtain ⟨b, rfl, e2⟩ := h2
    refine .inr ⟨a, b, _, _, rfl, rfl, e1, e2, rfl, fun j x' y' q1 q2 => ?_⟩
    rw [q1] at q2; cases q2
    have : x' ∈ g2 p := List.mem_of_getElem? q1
    unfold g2 at this
    simp only [List.mem_cons, List.not_mem_nil, or_false] at this
    rcases this with rfl | rfl
    · exact ⟨rfl, .inl ⟨_, rfl⟩⟩
    · exact ⟨rfl, .inl ⟨_, rfl⟩⟩
end My

namespace My
open PySem L2
def bestTo (b : Bool) (ps : List (Nat × Nat)) (i : Nat) : Option (Nat × Nat) := (pick (fun i k => if b then decide (kLen ps i < kLen ps k) else decide (kLen ps k < kLen ps i)) i).bind fun j => ps[j]?
theorem kLen_at {ps : List (Nat × Nat)} {i : Nat} {p : Nat × Nat} (h : ps[i]? = some p) : kLen ps i = (p.2 : Int) - (p.1 : Int) := by
  unfold kLen
  simp [List.getD, h]
theorem bestTo_none {b : Bool} {ps : List (Nat × Nat)} {i : Nat} {p : Nat × Nat} (hi : ps[i]? = some p) (h : bestTo b ps i = none) : bestTo b ps (i + 1) = some p := by
  have hl : i < ps.length := (List.getElem?_eq_some_iff.mp hi).1
  unfold bestTo at h ⊢
  unfold pick
  cases e : pick (fun i k => if b then decide (kLen ps i < kLen ps k) else decide (kLen ps k < kLen ps i)) i with
  | none => exact hi
  | some j =>
    rw [e] at h
    have := pick_lt e
    have h' : ps[j]? = none := h
    rw [List.getElem?_eq_none_iff] at h'
    omega
theorem bestTo_some {b : Bool} {ps : List (Nat × Nat)} {i : Nat} {p q : Nat × Nat} (hi : ps[i]? = some p) (h : bestTo b ps i = some q) :
    bestTo b ps (i + 1) = if (if b then decide ((p.2 : Int) - p.1 < (q.2 : Int) - q.1) else decide ((q.2 : Int) - q.1 < (p.2 : Int) - p.1)) = true then some p else some q := by
  unfold bestTo at h ⊢
  unfold pick
  cases e : pick (fun i k => if b then decide (kLen ps i < kLen ps k) else decide (kLen ps k < kLen ps i)) i with
  | none => rw [e] at h; cases h
  | some j =>
    rw [e] at h
    have h' : ps[j]? = some q := h
    simp only [kLen_at hi, kLen_at h']
    by_cases c : (if b then decide ((p.2 : Int) - p.1 < (q.2 : Int) - q.1) else decide ((q.2 : Int) - q.1 < (p.2 : Int) - p.1)) = true
    · rw [if_pos c, if_pos c]; exact hi
    · rw [if_neg c, if_neg c]; exact h'
theorem firstTo_succ {ps : List (Nat × Nat)} {i : Nat} {p : Nat × Nat} (hi : ps[i]? = some p) : (ps.take (i + 1))[0]? = if i = 0 then some p else (ps.take i)[0]? := by
  rw [List.getElem?_take_of_lt (by omega)]
  split
  · next h => subst h; exact hi
  · rw [List.getElem?_take_of_lt (by omega)]
theorem step_long {K : PySem.W.Frag} {ps : List (Nat × Nat)} {i : Nat} {p : Nat × Nat} {w v1 v2 v3 : V} {H : Hp} {D : Ends} (hi : ps[i]? = some p) (ho : OptAt H v2 (bestTo false ps i))
    (k : ∀ v H', OptAt H' v (bestTo false ps (i + 1)) → Same H H' → D.nx [some w, some v1, some v, some v3, some (.int (p.1 : Int)), some (.int (p.2 : Int))] H') :
    tIfS (tOr (tTest (tOp (fun x y H Q => y = V.non ∧ Q (V.bl (decide (x = V.non))) H) (tVar 2) (tC V.non)))
              (tTest
                (tOp (rI0 fun i j => V.bl (decide (j < i))) (tOp (rI0 fun i j => V.int (i - j)) (tVar 5) (tVar 4))
                  (tOp (rI0 fun i j => V.int (i - j)) (tOp (rIxT K) (tVar 2) (tC (V.int 1)))
                    (tOp (rIxT K) (tVar 2) (tC (V.int 0)))))))
            (tAsg (tTup (tCons (tVar 4) (tCons (tVar 5) tNil))) (gName 2)) tNext D [some w, some v1, some v2, some v3, some (.int (p.1 : Int)), some (.int (p.2 : Int))] H := by
  cases hb : bestTo false ps i with
  | none =>
    rw [hb] at ho
    have ho : v2 = .non := ho
    subst ho
    refine ⟨_, rfl, rfl, _, rfl, ite2 (fun _ => iteT ?_) (fun e => absurd rfl e)⟩
    refine ⟨_, rfl, _, rfl, by show 2 ≤ sizeLine; decide, fun q hq => k _ _ ?_ (Same.lay hq)⟩
    rw [bestTo_none hi hb]
    exact ⟨q, rfl, upd_same⟩
  | some q =>
    rw [hb] at ho
    obtain ⟨a, rfl, ha⟩ := ho
    refine ⟨_, rfl, rfl, _, rfl, ite2 (fun e => absurd (of_decide_eq_true e) (by intro z; cases z)) (fun _ => ?_)⟩
    refine ⟨_, rfl, _, rfl, _, _, rfl, rfl, _, rfl, a, _, 1, _, rfl, rfl, SqT.of ha, rfl, _, rfl, a, _, 0, _, rfl, rfl, SqT.of ha, rfl, _, _, rfl, rfl, _, _, rfl, rfl, _, rfl, ite2 (fun e => ?_) (fun e => ?_)⟩
    · refine ⟨_, rfl, _, rfl, by show 2 ≤ sizeLine; decide, fun q' hq => k _ _ ?_ (Same.lay hq)⟩
      rw [bestTo_some hi hb, if_pos (by simpa using e)]
      exact ⟨q', rfl, upd_same⟩
    · refine k (.ref a) _ ?_ (Same.refl _)
      rw [bestTo_some hi hb, if_neg (by simpa using e)]
      exact ⟨a, rfl, ha⟩
theorem step_short {K : PySem.W.Frag} {ps : List (Nat × Nat)} {i : Nat} {p : Nat × Nat} {w v1 v2 v3 : V} {H : Hp} {D : Ends} (hi : ps[i]? = some p) (ho : OptAt H v3 (bestTo true ps i))
    (k : ∀ v H', OptAt H' v (bestTo true ps (i + 1)) → Same H H' → D.nx [some w, some v1, some v2, some v, some (.int (p.1 : Int)), some (.int (p.2 : Int))] H') :
    tIfS (tOr (tTest (tOp (fun x y H Q => y = V.non ∧ Q (V.bl (decide (x = V.non))) H) (tVar 3) (tC V.non)))
              (tTest
                (tOp (rI0 fun i j => V.bl (decide (i < j))) (tOp (rI0 fun i j => V.int (i - j)) (tVar 5) (tVar 4))
                  (tOp (rI0 fun i j => V.int (i - j)) (tOp (rIxT K) (tVar 3) (tC (V.int 1)))
                    (tOp (rIxT K) (tVar 3) (tC (V.int 0)))))))
            (tAsg (tTup (tCons (tVar 4) (tCons (tVar 5) tNil))) (gName 3)) tNext D [some w, some v1, some v2, some v3, some (.int (p.1 : Int)), some (.int (p.2 : Int))] H := by
  cases hb : bestTo true ps i with
  | none =>
    rw [hb] at ho
    have ho : v3 = .non := ho
    subst ho
    refine ⟨_, rfl, rfl, _, rfl, ite2 (fun _ => iteT ?_) (fun e => absurd rfl e)⟩
    refine ⟨_, rfl, _, rfl, by show 2 ≤ sizeLine; decide, fun q hq => k _ _ ?_ (Same.lay hq)⟩
    rw [bestTo_none hi hb]
    exact ⟨q, rfl, upd_same⟩
  | some q =>
    rw [hb] at ho
    obtain ⟨a, rfl, ha⟩ := ho
    refine ⟨_, rfl, rfl, _, rfl, ite2 (fun e => absurd (of_decide_eq_true e) (by intro z; cases z)) (fun _ => ?_)⟩
    refine ⟨_, rfl, _, rfl, _, _, rfl, rfl, _, rfl, a, _, 1, _, rfl, rfl, SqT.of ha, rfl, _, rfl, a, _, 0, _, rfl, rfl, SqT.of ha, rfl, _, _, rfl, rfl, _, _, rfl, rfl, _, rfl, ite2 (fun e => ?_) (fun e => ?_)⟩
    · refine ⟨_, rfl, _, rfl, by show 2 ≤ sizeLine; decide, fun q' hq => k _ _ ?_ (Same.lay hq)⟩
      rw [bestTo_some hi hb, if_pos (by simpa using e)]
      exact ⟨q', rfl, upd_same⟩
    · refine k (.ref a) _ ?_ (Same.refl _)
      rw [bestTo_some hi hb, if_neg (by simpa using e)]
      exact ⟨a, rfl, ha⟩
def spPicked : Sp := fun vs H Q _ => ∃ (l : Addr) (xs : List V) (ps : List (Nat × Nat)), vs = [.ref l] ∧ H l = some (.lst xs) ∧ TupsAt g2 H xs ps ∧
  ∀ q v1 v2 v3 H', H q = none → H' q = some (.lst [.int (ps.length : Int), v1, v2, v3]) → OptAt H' v1 (firstOf ps) → OptAt H' v2 (longOf ps) → OptAt H' v3 (shortOf ps) → Same H H' → Q (.ref q) H'
section
variable {P : Program} {w : World} {K : PySem.W.Frag} {mg : Str → Option Value} {base : Heap}
abbrev s_law_picked : Stmt := top 26
theorem sc_law_picked : FnScope ["some", "first", "longest", "shortest", "low", "high"] ["some"] (defScope s_law_picked) := ⟨rfl, rfl, rfl, by decide +kernel, rfl, by decide +kernel, by decide +kernel⟩
theorem OptAt.up {H H' : Hp} {v : V} {o : Option (Nat × Nat)} (h : OptAt H v o) (s : Same H H') : OptAt H' v o := h.mono s
theorem ok_picked {f : Addr} {fd : FuncData} (F : Fun K "_law_picked" "_law_picked" s_law_picked f fd) (T : Txt mg) : FnOk P w K mg base CX0 1 f fd ["some"] spPicked := by
  refine F.ok sc_law_picked (fun vs H Q E h => ?_) (fun cdv A outer s H vs Q E hr h => ?_)
  · obtain ⟨l, xs, ps, rfl, _⟩ := h
    rfl
  · obtain ⟨l, xs, ps, rfl, hl, ht, k⟩ := h
    refine ⟨_, (pss_cons (ps_set (i := 1) sc_law_picked.nd rfl (Or.inl rfl) pe_non)
      (pss_cons (ps_set (i := 2) sc_law_picked.nd rfl (Or.inl rfl) pe_non)
      (pss_cons (ps_set (i := 3) sc_law_picked.nd rfl (Or.inl rfl) pe_non)
      (pss_cons (ps_for PassesOwn.never rfl (piL (K := K) rfl (pv 0)) (pgT (K := K) (n := 2) rfl rfl (pgs_cons (pg_name (i := 4) sc_law_picked.nd rfl (Or.inl rfl)) (pgs_cons (pg_name (i := 5) sc_law_picked.nd rfl (Or.inl rfl)) pgs_nil)))
        (pss_cons (ps_if (pt_cmpR op_isN (pv 1) pe_non (nomark _))
          (pss_one (ps_set (i := 1) sc_law_picked.nd rfl (Or.inl rfl) (pe_tup (pa_cons (pv 4) (pa_cons (pv 5) pa_nil)))))
          pss_nil)
        (pss_cons (ps_if (PW.pt (pw_or (pt_cmpR op_isN (pv 2) pe_non (nomark _)) (pw_or1 (pt_cmpR op_gt (pe_op op_sub (pv 5) (pv 4)) (pe_op op_sub (pe_ix (ixT (K := K) rfl) (pv 2) pe_int (fun _ _ => rfl)) (pe_ix (ixT (K := K) rfl) (pv 2) pe_int (fun _ _ => rfl))) (nomark _)))))
          (pss_one (ps_set (i := 2) sc_law_picked.nd rfl (Or.inl rfl) (pe_tup (pa_cons (pv 4) (pa_cons (pv 5) pa_nil)))))
          pss_nil)
        (pss_one (ps_if (PW.pt (pw_or (pt_cmpR op_isN (pv 3) pe_non (nomark _)) (pw_or1 (pt_cmpR op_lt (pe_op op_sub (pv 5) (pv 4)) (pe_op op_sub (pe_ix (ixT (K := K) rfl) (pv 3) pe_int (fun _ _ => rfl)) (pe_ix (ixT (K := K) rfl) (pv 3) pe_int (fun _ _ => rfl))) (nomark _)))))
          (pss_one (ps_set (i := 3) sc_law_picked.nd rfl (Or.inl rfl) (pe_tup (pa_cons (pv 4) (pa_cons (pv 5) pa_nil)))))
          pss_nil)))))
      (pss_one (ps_ret (pe_lst (pa_cons (pe_callB (cLen (K := K) rfl) (by rfl) T.b_len PyProof.Rows.Boot.«len» (pa_cons (pv 0) pa_nil)) (pa_cons (pv 1) (pa_cons (pv 2) (pa_cons (pv 3) pa_nil))))))))))), ?_⟩
    refine ⟨_, rfl, l, rfl, ⟨_, SqL.of hl⟩, for_list (xs := xs) (fun i σ H' => ∃ (v1 v2 v3 : V) (v4 v5 : Option V), σ = [some (.ref l), some v1, some v2, some v3, v4, v5] ∧ OptAt H' v1 (ps.take i)[0]? ∧ OptAt H' v2 (bestTo false ps i) ∧ OptAt H' v3 (bestTo true ps i) ∧ Same H H') ?_ ?_ ?_ ?_⟩
    · exact ⟨.non, .non, .non, none, none, rfl, rfl, rfl, rfl, Same.refl _⟩
    · rintro i σ H' _ ⟨v1, v2, v3, v4, v5, rfl, _, _, _, S'⟩
      exact SqL.of (S' _ _ hl)
    · rintro i y σ H' hy ⟨v1, v2, v3, v4, v5, rfl, o1, o2, o3, S'⟩
      have hi : i < ps.length := by rw [← ht.1]; exact (List.getElem?_eq_some_iff.mp hy).1
      have hg : ps[i]? = some ps[i] := List.getElem?_eq_getElem hi
      obtain ⟨a, e1, e2⟩ := ht.2 i _ hg
      rw [hy] at e1; cases e1
      generalize ps[i] = p at e2 hg
      refine ⟨a, _, rfl, SqT.of (S' _ _ e2), rfl, _, _, rfl, _, _, rfl, rfl, ?_⟩
      have rest : ∀ (v1 : V) (H3 : Hp), OptAt H3 v1 (ps.take (i + 1))[0]? → OptAt H3 v2 (bestTo false ps i) → OptAt H3 v3 (bestTo true ps i) → Same H' H3 → ∀ D : Ends, (∀ v1 v2 v3 H4, OptAt H4 v1 (ps.take (i + 1))[0]? → OptAt H4 v2 (bestTo false ps (i + 1)) → OptAt H4 v3 (bestTo true ps (i + 1)) → Same H' H4 → D.nx [some (.ref l), some v1, some v2, some v3, some (.int (p.1 : Int)), some (.int (p.2 : Int))] H4) →
          tSeq (tIfS
            (tOr (tTest (tOp (fun x y H Q => y = V.non ∧ Q (V.bl (decide (x = V.non))) H) (tVar 2) (tC V.non)))
              (tTest
                (tOp (rI0 fun i j => V.bl (decide (j < i))) (tOp (rI0 fun i j => V.int (i - j)) (tVar 5) (tVar 4))
                  (tOp (rI0 fun i j => V.int (i - j)) (tOp (rIxT K) (tVar 2) (tC (V.int 1)))
                    (tOp (rIxT K) (tVar 2) (tC (V.int 0)))))))
            (tAsg (tTup (tCons (tVar 4) (tCons (tVar 5) tNil))) (gName 2)) tNext)
          (tIfS
            (tOr (tTest (tOp (fun x y H Q => y = V.non ∧ Q (V.bl (decide (x = V.non))) H) (tVar 3) (tC V.non)))
              (tTest
                (tOp (rI0 fun i j => V.bl (decide (i < j))) (tOp (rI0 fun i j => V.int (i - j)) (tVar 5) (tVar 4))
                  (tOp (rI0 fun i j => V.int (i - j)) (tOp (rIxT K) (tVar 3) (tC (V.int 1)))
                    (tOp (rIxT K) (tVar 3) (tC (V.int 0)))))))
            (tAsg (tTup (tCons (tVar 4) (tCons (tVar 5) tNil))) (gName 3)) tNext) D [some (.ref l), some v1, some v2, some v3, some (.int (p.1 : Int)), some (.int (p.2 : Int))] H3 := fun v1 H3 q1 q2 q3 T3 D kk =>
        step_long hg q2 fun v2' H4 q2' T4 => step_short hg (q3.up T4) fun v3' H5 q3' T5 => kk v1 v2' v3' H5 (q1.up (T4.trans T5)) (q2'.up T5) q3' (T3.trans (T4.trans T5))
      have fin : ∀ v1 v2 v3 H4, OptAt H4 v1 (ps.take (i + 1))[0]? → OptAt H4 v2 (bestTo false ps (i + 1)) → OptAt H4 v3 (bestTo true ps (i + 1)) → Same H' H4 → ∃ (v1' v2' v3' : V) (v4 v5 : Option V), [some (.ref l), some v1, some v2, some v3, some (.int (p.1 : Int)), some (.int (p.2 : Int))] = [some (.ref l), some v1', some v2', some v3', v4, v5] ∧ OptAt H4 v1' (ps.take (i + 1))[0]? ∧ OptAt H4 v2' (bestTo false ps (i + 1)) ∧ OptAt H4 v3' (bestTo true ps (i + 1)) ∧ Same H H4 :=
        fun v1 v2 v3 H4 q1 q2 q3 T4 => ⟨v1, v2, v3, _, _, rfl, q1, q2, q3, S'.trans T4⟩
      rw [firstTo_succ hg] at rest fin
      cases i with
      | zero =>
        have o1' : v1 = .non := o1
        subst o1'
        refine ⟨_, rfl, rfl, _, rfl, ite2 (fun _ => ?_) (fun e => absurd rfl e)⟩
        refine ⟨_, rfl, _, rfl, by show 2 ≤ sizeLine; decide, fun q hq => ?_⟩
        refine rest _ _ ⟨q, rfl, upd_same⟩ (o2.up (Same.lay hq)) (o3.up (Same.lay hq)) (Same.lay hq) _ ?_
        intro v1 v2 v3 H4 q1 q2 q3 T4
        rw [firstTo_succ hg]
        exact fin v1 v2 v3 H4 q1 q2 q3 T4
      | succ i' =>
        have hlt : 0 < ps.length := by omega
        have e0 : (ps.take (i' + 1))[0]? = some ps[0] := by rw [List.getElem?_take_of_lt (by omega)]; exact List.getElem?_eq_getElem hlt
        rw [if_neg (by omega)] at rest fin
        have o1' := o1
        rw [e0] at o1'
        obtain ⟨a0, rfl, _⟩ := o1'
        refine ⟨_, rfl, rfl, _, rfl, ite2 (fun e => absurd (of_decide_eq_true e) (by intro z; cases z)) (fun _ => ?_)⟩
        refine rest _ _ o1 o2 o3 (Same.refl _) _ ?_
        intro v1 v2 v3 H4 q1 q2 q3 T4
        rw [firstTo_succ hg, if_neg (by omega)]
        exact fin v1 v2 v3 H4 q1 q2 q3 T4
    · rintro σ H' ⟨v1, v2, v3, v4, v5, rfl, o1, o2, o3, S'⟩
      refine ⟨_, rfl, l, _, rfl, .inl (SqL.of (S' _ _ hl)), _, rfl, _, rfl, _, rfl, by show 4 ≤ sizeLine; decide, fun q hq => ?_⟩
      have S2 := S'.trans (Same.lay (o := .lst [.int (xs.length : Int), v1, v2, v3]) hq)
      rw [ht.1] at o1 o2 o3
      refine k q v1 v2 v3 _ (S'.free hq) (by rw [upd_same, ht.1]) ?_ (o2.up (Same.lay hq)) (o3.up (Same.lay hq)) S2
      rw [List.take_length] at o1
      exact o1.up (Same.lay hq)
end
end My

namespace My
open PySem L2
/-- [(low, high) for low, high, drawn in every if drawn == total] -/
theorem comp_hits3 {K : PySem.W.Frag} {acc ev : Addr} {ns : List Int} {es : List V} {tot : Int} {N : St → Hp → Prop} {H8 : Hp} (hl' : ns.length ≤ 1000) (hev : H8 ev = some (.lst es)) (htr : TupsAt (g3 ns) H8 es (prs ns.length)) (hacc : H8 acc = none)
    (hN : ∀ σ xs H', H' acc = some (.lst xs) → TupsAt g2 H' xs (hitsBy ns (eqT tot)) → Same H8 H' → N σ H') :
    bWalk (Itl K ev) (gTup K 3 (gCons (gName 0) (gCons (gName 1) (gCons (gName 2) gNil)))) (tTest (tOp rEq (tVar 2) (tVar 3))) (bEmit acc (tTup (tCons (tVar 0) (tCons (tVar 1) tNil)))) N [none, none, none, some (.int tot)] (upd H8 acc (.lst [])) := by
  have plen := prs_len ns.length hl'
  refine walk_list (xs := es) (fun i σ H' => ∃ (u1 u2 u3 : Option V) (xs : List V), σ = [u1, u2, u3, some (.int tot)] ∧ H' acc = some (.lst xs) ∧ TupsAt g2 H' xs (((prs ns.length).take i).filter (My.hb ns (eqT tot))) ∧ Same H8 H') ?_ ?_ ?_ ?_
  · exact ⟨none, none, none, [], rfl, upd_same, by simpa using TupsAt.nil, Same.lay hacc⟩
  · rintro i σ H' _ ⟨u1, u2, u3, xs, rfl, ha, ht, S'⟩
    exact SqL.of (S' _ _ hev)
  · rintro i y σ H' hy ⟨u1, u2, u3, xs, rfl, ha, ht, S'⟩
    have hi : i < (prs ns.length).length := by rw [← htr.1]; exact (List.getElem?_eq_some_iff.mp hy).1
    obtain ⟨b, e1, e2⟩ := htr.2 i _ (List.getElem?_eq_getElem hi)
    rw [hy] at e1
    have e1 : y = .ref b := Option.some.inj e1
    subst e1
    obtain ⟨⟨lo, hi'⟩, hpr⟩ : ∃ pr, (prs ns.length)[i] = pr := ⟨_, rfl⟩
    have hg : (prs ns.length)[i]? = some (lo, hi') := by rw [List.getElem?_eq_getElem hi, hpr]
    rw [hpr] at e2
    have xlen : xs.length ≤ 1000000 := by
      rw [ht.1]
      exact Nat.le_trans (List.length_filter_le _ _) (by rw [List.length_take]; omega)
    refine ⟨b, _, rfl, SqT.of (S' _ _ e2), rfl, _, _, rfl, _, _, rfl, _, _, rfl, rfl, ?_⟩
    refine ⟨_, rfl, _, rfl, rfl, _, rfl, ?_⟩
    refine ite2 (fun e => ?_) (fun e => ?_)
    · have hh : My.hb ns (eqT tot) (lo, hi') = true := by
        rw [decide_eq_true_eq] at e
        injection e with e
        exact decide_eq_true e
      refine ⟨_, rfl, _, rfl, by show 2 ≤ sizeLine; decide, fun b2 hb2 => ⟨xs, (upd_ne (ne_of_none ha hb2)).trans ha, size_lt xlen, _, _, _, _, rfl, upd_same, ?_, ?_⟩⟩
      · rw [filter_take_succ _ hg, hh]
        refine TupsAt.snoc (ht.mono fun c zs e => ?_) ?_
        · rw [upd_ne (ne_of e ha (by intro z; cases z)), upd_ne (ne_of_none e hb2)]; exact e
        · rw [upd_ne (Ne.symm (ne_of_none ha hb2)), upd_same]; rfl
      · exact fun c o e => by rw [upd_ne (ne_of_none e hacc), upd_ne (ne_of_none (S' c o e) hb2)]; exact S' c o e
    · have hh : My.hb ns (eqT tot) (lo, hi') = false := by
        refine decide_eq_false fun z => e ?_
        exact decide_eq_true (congrArg V.int z)
      refine ⟨_, _, _, xs, rfl, ha, ?_, S'⟩
      rw [filter_take_succ _ hg, hh]
      simpa using ht
  · rintro σ H9 ⟨u1, u2, u3, xs, rfl, ha, ht, S9'⟩
    rw [htr.1, List.take_length] at ht
    exact hN _ xs H9 ha ht S9'
end My

namespace My
open PySem L2
theorem OptAt.kp {x : Addr} {H H' : Hp} {v : V} {o : Option (Nat × Nat)} (h : OptAt H v o) (k : Kp x H H') (hx : ∀ a zs, H a = some (.tup zs) → a ≠ x) : OptAt H' v o := by
  cases o with
  | none => exact h
  | some p => obtain ⟨a, e1, e2⟩ := h; exact ⟨a, e1, k _ _ e2 (hx _ _ e2)⟩
theorem OptAt.alk1 {H : Hp} {v u : V} {o : Option (Nat × Nat)} (h1 : OptAt H v o) (h2 : OptAt H u o) : Alk H 1 v u := by
  cases o with
  | none =>
    have e1 : v = .non := h1
    have e2 : u = .non := h2
    subst e1 e2
    exact .inl ⟨rfl, .inr rfl⟩
  | some p =>
    obtain ⟨a, rfl, e1⟩ := h1
    obtain ⟨b, rfl, e2⟩ := h2
    refine .inr ⟨a, b, _, _, rfl, rfl, e1, e2, rfl, fun j x y hx hy => ?_⟩
    rw [hx] at hy
    cases hy
    have hm := List.mem_of_getElem? hx
    unfold g2 at hm
    simp only [List.mem_cons, List.not_mem_nil, or_false] at hm
    rcases hm with rfl | rfl
    · exact ⟨rfl, .inl ⟨_, rfl⟩⟩
    · exact ⟨rfl, .inl ⟨_, rfl⟩⟩
theorem RowAt.alk {H : Hp} {p q : Addr} {ns : List Int} (h1 : RowAt H p ns) (h2 : RowAt H q ns) : Alk H 1 (.ref p) (.ref q) := by
  refine .inr ⟨p, q, _, _, rfl, rfl, h1.1, h2.1, rfl, fun j x y hx hy => ?_⟩
  rw [hx] at hy
  cases hy
  rw [List.getElem?_map] at hx
  obtain ⟨i, _, rfl⟩ := Option.map_eq_some_iff.mp hx
  exact ⟨rfl, .inl ⟨_, rfl⟩⟩
/-- what is due of a row -/
def DueAt (H : Hp) (d : Addr) (ns : List Int) (tot : Int) : Prop := ∃ p v1 v2, H d = some (.tup [.ref p, .int (cnt ns tot), v1, v2]) ∧ RowAt H p ns ∧ OptAt H v1 (firstOf (hitsBy ns (eqT tot))) ∧ OptAt H v2 (longOf (hitsBy ns (eqT tot)))
theorem DueAt.tups {H H' : Hp} {d : Addr} {ns : List Int} {tot : Int} (h : DueAt H d ns tot) (s : ∀ a zs, H a = some (.tup zs) → H' a = some (.tup zs)) : DueAt H' d ns tot := by
  obtain ⟨p, v1, v2, h1, h2, h3, h4⟩ := h
  have up : ∀ {v : V} {o : Option (Nat × Nat)}, OptAt H v o → OptAt H' v o := fun {v o} h => by
    cases o with
    | none => exact h
    | some p => obtain ⟨a, e1, e2⟩ := h; exact ⟨a, e1, s _ _ e2⟩
  exact ⟨p, v1, v2, s _ _ h1, ⟨s _ _ h2.1, h2.2⟩, up h3, up h4⟩
theorem DueAt.same {H H' : Hp} {d : Addr} {ns : List Int} {tot : Int} (h : DueAt H d ns tot) (s : Same H H') : DueAt H' d ns tot := h.tups (same_tup s)
/-- one of the four that are told -/
def OneAt (H : Hp) (v : V) (w : Nat) (ns : List Int) (tot : Int) : Prop := (w = 0 → ∃ p, v = .ref p ∧ RowAt H p ns) ∧ (w = 1 → v = .int (cnt ns tot)) ∧ (w = 2 → OptAt H v (firstOf (hitsBy ns (eqT tot)))) ∧ (w = 3 → OptAt H v (longOf (hitsBy ns (eqT tot))))
def spDue : Sp := fun vs H Q _ => ∃ (p : Addr) (ns : List Int) (tot : Int), vs = [.ref p, .int tot] ∧ RowAt H p ns ∧ ∀ d H', DueAt H' d ns tot → Same H H' → Q (.ref d) H'
def spOne (C : Addr) : Sp := fun vs H Q _ => ∃ (x p : Addr) (ns : List Int) (tot : Int) (w : Nat), vs = [.ref x, .int (w : Int)] ∧ w < 4 ∧ KeptAt C H x p ns tot ∧ ∀ v H', OneAt H' v w ns tot → Same H H' → Q v H'
def spAsked (C : Addr) : Sp := fun vs H Q _ => ∃ (x p d : Addr) (ns : List Int) (tot n : Int), vs = [.ref x, .ref d, .int n] ∧ KeptAt C H x p ns tot ∧ DueAt H d ns tot ∧ 0 ≤ n ∧ ∀ H', Same H H' → Q (.bl true) H'
section
variable {P : Program} {w : World} {K : PySem.W.Frag} {mg : Str → Option Value} {base : Heap}
abbrev s_law_due : Stmt := top 28
theorem sc_law_due : FnScope ["row", "total", "some", "count", "first", "longest", "shortest"] ["row", "total"] (defScope s_law_due) := ⟨rfl, rfl, rfl, by decide +kernel, rfl, by decide +kernel, by decide +kernel⟩
theorem ok_law_due {f f1 f2 : Addr} {fd fd1 fd2 : FuncData} (F : Fun K "_law_due" "_law_due" s_law_due f fd) (T : Txt mg) (D__law_stretches : DefAt K mg "_law_stretches" s_law_stretches ["row"] f1 fd1) (D__law_picked : DefAt K mg "_law_picked" s_law_picked ["some"] f2 fd2) : FnOk P w K mg base CX0 2 f fd ["row", "total"] spDue := by
  have G__law_stretches : FnOk P w K mg base CX0 1 f1 fd1 ["row"] spLStr := ok_law_stretches D__law_stretches.fn T
  have G__law_picked : FnOk P w K mg base CX0 1 f2 fd2 ["some"] spPicked := ok_picked D__law_picked.fn T
  refine F.ok sc_law_due (fun vs H Q E h => ?_) (fun cdv A outer s H vs Q E hr h => ?_)
  · obtain ⟨p, ns, tot, rfl, _⟩ := h
    rfl
  · obtain ⟨p, ns, tot, rfl, hp, k⟩ := h
    refine ⟨_, (pss_cons (ps_setComp (i := 2) (hN := sc_law_due.nd) (hy := rfl) (hx := rfl) (N := ["low", "high", "own", "total"]) (cap := [none, none, none, some 1]) (hc := rfl) (hok := (show blkOk ["row", "total", "some", "count", "first", "longest", "shortest"] (defScope s_law_due) ["low", "high", "own", "total"] [none, none, none, some 1] _ = true by decide +kernel) ) (hi := (piL (K := K) rfl (pe_call G__law_stretches (hr.mono (by first | decide | exact Nat.le_refl _)) rfl D__law_stretches.mg D__law_stretches.fn.kp D__law_stretches.bd .nil pass0 (pa_cons (pv 0) pa_nil)))) (hb := fun cl C s3 H3 fp => ⟨(pgT (K := K) (n := 3) rfl rfl (pgs_cons (pg_name (i := 0) (show (["low", "high", "own", "total"] : List Str).Nodup by decide +kernel) rfl (Or.inl rfl)) (pgs_cons (pg_name (i := 1) (show (["low", "high", "own", "total"] : List Str).Nodup by decide +kernel) rfl (Or.inl rfl)) (pgs_cons (pg_name (i := 2) (show (["low", "high", "own", "total"] : List Str).Nodup by decide +kernel) rfl (Or.inl rfl)) pgs_nil)))), (pts_one (pt_cmpR op_eq (pv 2) (pv 3) (nomark _))), fun it acc => (paf_emit rfl (pe_tup (pa_cons (pv 0) (pa_cons (pv 1) pa_nil))))⟩))
      (pss_cons (ps_asg (pe_call G__law_picked (hr.mono (by first | decide | exact Nat.le_refl _)) rfl D__law_picked.mg D__law_picked.fn.kp D__law_picked.bd .nil pass0 (pa_cons (pv 2) pa_nil)) (pgL (K := K) (n := 4) rfl rfl (pgs_cons (pg_name (i := 3) sc_law_due.nd rfl (Or.inl rfl)) (pgs_cons (pg_name (i := 4) sc_law_due.nd rfl (Or.inl rfl)) (pgs_cons (pg_name (i := 5) sc_law_due.nd rfl (Or.inl rfl)) (pgs_cons (pg_name (i := 6) sc_law_due.nd rfl (Or.inl rfl)) pgs_nil))))))
      (pss_one (ps_ret (pe_tup (pa_cons (pv 0) (pa_cons (pv 3) (pa_cons (pv 4) (pa_cons (pv 5) pa_nil))))))))), ?_⟩
    refine ⟨_, rfl, p, ns, rfl, hp, fun ev es H1 _ hev htr S1 => ⟨ev, rfl, ⟨_, SqL.of hev⟩, fun acc hacc => ?_⟩⟩
    refine comp_hits3 hp.2 hev htr hacc ?_
    intro σ' xs H2 ha ht S2
    refine ⟨_, rfl, acc, xs, _, rfl, ha, ht, fun q v1 v2 v3 H3 _ hq o1 o2 _ S3 => ⟨q, _, rfl, SqL.of hq, rfl, _, _, rfl, _, _, rfl, _, _, rfl, _, _, rfl, rfl, ?_⟩⟩
    have S := S1.trans (S2.trans S3)
    exact ⟨_, rfl, _, rfl, _, rfl, _, rfl, by show 4 ≤ sizeLine; decide, fun d hd => k d _ ⟨p, v1, v2, upd_same, (hp.same S).same (Same.lay hd), o1.mono (Same.lay hd), o2.mono (Same.lay hd)⟩ (S.trans (Same.lay hd))⟩
abbrev s_law_one : Stmt := top 29
theorem sc_law_one : FnScope ["kept", "way"] ["kept", "way"] (defScope s_law_one) := ⟨rfl, rfl, rfl, by decide +kernel, rfl, by decide +kernel, by decide +kernel⟩
theorem ok_law_one {f C f1 f2 f3 f4 : Addr} {fd fd1 fd2 fd3 fd4 : FuncData} (F : Fun K "_law_one" "_law_one" s_law_one f fd) (TC : TxtC K mg C) (M_row_now : MethAt K C "row_now" "KeptRow.row_now" s_row_now ["self"] f1 fd1) (G_row_now : FnOk P w K mg base CX0 1 f1 fd1 ["self"] (spRowNow C))
    (M_count_now : MethAt K C "count_now" "KeptRow.count_now" s_count_now ["self"] f2 fd2) (G_count_now : FnOk P w K mg base CX0 5 f2 fd2 ["self"] (spCountNow C)) (M_first_now : MethAt K C "first_now" "KeptRow.first_now" s_first_now ["self"] f3 fd3) (G_first_now : FnOk P w K mg base CX0 5 f3 fd3 ["self"] (spOptNow C firstOf))
    (M_longest_now : MethAt K C "longest_now" "KeptRow.longest_now" s_longest_now ["self"] f4 fd4) (G_longest_now : FnOk P w K mg base CX0 5 f4 fd4 ["self"] (spOptNow C longOf)) : FnOk P w K mg base CX0 6 f fd ["kept", "way"] (spOne C) := by
  refine F.ok sc_law_one (fun vs H Q E h => ?_) (fun cdv A outer s H vs Q E hr h => ?_)
  · obtain ⟨x, p, ns, tot, w, rfl, _⟩ := h
    rfl
  · obtain ⟨x, p, ns, tot, w, rfl, hw, KA, k⟩ := h
    obtain ⟨dx, hx⟩ := KA.ob
    refine ⟨_, (pss_cons (ps_if (pt_cmpR op_eq (pv 1) pe_int (nomark _))
        (pss_one (ps_ret (pe_meth0 (pv 0) TC.cl M_row_now.mt G_row_now (hr.mono (by first | decide | exact Nat.le_refl _)) M_row_now.bd .nil pass0)))
        pss_nil)
      (pss_cons (ps_if (pt_cmpR op_eq (pv 1) pe_int (nomark _))
        (pss_one (ps_ret (pe_meth0 (pv 0) TC.cl M_count_now.mt G_count_now (hr.mono (by first | decide | exact Nat.le_refl _)) M_count_now.bd .nil pass0)))
        pss_nil)
      (pss_cons (ps_if (pt_cmpR op_eq (pv 1) pe_int (nomark _))
        (pss_one (ps_ret (pe_meth0 (pv 0) TC.cl M_first_now.mt G_first_now (hr.mono (by first | decide | exact Nat.le_refl _)) M_first_now.bd .nil pass0)))
        pss_nil)
      (pss_one (ps_ret (pe_meth0 (pv 0) TC.cl M_longest_now.mt G_longest_now (hr.mono (by first | decide | exact Nat.le_refl _)) M_longest_now.bd .nil pass0)))))), ?_⟩
    have no : ∀ {m : Str}, ¬ m = "total" → ¬ m = "numbers" → (flds p tot).lookup m = none := fun h1 h2 => flds_no _ _ h1 h2
    match w, hw with
    | 0, _ =>
      refine ⟨_, rfl, rfl, _, rfl, iteT ⟨_, rfl, x, dx, _, rfl, hx, no (by decide +kernel) (by decide +kernel), x, p, ns, tot, rfl, KA, ?_⟩⟩
      exact k _ _ ⟨fun _ => ⟨p, rfl, KA.rw⟩, fun z => by omega, fun z => by omega, fun z => by omega⟩ (Same.refl _)
    | 1, _ =>
      refine ⟨_, rfl, rfl, _, rfl, iteF ⟨_, rfl, rfl, _, rfl, iteT ⟨_, rfl, x, dx, _, rfl, hx, no (by decide +kernel) (by decide +kernel), x, p, ns, tot, rfl, KA, fun H1 S1 => ?_⟩⟩⟩
      exact k _ _ ⟨fun z => by omega, fun _ => rfl, fun z => by omega, fun z => by omega⟩ S1
    | 2, _ =>
      refine ⟨_, rfl, rfl, _, rfl, iteF ⟨_, rfl, rfl, _, rfl, iteF ⟨_, rfl, rfl, _, rfl, iteT ⟨_, rfl, x, dx, _, rfl, hx, no (by decide +kernel) (by decide +kernel), x, p, ns, tot, rfl, KA, fun v H1 o S1 => ?_⟩⟩⟩⟩
      exact k _ _ ⟨fun z => by omega, fun z => by omega, fun _ => o, fun z => by omega⟩ S1
    | 3, _ =>
      refine ⟨_, rfl, rfl, _, rfl, iteF ⟨_, rfl, rfl, _, rfl, iteF ⟨_, rfl, rfl, _, rfl, iteF ⟨_, rfl, x, dx, _, rfl, hx, no (by decide +kernel) (by decide +kernel), x, p, ns, tot, rfl, KA, fun v H1 o S1 => ?_⟩⟩⟩⟩
      exact k _ _ ⟨fun z => by omega, fun z => by omega, fun z => by omega, fun _ => o⟩ S1
abbrev s_law_asked_right : Stmt := top 30
theorem sc_law_asked_right : FnScope ["kept", "due", "number", "k", "way"] ["kept", "due", "number"] (defScope s_law_asked_right) := ⟨rfl, rfl, rfl, by decide +kernel, rfl, by decide +kernel, by decide +kernel⟩
theorem ok_law_asked {f C f1 f2 : Addr} {fd fd1 fd2 : FuncData} (F : Fun K "_law_asked_right" "_law_asked_right" s_law_asked_right f fd) (T : Txt mg) (D__law_one : DefAt K mg "_law_one" s_law_one ["kept", "way"] f1 fd1) (G__law_one : FnOk P w K mg base CX0 6 f1 fd1 ["kept", "way"] (spOne C))
    (D__law_alike : DefAt K mg "_law_alike" s_law_alike ["found", "due"] f2 fd2) : FnOk P w K mg base CX0 7 f fd ["kept", "due", "number"] (spAsked C) := by
  have G__law_alike : FnOk P w K mg base CX0 2 f2 fd2 ["found", "due"] (spAlk 1) := ok_alike T D__law_alike 1
  refine F.ok sc_law_asked_right (fun vs H Q E h => ?_) (fun cdv A outer s H vs Q E hr h => ?_)
  · obtain ⟨x, p, d, ns, tot, n, rfl, _⟩ := h
    rfl
  · obtain ⟨x, p, d, ns, tot, n, rfl, KA, DA, n0, k⟩ := h
    refine ⟨_, (pss_cons (ps_for PassesOwn.never rfl (pi_range1 (by rfl) T.b_range (pa_cons pe_int pa_nil)) (pg_name (i := 3) sc_law_asked_right.nd rfl (Or.inl rfl))
        (pss_cons (ps_set (i := 4) sc_law_asked_right.nd rfl (Or.inl rfl) (pe_op op_mod (pe_op op_add (pe_op op_fdiv (pv 2) pe_int) (pe_op op_mul (pe_ix (ixL (K := K) rfl) (pe_lst (pa_cons pe_int (pa_cons pe_int pa_nil))) (pe_op op_mod (pe_op op_fdiv (pv 2) pe_int) pe_int) (fun _ _ => rfl)) (pv 3))) pe_int))
        (pss_one (ps_if (PW.pt (pw_and (pt_cmpR op_eq (pe_op op_and (pe_op op_shr (pv 2) (pv 4)) pe_int) pe_int (nomark _)) (pw_and1 (pt_not (pt_val (pe_call G__law_alike (hr.mono (by first | decide | exact Nat.le_refl _)) rfl D__law_alike.mg D__law_alike.fn.kp D__law_alike.bd .nil pass0 (pa_cons (pe_call G__law_one (hr.mono (by first | decide | exact Nat.le_refl _)) rfl D__law_one.mg D__law_one.fn.kp D__law_one.bd .nil pass0 (pa_cons (pv 0) (pa_cons (pv 4) pa_nil))) (pa_cons (pe_ix (ixT (K := K) rfl) (pv 1) (pv 4) (fun _ _ => rfl)) pa_nil))))))))
          (pss_one (ps_ret pe_bl))
          pss_nil))))
      (pss_one (ps_ret pe_bl))), ?_⟩
    refine ⟨_, rfl, by decide, by decide, for_range (n := 4) (fun i σ H' => ∃ v3 v4 : Option V, σ = [some (.ref x), some (.ref d), some (.int n), v3, v4] ∧ Same H H') ⟨_, _, rfl, Same.refl _⟩ ?_ ?_⟩
    · rintro i σ H1 hi ⟨v3, v4, rfl, S1⟩
      -- way
      refine ⟨_, rfl, _, _, rfl, rfl, ⟨by decide, by decide⟩, by show 2 ≤ sizeLine; decide, fun l hl => ⟨_, rfl, _, _, rfl, rfl, ⟨by decide, by decide⟩, _, _, rfl, rfl, (by show (0 : Int) < _; decide), ?_⟩⟩
      have ⟨w0, w1⟩ := mod_lt (n / 64) 2 (by decide)
      obtain ⟨c, hc, hcm, _⟩ := atI_ints [1, 3] w0 w1
      have hc13 : c = 1 ∨ c = 3 := by simpa using hcm
      refine ⟨l, _, _, _, rfl, rfl, SqL.of upd_same, hc, _, rfl, _, _, rfl, rfl, .inl (by omega), _, _, rfl, rfl, _, _, rfl, rfl, (by show (0 : Int) < _; decide), ?_⟩
      have S2 := S1.trans (Same.lay (o := .lst ([1, 3].map V.int)) hl)
      have ⟨y0, y1⟩ := mod_lt (n / 16 + c * (0 + (i : Int))) 4 (by decide)
      obtain ⟨wy, hwy⟩ := Int.eq_ofNat_of_zero_le y0
      dsimp only [gName]
      rw [hwy] at y1 ⊢
      -- number >> way & 1 == 1 and ..
      refine ⟨_, rfl, _, rfl, _, _, rfl, rfl, (by show (0 : Int) ≤ _; omega), _, _, rfl, rfl, rfl, _, rfl, ite2 (fun _ => ?_) (fun _ => iteF ⟨_, _, rfl, S2⟩)⟩
      refine ⟨_, rfl, _, rfl, x, p, ns, tot, wy, rfl, by omega, KA.same S2, fun v H3 O3 S3 => ?_⟩
      obtain ⟨pd, u1, u2, d1, d2, d3, d4⟩ := DA.same (S2.trans S3)
      have h4 : wy < 4 := by omega
      have fin : ∀ y, [V.ref pd, .int (cnt ns tot), u1, u2][wy]? = some y → Alk H3 1 v y := fun y hy => by
        match wy, h4, hy with
        | 0, _, hy => obtain ⟨q, rfl, hq⟩ := O3.1 rfl; cases hy; exact RowAt.alk hq d2
        | 1, _, hy => have := O3.2.1 rfl; subst this; cases hy; exact .inl ⟨rfl, .inl ⟨_, rfl⟩⟩
        | 2, _, hy => cases hy; exact (O3.2.2.1 rfl).alk1 d3
        | 3, _, hy => cases hy; exact (O3.2.2.2 rfl).alk1 d4
      have hlt : wy < [V.ref pd, .int (cnt ns tot), u1, u2].length := h4
      refine ⟨_, rfl, _, rfl, d, _, _, _, rfl, rfl, SqT.of d1, atI_nat (List.getElem?_eq_getElem hlt), _, _, rfl, fin _ (List.getElem?_eq_getElem hlt), fun H4 S4 => ⟨true, rfl, iteB ⟨_, _, rfl, S2.trans (S3.trans S4)⟩⟩⟩
    · rintro σ H1 ⟨v3, v4, rfl, S1⟩
      exact k H1 S1
end
end My

namespace L2
open PySem PySem.Spec PyProof.Rows
/-! ### the program's classes of exceptions -/
structure XNm (K : PySem.W.Frag) (mg : Str → Option Value) (x : Str) (C : Addr) : Prop where
  mg : mg x = some (.ref C)
structure XSp (K : PySem.W.Frag) (mg : Str → Option Value) (x : Str) (C : Addr) : Prop where
  mg : mg x = some (.ref C)
  sup : XSup K C
structure XRz (K : PySem.W.Frag) (mg : Str → Option Value) (x : Str) (C : Addr) : Prop where
  mg : mg x = some (.ref C)
  ex : PySem.W.excIn K C bmV "ValueError.__new__" = true
  cl : XCls K C
end L2

namespace My
open PySem L2
/-- the classes, as NoPlace stands among them -/
structure XRel (K : PySem.W.Frag) (S R Ak Rs St Tx : Addr) : Prop where
  sub : PySem.W.mroIn K R (.ref S) = some true
  val : PySem.W.kitOne K (.ref R) (.type "ValueError") = some true
  oth : PySem.W.kitAny K (.ref R) [.ref Ak, .ref Rs, .ref St, .ref Tx] = some false
theorem kit_self {K : PySem.W.Frag} {R : Addr} : PySem.W.kitOne K (.ref R) (.ref R) = some true := by
  unfold PySem.W.kitOne
  rw [if_pos (beq_self_eq_true _)]
def spTakeB (C R : Addr) : Sp := fun vs H Q E => ∃ (x p : Addr) (tot : Int), vs = [.ref x] ∧ KeptAt C H x p [] tot ∧ ∀ H', Same H H' → E (.ref R) none H'
def spLedB (R : Addr) : Sp := fun vs H Q E => ∃ (p : Addr) (ns : List Int) (pl n : Int), vs = [.ref p, .int pl, .int n] ∧ RowAt H p ns ∧ ¬ (0 ≤ pl ∧ pl < (ns.length : Int)) ∧ ∀ H', Same H H' → E (.ref R) none H'
def spLeadB (C R : Addr) : Sp := fun vs H Q E => ∃ (x p : Addr) (ns : List Int) (tot pl n : Int), vs = [.ref x, .int pl, .int n] ∧ KeptAt C H x p ns tot ∧ ¬ (0 ≤ pl ∧ pl < (ns.length : Int)) ∧ ∀ H', Same H H' → E (.ref R) none H'
/-- a place that the row has not -/
def NoPl (ns : List Int) (v : V) : Prop := (v = .non ∧ ns = []) ∨ ∃ pl : Int, v = .int pl ∧ ¬ (0 ≤ pl ∧ pl < (ns.length : Int))
def spRefK (C : Addr) : Sp := fun vs H Q _ => ∃ (x p : Addr) (ns : List Int) (tot n : Int) (v : V), vs = [.ref x, v, .int n] ∧ KeptAt C H x p ns tot ∧ NoPl ns v ∧ ∀ H', Same H H' → Q (.bl true) H'
section
variable {P : Program} {w : World} {K : PySem.W.Frag} {mg : Str → Option Value} {base : Heap} {C S R Ak Rs St Tx : Addr}
theorem bad_row_led {f : Addr} {fd : FuncData} (F : Fun K "row_led" "row_led" s_row_led f fd) (T : Txt mg) (X_NoPlace : XRz K mg "NoPlace" R) : FnOk P w K mg base (CXx P w) 1 f fd ["row", "place", "number"] (spLedB R) := by
  refine F.okX sc_row_led (fun vs H Q E h => ?_) (fun cdv A outer s H vs Q E hr h => ?_)
  · obtain ⟨p, ns, pl, n, rfl, _⟩ := h
    rfl
  · obtain ⟨p, ns, pl, n, rfl, hp, hn, k⟩ := h
    refine ⟨_, (pss_cons (ps_if (pt_not (pt_chain op_le op_lt pe_int (pv 1) (pe_callB (cLen (K := K) rfl) (by rfl) T.b_len PyProof.Rows.Boot.«len» (pa_cons (pv 0) pa_nil))))
        (pss_one (ps_raise full_of rfl rfl X_NoPlace.mg X_NoPlace.ex (pa_cons pe_str pa_nil) raiseX))
        pss_nil)
      (pss_one (ps_ret (pe_op oCatB (pe_op oCatB (pe_slice slTB (pv 0) po_none (po_some (pv 1))) (pe_tup (pa_cons (pv 2) pa_nil))) (pe_slice slTB (pv 0) (po_some (pe_op op_add (pv 1) pe_int)) po_none))))), ?_⟩
    have fin : ∀ (D : Ends) (σ : St), tRaise R E (tCons (tC (.str "the row has no number at this place")) tNil) D σ H := fun D σ => ⟨by show 1 ≤ sizeLine; decide, k H (Same.refl H)⟩
    refine ⟨_, rfl, _, _, rfl, rfl, _, rfl, ite2 (fun e1 => ⟨_, rfl, p, _, rfl, .inr (SqT.of hp.1), _, _, rfl, rfl, _, rfl, ?_⟩) (fun e1 => ⟨_, rfl, iteT (fin _ _)⟩)⟩
    have e2 : ¬ pl < ((ns.map V.int).length : Int) := fun z => hn ⟨of_decide_eq_true e1, by rw [List.length_map] at z; exact z⟩
    rw [decide_eq_false e2]
    exact iteT (fin _ _)
theorem bad_take_number {f fc : Addr} {fd fdc : FuncData} (F : Fun K "take_number" "KeptRow.take_number" s_take_number f fd) (TC : TxtC K mg C) (M_change_to : MethAt K C "change_to" "KeptRow.change_to" s_change_to ["self", "row"] fc fdc) (G_change_to : FnOk P w K mg base CX0 6 fc fdc ["self", "row"] (spChange C)) (X_NoPlace : XRz K mg "NoPlace" R) :
    FnOk P w K mg base (CXx P w) 7 f fd ["self"] (spTakeB C R) := by
  refine F.okX sc_take_number (fun vs H Q E h => ?_) (fun cdv A outer s H vs Q E hr h => ?_)
  · obtain ⟨x, p, tot, rfl, _⟩ := h
    rfl
  · obtain ⟨x, p, tot, rfl, KA, k⟩ := h
    obtain ⟨dx, hx⟩ := KA.ob
    refine ⟨_, (pss_cons (ps_if (pt_not (pt_tup (pe_fld (pv 0) rfl)))
        (pss_one (ps_raise full_of rfl rfl X_NoPlace.mg X_NoPlace.ex (pa_cons pe_str pa_nil) raiseX))
        pss_nil)
      (pss_one (ps_ret (pe_meth (pv 0) TC.cl M_change_to.mt G_change_to (hr.mono (by first | decide | exact Nat.le_refl _)) M_change_to.bd .nil pass0 (pa_cons (pe_slice slTB (pe_fld (pv 0) rfl) po_none (po_some (pe_un un_neg pe_int))) pa_nil))))), ?_⟩
    have fin : ∀ (D : Ends) (σ : St), tRaise R E (tCons (tC (.str "the row has no number to take away")) tNil) D σ H := fun D σ => ⟨by show 1 ≤ sizeLine; decide, k H (Same.refl H)⟩
    refine ⟨_, rfl, x, C, dx, _, _, rfl, hx, TC.cl, TC.nN, flds_num _ _, p, _, rfl, KA.rw.1, ?_⟩
    exact iteT (fin _ _)
theorem bad_lead_number {f fc fl : Addr} {fd fdc fdl : FuncData} (F : Fun K "lead_number" "KeptRow.lead_number" s_lead_number f fd) (TC : TxtC K mg C) (M_change_to : MethAt K C "change_to" "KeptRow.change_to" s_change_to ["self", "row"] fc fdc) (G_change_to : FnOk P w K mg base CX0 6 fc fdc ["self", "row"] (spChange C))
    (D_row_led : DefAt K mg "row_led" s_row_led ["row", "place", "number"] fl fdl) (B_row_led : FnOk P w K mg base (CXx P w) 1 fl fdl ["row", "place", "number"] (spLedB R)) :
    FnOk P w K mg base (CXx P w) 7 f fd ["self", "place", "number"] (spLeadB C R) := by
  refine F.okX sc_lead_number (fun vs H Q E h => ?_) (fun cdv A outer s H vs Q E hr h => ?_)
  · obtain ⟨x, p, ns, tot, pl, n, rfl, _⟩ := h
    rfl
  · obtain ⟨x, p, ns, tot, pl, n, rfl, KA, hn, k⟩ := h
    obtain ⟨dx, hx⟩ := KA.ob
    refine ⟨_, (pss_one (ps_ret (pe_meth (pv 0) TC.cl M_change_to.mt G_change_to (hr.mono (by first | decide | exact Nat.le_refl _)) M_change_to.bd .nil pass0 (pa_cons (pe_call B_row_led (hr.mono (by first | decide | exact Nat.le_refl _)) rfl D_row_led.mg D_row_led.fn.kp D_row_led.bd .nil (passX fun _ _ _ h => h) (pa_cons (pe_fld (pv 0) rfl) (pa_cons (pv 1) (pa_cons (pv 2) pa_nil)))) pa_nil)))), ?_⟩
    exact ⟨_, rfl, x, dx, _, rfl, hx, flds_no _ _ (by decide +kernel) (by decide +kernel), _, rfl, x, C, dx, _, _, rfl, hx, TC.cl, TC.nN, flds_num _ _, _, rfl, _, rfl, p, ns, pl, n, rfl, KA.rw, hn, k⟩
abbrev s_law_refused : Stmt := top 31
theorem sc_law_refused : FnScope ["kept", "place", "number", "caught", "e"] ["kept", "place", "number"] (defScope s_law_refused) := ⟨rfl, rfl, rfl, by decide +kernel, rfl, by decide +kernel, by decide +kernel⟩
theorem ok_law_refused {f m1 m2 : Addr} {fd md1 md2 : FuncData} (F : Fun K "_law_refused" "_law_refused" s_law_refused f fd) (T : Txt mg) (TC : TxtC K mg C)
    (X_SumError : XSp K mg "SumError" S) (X_NoPlace : XRz K mg "NoPlace" R) (X_NoAsk : XNm K mg "NoAsk" Ak) (X_NoRest : XNm K mg "NoRest" Rs) (X_NoStretch : XNm K mg "NoStretch" St) (X_NoText : XNm K mg "NoText" Tx) (XR : XRel K S R Ak Rs St Tx)
    (M_take_number : MethAt K C "take_number" "KeptRow.take_number" s_take_number ["self"] m1 md1) (B_take_number : FnOk P w K mg base (CXx P w) 7 m1 md1 ["self"] (spTakeB C R))
    (M_lead_number : MethAt K C "lead_number" "KeptRow.lead_number" s_lead_number ["self", "place", "number"] m2 md2) (B_lead_number : FnOk P w K mg base (CXx P w) 7 m2 md2 ["self", "place", "number"] (spLeadB C R)) :
    FnOk P w K mg base CX0 8 f fd ["kept", "place", "number"] (spRefK C) := by
  refine F.ok sc_law_refused (fun vs H Q E h => ?_) (fun cdv A' outer s H vs Q E0 hr h => ?_)
  · obtain ⟨x, p, ns, tot, n, v, rfl, _⟩ := h
    rfl
  · obtain ⟨x, p, ns, tot, n, v, rfl, KA, hn, k⟩ := h
    obtain ⟨dx, hx⟩ := KA.ob
    obtain ⟨EX, hEX⟩ : ∃ EX : XK, EX = fun c _ H' => c = .ref R ∧ Same H H' := ⟨_, rfl⟩
    have kE : ∀ H', Same H H' → EX (.ref R) none H' := fun H' S' => by rw [hEX]; exact ⟨rfl, S'⟩
    refine ⟨_, (pss_cons (ps_set (i := 3) sc_law_refused.nd rfl (Or.inl rfl) pe_non)
      (pss_cons (ps_try (i := 4) (EX := EX) ⟨rfl, rfl, rfl⟩ sc_law_refused.nd rfl X_SumError.mg X_SumError.sup (fun pn E hp =>
        (pss_one (ps_if (pt_cmpR op_isN (pv 1) pe_non (nomark _))
          (pss_one (ps_expr (pe_meth0 (pv 0) TC.cl M_take_number.mt B_take_number (hr.mono (by first | decide | exact Nat.le_refl _)) M_take_number.bd .nil hp)))
          (pss_one (ps_expr (pe_meth (pv 0) TC.cl M_lead_number.mt B_lead_number (hr.mono (by first | decide | exact Nat.le_refl _)) M_lead_number.bd .nil hp (pa_cons (pv 1) (pa_cons (pv 2) pa_nil))))))))
        (fun e => (pss_one (ps_set (i := 3) sc_law_refused.nd rfl (Or.inl rfl) (pv 4)))))
      (pss_cons (ps_if (pt_val (pe_callB (call_isiX (K := K) rfl) (by rfl) T.b_isinstance PyProof.Rows.Boot.«isinstance» (pa_cons (pv 3) (pa_cons (pe_tup (pa_cons (pe_glob (v := .ref _) (by rfl) X_NoAsk.mg rfl) (pa_cons (pe_glob (v := .ref _) (by rfl) X_NoRest.mg rfl) (pa_cons (pe_glob (v := .ref _) (by rfl) X_NoStretch.mg rfl) (pa_cons (pe_glob (v := .ref _) (by rfl) X_NoText.mg rfl) pa_nil))))) pa_nil))))
        (pss_one (ps_ret pe_bl))
        pss_nil)
      (pss_one (ps_ret (pe_and (pe_callB (call_isiX (K := K) rfl) (by rfl) T.b_isinstance PyProof.Rows.Boot.«isinstance» (pa_cons (pv 3) (pa_cons (pe_glob (v := .ref _) (by rfl) X_NoPlace.mg rfl) pa_nil))) (pe_one (pe_callB (call_isiX (K := K) rfl) (by rfl) T.b_isinstance PyProof.Rows.Boot.«isinstance» (pa_cons (pv 3) (pa_cons (pe_ty (by rfl) T.b_ValueError PyProof.Rows.Boot.«ValueError») pa_nil)))))))))), ?_⟩
    dsimp only [gName]
    refine ⟨fun c H' z => ?_, ?_⟩
    · rw [hEX] at z
      obtain ⟨rfl, S'⟩ := z
      refine ⟨R, rfl, X_NoPlace.cl, XR.sub, fun a σ' ha hl => ?_⟩
      match σ', hl with
      | [v0, v1, v2, v3, v4], _ =>
        have Sa : Same H (upd H' a (.ext (ExcAt a R))) := S'.trans (Same.lay ha)
        have haa : upd H' a (.ext (ExcAt a R)) a = some (.ext (ExcAt a R)) := upd_same
        generalize upd H' a (.ext (ExcAt a R)) = H1 at Sa haa
        refine ⟨_, rfl, ?_⟩
        dsimp only [gName, goesD]
        refine ⟨_, rfl, by show 4 ≤ sizeLine; decide, fun tp htp => ?_⟩
        have S2 : Same H1 (upd H1 tp (.tup [.ref Ak, .ref Rs, .ref St, .ref Tx])) := Same.lay htp
        have e2 : upd H1 tp (.tup [.ref Ak, .ref Rs, .ref St, .ref Tx]) tp = some (.tup [.ref Ak, .ref Rs, .ref St, .ref Tx]) := upd_same
        generalize upd H1 tp (.tup [.ref Ak, .ref Rs, .ref St, .ref Tx]) = H2 at S2 e2
        have ha2 := S2 _ _ haa
        refine ⟨a, R, _, false, rfl, ha2, X_NoPlace.cl, .inr ⟨tp, _, rfl, e2, rfl, XR.oth⟩, false, rfl, iteF ?_⟩
        exact ⟨_, rfl, a, R, _, true, rfl, ha2, X_NoPlace.cl, .inl ⟨rfl, kit_self⟩, true, rfl, iteT ⟨_, rfl, a, R, _, true, rfl, ha2, X_NoPlace.cl, .inl ⟨rfl, XR.val⟩, k _ (Sa.trans S2)⟩⟩
    · rcases hn with ⟨rfl, rfl⟩ | ⟨pl, rfl, hpl⟩
      · refine ⟨_, rfl, rfl, true, rfl, iteT ?_⟩
        exact ⟨_, rfl, x, dx, _, rfl, hx, flds_no _ _ (by decide +kernel) (by decide +kernel), x, p, tot, rfl, KA, kE⟩
      · refine ⟨_, rfl, rfl, false, rfl, iteF ?_⟩
        exact ⟨_, rfl, x, dx, _, rfl, hx, flds_no _ _ (by decide +kernel) (by decide +kernel), _, rfl, _, rfl, x, p, ns, tot, pl, n, rfl, KA, hpl, kE⟩
end
end My

namespace My
open PySem L2
theorem seq_all {s1 s2 : TS} {D : Ends} {σ : St} {H : Hp} (Mid : St → Hp → Prop) (h1 : ∀ D' : Ends, (∀ σ' H', Mid σ' H' → D'.nx σ' H') → s1 D' σ H) (h2 : ∀ σ' H', Mid σ' H' → s2 D σ' H') : tSeq s1 s2 D σ H := h1 _ h2
def spRR (K : PySem.W.Frag) (C : Addr) : Sp := fun vs H Q _ => ∃ (a x q p : Addr) (scr ns : List Int) (n tot : Int), vs = [.ref a, .int n, .ref x, .ref p, .int tot] ∧ Scr K H a scr ∧ 0 ≤ n ∧ n < 999990 ∧ KeptAt C H x q ns tot ∧ RowAt H p ns ∧ ns.length ≤ 60 ∧ ∀ H', Same H H' → Q (.bl true) H'
def spDeedK (K : PySem.W.Frag) (C : Addr) : Sp := fun vs H Q _ => ∃ (a x q p : Addr) (scr ns : List Int) (n tot : Int), vs = [.ref a, .int n, .ref x, .ref p] ∧ Scr K H a scr ∧ 0 ≤ n ∧ n < 999990 ∧ KeptAt C H x q ns tot ∧ RowAt H p ns ∧ ns.length ≤ 60 ∧
  ∀ l r q' ms H', H' l = some (.lst [.ref r, .int (cnt ms tot - cnt ns tot)]) → RowAt H' r ms → KeptAt C H' x q' ms tot → ms.length ≤ 60 → Kp x H H' → Q (.ref l) H'
theorem flat_ints (ns : List Int) : (ns.map V.int).all flatV = true := by
  rw [List.all_eq_true]
  intro x hx
  obtain ⟨i, _, rfl⟩ := List.mem_map.mp hx
  rfl
section
variable {P : Program} {w : World} {K : PySem.W.Frag} {mg : Str → Option Value} {base : Heap} {C : Addr}
abbrev s_law_refused_right : Stmt := top 32
theorem sc_law_refused_right : FnScope ["script", "k", "kept", "row", "total", "number", "far", "new", "none", "begin", "turn", "place", "asked"] ["script", "k", "kept", "row", "total"] (defScope s_law_refused_right) := ⟨rfl, rfl, rfl, by decide +kernel, rfl, by decide +kernel, by decide +kernel⟩
theorem ok_refr {f f1 f2 f3 f4 : Addr} {fd fd1 fd2 fd3 fd4 : FuncData} (F : Fun K "_law_refused_right" "_law_refused_right" s_law_refused_right f fd) (T : Txt mg) (D__law_number : DefAt K mg "_law_number" s_law_number ["script", "k"] f1 fd1)
    (D__law_refused : DefAt K mg "_law_refused" s_law_refused ["kept", "place", "number"] f2 fd2) (G__law_refused : FnOk P w K mg base CX0 8 f2 fd2 ["kept", "place", "number"] (spRefK C))
    (D__law_asked_right : DefAt K mg "_law_asked_right" s_law_asked_right ["kept", "due", "number"] f3 fd3) (G__law_asked_right : FnOk P w K mg base CX0 7 f3 fd3 ["kept", "due", "number"] (spAsked C))
    (D__law_due : DefAt K mg "_law_due" s_law_due ["row", "total"] f4 fd4) (G__law_due : FnOk P w K mg base CX0 2 f4 fd4 ["row", "total"] spDue) :
    FnOk P w K mg base CX0 9 f fd ["script", "k", "kept", "row", "total"] (spRR K C) := by
  have G__law_number : FnOk P w K mg base CX0 1 f1 fd1 ["script", "k"] (spNum K) := ok_number D__law_number.fn T
  refine F.ok sc_law_refused_right (fun vs H Q E h => ?_) (fun cdv A outer s H vs Q E hr h => ?_)
  · obtain ⟨a, x, q, p, scr, ns, n, tot, rfl, _⟩ := h
    rfl
  · obtain ⟨a, x, q, p, scr, ns, n, tot, rfl, hS, n0, n1, KA, hp, hl, k⟩ := h
    have hu := hr.units0
    refine ⟨_, (pss_cons (ps_set (i := 5) sc_law_refused_right.nd rfl (Or.inl rfl) (pe_call G__law_number (hr.mono (by first | decide | exact Nat.le_refl _)) rfl D__law_number.mg D__law_number.fn.kp D__law_number.bd .nil pass0 (pa_cons (pv 0) (pa_cons (pv 1) pa_nil))))
      (pss_cons (ps_set (i := 6) sc_law_refused_right.nd rfl (Or.inl rfl) (pe_op op_add pe_int (pe_op op_mul (pv 5) (pe_ix (ixL (K := K) rfl) (pe_lst (pa_cons pe_int (pa_cons (pe_op op_pow pe_int pe_int) pa_nil))) (pe_op op_mod (pv 5) pe_int) (fun _ _ => rfl)))))
      (pss_cons (ps_set (i := 7) sc_law_refused_right.nd rfl (Or.inl rfl) (pe_ix (ixL (K := K) rfl) (pe_lst (pa_cons (pe_op op_sub (pe_op op_mod (pv 5) pe_int) pe_int) (pa_cons (pv 4) (pa_cons (pe_op op_mul (pe_op op_sub (pv 5) pe_int) (pe_op op_pow pe_int pe_int)) pa_nil)))) (pe_op op_mod (pe_op op_fdiv (pv 5) pe_int) pe_int) (fun _ _ => rfl)))
      (pss_cons (ps_if (pt_cmpR op_ge (pe_callB call_abs (by rfl) T.b_abs PyProof.Rows.Boot.«abs» (pa_cons (pv 7) pa_nil)) (pe_op op_pow pe_int pe_int) (nomark _))
        (pss_one (ps_set (i := 7) sc_law_refused_right.nd rfl (Or.inl rfl) pe_int))
        pss_nil)
      (pss_cons (ps_set (i := 8) sc_law_refused_right.nd rfl (Or.inl rfl) (pe_lst (pa_cons (pe_callB (cLen (K := K) rfl) (by rfl) T.b_len PyProof.Rows.Boot.«len» (pa_cons (pv 3) pa_nil)) (pa_cons (pe_op op_add (pe_callB (cLen (K := K) rfl) (by rfl) T.b_len PyProof.Rows.Boot.«len» (pa_cons (pv 3) pa_nil)) (pv 6)) (pa_cons (pe_un un_neg pe_int) (pa_cons (pe_op op_sub pe_int (pv 6)) (pa_cons (pe_op op_sub (pe_op op_sub pe_int (pe_callB (cLen (K := K) rfl) (by rfl) T.b_len PyProof.Rows.Boot.«len» (pa_cons (pv 3) pa_nil))) pe_int) (pa_cons (pe_op op_add (pe_callB (cLen (K := K) rfl) (by rfl) T.b_len PyProof.Rows.Boot.«len» (pa_cons (pv 3) pa_nil)) pe_int) pa_nil))))))))
      (pss_cons (ps_if (pt_cmpR (oEq (K := K) rfl true hu) (pv 3) (pe_tup pa_nil) (nomark _))
        (pss_one (ps_expr (pe_bm PySem.F.plainAttrs_list PySem.F.slot_list_append PySem.F.type_list_append mt_append (pv 8) (pa_cons pe_non pa_nil))))
        (pss_one (ps_expr (pe_bm PySem.F.plainAttrs_list PySem.F.slot_list_append PySem.F.type_list_append mt_append (pv 8) (pa_cons (pe_op op_sub pe_int (pe_callB (cLen (K := K) rfl) (by rfl) T.b_len PyProof.Rows.Boot.«len» (pa_cons (pv 3) pa_nil))) pa_nil)))))
      (pss_cons (ps_set (i := 9) sc_law_refused_right.nd rfl (Or.inl rfl) (pe_op op_mod (pe_call G__law_number (hr.mono (by first | decide | exact Nat.le_refl _)) rfl D__law_number.mg D__law_number.fn.kp D__law_number.bd .nil pass0 (pa_cons (pv 0) (pa_cons (pe_op op_add (pv 1) pe_int) pa_nil))) pe_int))
      (pss_cons (ps_for PassesOwn.never rfl (pi_range1 (by rfl) T.b_range (pa_cons (pe_op op_mod (pe_op op_fdiv (pe_call G__law_number (hr.mono (by first | decide | exact Nat.le_refl _)) rfl D__law_number.mg D__law_number.fn.kp D__law_number.bd .nil pass0 (pa_cons (pv 0) (pa_cons (pe_op op_add (pv 1) pe_int) pa_nil))) pe_int) pe_int) pa_nil)) (pg_name (i := 10) sc_law_refused_right.nd rfl (Or.inl rfl))
        (pss_cons (ps_set (i := 11) sc_law_refused_right.nd rfl (Or.inl rfl) (pe_ix (ixL (K := K) rfl) (pv 8) (pe_op op_mod (pe_op op_add (pv 9) (pv 10)) pe_int) (fun _ _ => rfl)))
        (pss_cons (ps_if (pt_not (pt_val (pe_call G__law_refused (hr.mono (by first | decide | exact Nat.le_refl _)) rfl D__law_refused.mg D__law_refused.fn.kp D__law_refused.bd .nil pass0 (pa_cons (pv 2) (pa_cons (pv 11) (pa_cons (pv 7) pa_nil))))))
          (pss_one (ps_ret pe_bl))
          pss_nil)
        (pss_cons (ps_set (i := 12) sc_law_refused_right.nd rfl (Or.inl rfl) (pe_op op_fdiv (pe_call G__law_number (hr.mono (by first | decide | exact Nat.le_refl _)) rfl D__law_number.mg D__law_number.fn.kp D__law_number.bd .nil pass0 (pa_cons (pv 0) (pa_cons (pe_op op_add (pv 1) pe_int) pa_nil))) (pe_op op_add pe_int (pv 10))))
        (pss_one (ps_if (PW.pt (pw_and (pt_cmpR op_gt (pe_op op_mod (pv 12) pe_int) pe_int (nomark _)) (pw_and1 (pt_not (pt_val (pe_call G__law_asked_right (hr.mono (by first | decide | exact Nat.le_refl _)) rfl D__law_asked_right.mg D__law_asked_right.fn.kp D__law_asked_right.bd .nil pass0 (pa_cons (pv 2) (pa_cons (pe_call G__law_due (hr.mono (by first | decide | exact Nat.le_refl _)) rfl D__law_due.mg D__law_due.fn.kp D__law_due.bd .nil pass0 (pa_cons (pv 3) (pa_cons (pv 4) pa_nil))) (pa_cons (pv 12) pa_nil)))))))))
          (pss_one (ps_ret pe_bl))
          pss_nil))))))
      (pss_one (ps_ret pe_bl)))))))))), ?_⟩
    have hlm : (ns.map V.int).length = ns.length := List.length_map _
    refine ⟨_, rfl, _, rfl, a, scr, n, rfl, hS, n0, by omega, fun nu H1 nu0 nu1 S1 => ?_⟩
    dsimp only [gName]
    -- far
    refine ⟨_, rfl, _, _, rfl, rfl, ⟨by decide, by decide, by decide⟩, by show 2 ≤ sizeLine; decide, fun l0 hl0 => ?_⟩
    obtain ⟨fa, hfa, fm, _⟩ := atI_ints [1, 10 ^ (Int.toNat 6)] (mod_lt nu 2 (by decide)).1 (mod_lt nu 2 (by decide)).2
    have fa0 : 0 < fa := by
      simp only [List.mem_cons, List.not_mem_nil, or_false] at fm
      rcases fm with rfl | rfl
      · decide
      · decide
    refine ⟨_, rfl, _, _, rfl, rfl, (by show (0 : Int) < _; decide), l0, _, _, _, rfl, rfl, SqL.of upd_same, hfa, _, _, rfl, rfl, .inl ⟨by omega, by omega⟩, _, _, rfl, rfl, ?_⟩
    dsimp only [gName]
    have far0 : 1 ≤ 1 + nu * fa := by have := Int.mul_nonneg nu0 (Int.le_of_lt fa0); omega
    generalize 1 + nu * fa = far at far0
    have S2 : Same H1 (upd H1 l0 (.lst [.int 1, .int (10 ^ (Int.toNat 6))])) := Same.lay hl0
    generalize upd H1 l0 (.lst [.int 1, .int (10 ^ (Int.toNat 6))]) = H2 at S2
    -- new
    refine ⟨_, rfl, _, _, rfl, rfl, (by show (0 : Int) < _; decide), _, _, rfl, rfl, _, rfl, _, rfl, _, _, rfl, rfl, _, _, rfl, rfl, ⟨by decide, by decide, by decide⟩, _, _, rfl, rfl, .inl ⟨by omega, by omega⟩, by show 3 ≤ sizeLine; decide, fun l1 hl1 => ?_⟩
    obtain ⟨nw, hnw, _, _⟩ := atI_ints [nu % 9 - 4, tot, (nu - 500000) * 10 ^ (Int.toNat 6)] (mod_lt (nu / 9) 3 (by decide)).1 (mod_lt (nu / 9) 3 (by decide)).2
    refine ⟨_, rfl, _, _, rfl, rfl, ⟨by decide, by decide⟩, _, _, rfl, rfl, (by show (0 : Int) < _; decide), l1, _, _, _, rfl, rfl, SqL.of upd_same, hnw, ?_⟩
    dsimp only [gName]
    have S3 : Same H2 (upd H2 l1 (.lst [.int (nu % 9 - 4), .int tot, .int ((nu - 500000) * 10 ^ (Int.toNat 6))])) := Same.lay hl1
    generalize upd H2 l1 (.lst [.int (nu % 9 - 4), .int tot, .int ((nu - 500000) * 10 ^ (Int.toNat 6))]) = H3 at S3
    have S13 : Same H H3 := (S1.trans S2).trans S3
    -- if abs(new) >= 10 ** 12
    refine seq_all (fun σ H' => ∃ nw : Int, σ = [some (.ref a), some (.int n), some (.ref x), some (.ref p), some (.int tot), some (.int nu), some (.int far), some (.int nw), none, none, none, none, none] ∧ H' = H3) (fun D' hD => ?_) ?_
    · exact ⟨_, rfl, _, rfl, _, _, rfl, rfl, ⟨by decide, by decide, by decide⟩, _, _, rfl, rfl, _, rfl, ite2 (fun e => hD _ _ ⟨1, rfl, rfl⟩) (fun e => hD _ _ ⟨_, rfl, rfl⟩)⟩
    rintro σ H' ⟨nw, rfl, rfl⟩
    have hp3 := hp.same S13
    -- none
    refine ⟨_, rfl, p, _, rfl, .inr (SqT.of hp3.1), _, rfl, p, _, rfl, .inr (SqT.of hp3.1), _, rfl, _, _, rfl, rfl, _, rfl, _, rfl, _, _, rfl, rfl, _, rfl, p, _, rfl, .inr (SqT.of hp3.1), _, _, rfl, rfl, _, _, rfl, rfl, _, rfl, p, _, rfl, .inr (SqT.of hp3.1), _, _, rfl, rfl, by show 6 ≤ sizeLine; decide, fun ln hln => ?_⟩
    dsimp only [gName]
    rw [hlm]
    have S4 : Same H' (upd H' ln (.lst [.int (ns.length : Int), .int ((ns.length : Int) + far), .int (-1), .int (0 - far), .int (0 - (ns.length : Int) - 1), .int ((ns.length : Int) + 1)])) := Same.lay hln
    have e4 : upd H' ln (.lst [.int (ns.length : Int), .int ((ns.length : Int) + far), .int (-1), .int (0 - far), .int (0 - (ns.length : Int) - 1), .int ((ns.length : Int) + 1)]) ln = some (.lst [.int (ns.length : Int), .int ((ns.length : Int) + far), .int (-1), .int (0 - far), .int (0 - (ns.length : Int) - 1), .int ((ns.length : Int) + 1)]) := upd_same
    generalize upd H' ln (.lst [.int (ns.length : Int), .int ((ns.length : Int) + far), .int (-1), .int (0 - far), .int (0 - (ns.length : Int) - 1), .int ((ns.length : Int) + 1)]) = H4 at S4 e4
    have P4 : ∀ z ∈ ([.int (ns.length : Int), .int ((ns.length : Int) + far), .int (-1), .int (0 - far), .int (0 - (ns.length : Int) - 1), .int ((ns.length : Int) + 1)] : List V), NoPl ns z := by
      intro z hz
      simp only [List.mem_cons, List.not_mem_nil, or_false] at hz
      rcases hz with rfl | rfl | rfl | rfl | rfl | rfl <;> exact .inr ⟨_, rfl, by omega⟩
    have L4 : ([.int (ns.length : Int), .int ((ns.length : Int) + far), .int (-1), .int (0 - far), .int (0 - (ns.length : Int) - 1), .int ((ns.length : Int) + 1)] : List V).length = 6 := rfl
    generalize ([.int (ns.length : Int), .int ((ns.length : Int) + far), .int (-1), .int (0 - far), .int (0 - (ns.length : Int) - 1), .int ((ns.length : Int) + 1)] : List V) = zs at e4 P4 L4
    have S14 : Same H H4 := S13.trans S4
    have hlnH : H ln = none := by
      cases q : H ln with
      | none => rfl
      | some o => rw [S13 _ _ q] at hln; cases hln
    -- if row == ()
    refine seq_all (fun σ H' => ∃ zs : List V, σ = [some (.ref a), some (.int n), some (.ref x), some (.ref p), some (.int tot), some (.int nu), some (.int far), some (.int nw), some (.ref ln), none, none, none, none] ∧ H' ln = some (.lst zs) ∧ zs.length = 7 ∧ (∀ z ∈ zs, NoPl ns z) ∧ Same H H') (fun D' hD => ?_) ?_
    · refine ⟨_, rfl, by show 0 ≤ sizeLine; decide, fun e0 he0 => ?_⟩
      have S5 := S14.trans (Same.lay (o := .tup []) he0)
      have e5 := Same.lay (o := .tup []) he0 _ _ e4
      have hp5 := hp.same S5
      refine ⟨p, e0, _, [], rfl, rfl, SqB.t hp5.1, SqB.t upd_same, flat_ints ns, rfl, _, rfl, ite2 (fun e => ?_) (fun e => ?_)⟩
      · have hn : ns.length = 0 := by
          by_cases z : (ns.map V.int).length = ([] : List V).length
          · rw [hlm] at z; exact z
          · rw [if_neg (by decide), eqVs_len z] at e; cases e
        have hnn : ns = [] := List.eq_nil_of_length_eq_zero hn
        refine ⟨_, rfl, .inl ⟨rfl, _, SqL.of e5⟩, ln, zs, _, rfl, rfl, e5, size_lt (by omega), hD _ _ ⟨_, rfl, upd_same, by rw [List.length_append, L4]; rfl, fun z hz => ?_, fun b o e => by rw [upd_ne (ne_of_none e hlnH)]; exact S5 _ _ e⟩⟩
        rcases List.mem_append.mp hz with hz | hz
        · exact P4 z hz
        · rw [List.mem_singleton] at hz; subst hz; exact .inl ⟨rfl, hnn⟩
      · have hn : 0 < ns.length := by
          cases ns with
          | nil => exact absurd rfl e
          | cons _ _ => simp
        refine ⟨_, rfl, .inl ⟨rfl, _, SqL.of e5⟩, _, rfl, p, _, rfl, .inr (SqT.of hp5.1), _, _, rfl, rfl, ln, zs, _, rfl, rfl, e5, size_lt (by omega), hD _ _ ⟨_, rfl, upd_same, by rw [List.length_append, L4]; rfl, fun z hz => ?_, fun b o e => by rw [upd_ne (ne_of_none e hlnH)]; exact S5 _ _ e⟩⟩
        rcases List.mem_append.mp hz with hz | hz
        · exact P4 z hz
        · rw [List.mem_singleton] at hz; subst hz; exact .inr ⟨_, rfl, by rw [hlm]; omega⟩
    rintro σ H5 ⟨zs, rfl, hz5, lz, Pz, S5⟩
    -- begin
    refine ⟨_, rfl, _, rfl, _, _, rfl, rfl, a, scr, _, rfl, hS.same S5, by omega, by omega, fun r6 H6 r60 r61 S6 => ⟨_, _, rfl, rfl, (by show (0 : Int) < _; decide), ?_⟩⟩
    dsimp only [gName]
    have b0 := (mod_lt r6 7 (by decide)).1
    generalize r6 % 7 = bg at b0
    -- for turn in range(..)
    refine ⟨_, rfl, _, rfl, _, _, rfl, rfl, a, scr, _, rfl, hS.same (S5.trans S6), by omega, by omega, fun r7 H7 r70 r71 S7 => ⟨_, _, rfl, rfl, ⟨by decide, by decide⟩, _, _, rfl, rfl, (by show (0 : Int) < _; decide), ?_⟩⟩
    have t0 := (mod_lt (r7 / 7) 8 (by decide)).1
    have t1 := (mod_lt (r7 / 7) 8 (by decide)).2
    refine ⟨_, rfl, by omega, by omega, ?_⟩
    have S57 := S5.trans (S6.trans S7)
    have hz7 := S7 _ _ (S6 _ _ hz5)
    refine for_range (fun i σ H' => ∃ v10 v11 v12 : Option V, σ = [some (.ref a), some (.int n), some (.ref x), some (.ref p), some (.int tot), some (.int nu), some (.int far), some (.int nw), some (.ref ln), some (.int bg), v10, v11, v12] ∧ Same H7 H') ⟨_, _, _, rfl, Same.refl _⟩ ?_ ?_
    · rintro i σ H8 hi ⟨v10, v11, v12, rfl, S8⟩
      have S18 := S57.trans S8
      have i8 : i < 8 := by omega
      have ⟨w0, w1⟩ := mod_lt (bg + (0 + (i : Int))) 7 (by decide)
      obtain ⟨j, hj⟩ := Int.eq_ofNat_of_zero_le w0
      have hjl : j < zs.length := by omega
      have hat : atI zs ((bg + (0 + (i : Int))) % 7) = some zs[j] := by rw [hj]; exact atI_nat (List.getElem?_eq_getElem hjl)
      have hPz := Pz _ (List.getElem_mem hjl)
      generalize zs[j] = pv' at hat hPz
      refine ⟨_, rfl, _, rfl, _, rfl, _, _, rfl, rfl, _, _, rfl, rfl, (by show (0 : Int) < _; decide), ln, _, _, _, rfl, rfl, SqL.of (S8 _ _ hz7), hat, ?_⟩
      dsimp only [gName]
      refine ⟨_, rfl, _, rfl, _, rfl, x, q, ns, tot, nw, pv', rfl, KA.same S18, hPz, fun H9 S9 => ⟨_, rfl, iteF ?_⟩⟩
      have S19 := S18.trans S9
      refine ⟨_, rfl, _, rfl, _, _, rfl, rfl, a, scr, _, rfl, hS.same S19, by omega, by omega, fun rA HA rA0 rA1 SA => ⟨_, rfl, _, _, rfl, rfl, _, _, rfl, rfl, ⟨by omega, by omega⟩, ?_⟩⟩
      dsimp only [gName]
      have S1A := S19.trans SA
      have as0 : 0 ≤ rA / (1 + (0 + (i : Int))) := Int.ediv_nonneg rA0 (by omega)
      generalize rA / (1 + (0 + (i : Int))) = ask at as0
      refine ⟨_, rfl, _, _, rfl, rfl, (by show (0 : Int) < _; decide), _, _, rfl, rfl, _, rfl, ite2 (fun e => ?_) (fun e => iteF ?_)⟩
      · refine ⟨_, rfl, _, rfl, _, rfl, p, ns, tot, rfl, hp.same S1A, fun d HB hd SB => ⟨_, rfl, x, q, d, ns, tot, ask, rfl, KA.same (S1A.trans SB), hd, as0, fun HC SC => ⟨_, rfl, iteF ?_⟩⟩⟩
        exact ⟨_, _, _, rfl, S8.trans (S9.trans (SA.trans (SB.trans SC)))⟩
      · exact ⟨_, _, _, rfl, S8.trans (S9.trans SA)⟩
    · rintro σ H8 ⟨v10, v11, v12, rfl, S8⟩
      exact k _ (S57.trans S8)
end
end My

namespace My
open PySem L2
theorem seq_rt {s1 s2 : TS} {D : Ends} {σ : St} {H : Hp} (Mid : St → Hp → Prop) (h1 : ∀ D' : Ends, D'.rt = D.rt → (∀ σ' H', Mid σ' H' → D'.nx σ' H') → s1 D' σ H) (h2 : ∀ σ' H', Mid σ' H' → s2 D σ' H') : tSeq s1 s2 D σ H := h1 _ rfl h2
section
variable {P : Program} {w : World} {K : PySem.W.Frag} {mg : Str → Option Value} {base : Heap} {C : Addr}
abbrev s_law_deed : Stmt := top 33
theorem sc_law_deed : FnScope ["script", "k", "kept", "row", "number", "new", "place"] ["script", "k", "kept", "row"] (defScope s_law_deed) := ⟨rfl, rfl, rfl, by decide +kernel, rfl, by decide +kernel, by decide +kernel⟩
theorem ok_law_deed {f f1 m1 m2 m3 : Addr} {fd fd1 md1 md2 md3 : FuncData} (F : Fun K "_law_deed" "_law_deed" s_law_deed f fd) (T : Txt mg) (TC : TxtC K mg C) (D__law_number : DefAt K mg "_law_number" s_law_number ["script", "k"] f1 fd1)
    (M_put_number : MethAt K C "put_number" "KeptRow.put_number" s_put_number ["self", "number"] m1 md1) (G_put_number : FnOk P w K mg base CX0 7 m1 md1 ["self", "number"] (spPut C))
    (M_take_number : MethAt K C "take_number" "KeptRow.take_number" s_take_number ["self"] m2 md2) (G_take_number : FnOk P w K mg base CX0 7 m2 md2 ["self"] (spTake' C)) (M_lead_number : MethAt K C "lead_number" "KeptRow.lead_number" s_lead_number ["self", "place", "number"] m3 md3) (G_lead_number : FnOk P w K mg base CX0 7 m3 md3 ["self", "place", "number"] (spLead C)) :
    FnOk P w K mg base CX0 8 f fd ["script", "k", "kept", "row"] (spDeedK K C) := by
  have G__law_number : FnOk P w K mg base CX0 1 f1 fd1 ["script", "k"] (spNum K) := ok_number D__law_number.fn T
  refine F.ok sc_law_deed (fun vs H Q E h => ?_) (fun cdv A outer s H vs Q E hr h => ?_)
  · obtain ⟨a, x, q, p, scr, ns, n, tot, rfl, _⟩ := h
    rfl
  · obtain ⟨a, x, q, p, scr, ns, n, tot, rfl, hS, n0, n1, KA, hp, hl, k⟩ := h
    have hu := hr.units0
    refine ⟨_, (pss_cons (ps_set (i := 4) sc_law_deed.nd rfl (Or.inl rfl) (pe_call G__law_number (hr.mono (by first | decide | exact Nat.le_refl _)) rfl D__law_number.mg D__law_number.fn.kp D__law_number.bd .nil pass0 (pa_cons (pv 0) (pa_cons (pv 1) pa_nil))))
      (pss_cons (ps_if (PW.pt (pw_or (pt_cmpR (oEq (K := K) rfl true hu) (pv 3) (pe_tup pa_nil) (nomark _)) (pw_or1 (PW.pt (pw_and (pt_cmpR op_lt (pe_callB (cLen (K := K) rfl) (by rfl) T.b_len PyProof.Rows.Boot.«len» (pa_cons (pv 3) pa_nil)) pe_int (nomark _)) (pw_and1 (pt_cmpR op_eq (pe_op op_mod (pv 4) pe_int) pe_int (nomark _))))))))
        (pss_cons (ps_set (i := 5) sc_law_deed.nd rfl (Or.inl rfl) (pe_op op_sub (pe_op op_mod (pe_op op_fdiv (pv 4) pe_int) pe_int) pe_int))
        (pss_one (ps_ret (pe_lst (pa_cons (pe_op oCatB (pv 3) (pe_tup (pa_cons (pv 5) pa_nil))) (pa_cons (pe_meth (pv 2) TC.cl M_put_number.mt G_put_number (hr.mono (by first | decide | exact Nat.le_refl _)) M_put_number.bd .nil pass0 (pa_cons (pv 5) pa_nil)) pa_nil))))))
        pss_nil)
      (pss_cons (ps_if (pt_cmpR op_eq (pe_op op_mod (pv 4) pe_int) pe_int (nomark _))
        (pss_one (ps_ret (pe_lst (pa_cons (pe_slice slTB (pv 3) po_none (po_some (pe_un un_neg pe_int))) (pa_cons (pe_meth0 (pv 2) TC.cl M_take_number.mt G_take_number (hr.mono (by first | decide | exact Nat.le_refl _)) M_take_number.bd .nil pass0) pa_nil)))))
        pss_nil)
      (pss_cons (ps_set (i := 6) sc_law_deed.nd rfl (Or.inl rfl) (pe_op op_mod (pe_op op_fdiv (pv 4) pe_int) (pe_callB (cLen (K := K) rfl) (by rfl) T.b_len PyProof.Rows.Boot.«len» (pa_cons (pv 3) pa_nil))))
      (pss_one (ps_ret (pe_lst (pa_cons (pe_op oCatB (pe_op oCatB (pe_slice slTB (pv 3) po_none (po_some (pv 6))) (pe_tup (pa_cons (pe_op op_mod (pv 4) pe_int) pa_nil))) (pe_slice slTB (pv 3) (po_some (pe_op op_add (pv 6) pe_int)) po_none)) (pa_cons (pe_meth (pv 2) TC.cl M_lead_number.mt G_lead_number (hr.mono (by first | decide | exact Nat.le_refl _)) M_lead_number.bd .nil pass0 (pa_cons (pv 6) (pa_cons (pe_op op_mod (pv 4) pe_int) pa_nil))) pa_nil))))))))), ?_⟩
    have hlm : (ns.map V.int).length = ns.length := List.length_map _
    have no : ∀ {m : Str}, ¬ m = "total" → ¬ m = "numbers" → (flds q tot).lookup m = none := fun h1 h2 => flds_no _ _ h1 h2
    refine ⟨_, rfl, _, rfl, a, scr, n, rfl, hS, n0, by omega, fun nu H1 nu0 nu1 S1 => ?_⟩
    dsimp only [gName]
    have fin : ∀ (H3 H4 : Hp) (r q' l : Addr) (ms : List Int), Same H H3 → RowAt H3 r ms → KeptAt C H4 x q' ms tot → Kp x H3 H4 → H4 l = none → ms.length ≤ 60 → KeptAt C H3 x q ns tot → Q (.ref l) (upd H4 l (.lst [.ref r, .int (cnt ms tot - cnt ns tot)])) := by
      intro H3 H4 r q' l ms S3 hr3 KA4 k4 hl4 hml KA3
      have hr4 : RowAt H4 r ms := ⟨k4 _ _ hr3.1 (KA3.nt hr3.1), hr3.2⟩
      refine k l r q' ms _ upd_same (hr4.same (Same.lay hl4)) (KA4.same (Same.lay hl4)) hml ?_
      exact fun b o e nb => by
        have e4 := k4 b o (S3 b o e) nb
        rw [upd_ne (ne_of_none e4 hl4)]; exact e4
    have step0 : ns.length < 60 → ∀ H3 (D : Ends) (nw : Int), Same H H3 → D.rt = Q → tRet (tLst (tCons (tOp rCatB (tVar 3) (tTup (tCons (tVar 5) tNil))) (tCons (tMeth C "put_number" (spPut C) [] E0 (tVar 2) (tCons (tVar 5) tNil)) tNil))) D
        [some (.ref a), some (.int n), some (.ref x), some (.ref p), some (.int nu), some (.int nw), none] H3 := by
      intro hlt H3 D nw S3 hD
      refine ⟨_, rfl, _, rfl, by show 1 ≤ sizeLine; decide, fun b1 hb1 => ⟨p, b1, _, _, rfl, rfl, ((hp.same S3).same (Same.lay hb1)).1, upd_same, size_le (by rw [hlm]; simp only [List.length_cons, List.length_nil]; omega), fun r H4 S4' hr4 => ?_⟩⟩
      have S4 := S3.trans ((Same.lay (o := .tup [.int nw]) hb1).trans S4')
      have hr4' : RowAt H4 r (ns ++ [nw]) := ⟨by rw [hr4, List.map_append]; rfl, by rw [List.length_append]; simp only [List.length_cons, List.length_nil]; omega⟩
      obtain ⟨dx, hx⟩ := (KA.same S4).ob
      refine ⟨_, rfl, x, dx, _, rfl, hx, no (by decide +kernel) (by decide +kernel), _, rfl, x, q, ns, tot, nw, rfl, KA.same S4, by omega, fun q' H5 KA5 k5 => ⟨by show 2 ≤ sizeLine; decide, fun l hl5 => ?_⟩⟩
      rw [hD]
      exact fin H4 H5 r q' l _ S4 hr4' KA5 k5 hl5 (by rw [List.length_append]; simp only [List.length_cons, List.length_nil]; omega) (KA.same S4)
    refine seq_rt (fun σ H' => σ = [some (.ref a), some (.int n), some (.ref x), some (.ref p), some (.int nu), none, none] ∧ 0 < ns.length ∧ Same H H') (fun D' hD hN => ?_) ?_
    · have hD' : D'.rt = Q := hD
      refine ⟨_, rfl, by show 0 ≤ sizeLine; decide, fun e0 he0 => ?_⟩
      have S3 := S1.trans (Same.lay (o := .tup []) he0)
      have hp3 := hp.same S3
      refine ⟨p, e0, _, [], rfl, rfl, SqB.t hp3.1, SqB.t upd_same, flat_ints ns, rfl, _, rfl, ite2 (fun e => iteT ?_) (fun e => ?_)⟩
      · have hn : ns.length = 0 := by
          by_cases z : (ns.map V.int).length = ([] : List V).length
          · rw [hlm] at z; exact z
          · rw [if_neg (by decide), eqVs_len z] at e; cases e
        refine ⟨_, rfl, _, _, rfl, rfl, ⟨by decide, by decide⟩, _, _, rfl, rfl, (by show (0 : Int) < _; decide), _, _, rfl, rfl, ?_⟩
        exact step0 (by omega) _ _ _ S3 hD'
      have hn : 0 < ns.length := by
        cases ns with
        | nil => exact absurd rfl e
        | cons _ _ => simp
      refine ⟨_, rfl, p, _, rfl, .inr (SqT.of hp3.1), _, _, rfl, rfl, _, rfl, ite2 (fun e1 => ?_) (fun e1 => ?_)⟩
      · refine ⟨_, rfl, _, _, rfl, rfl, (by show (0 : Int) < _; decide), rfl, _, rfl, ite2 (fun e2 => ?_) (fun e2 => ?_)⟩
        · refine ⟨_, rfl, _, _, rfl, rfl, ⟨by decide, by decide⟩, _, _, rfl, rfl, (by show (0 : Int) < _; decide), _, _, rfl, rfl, ?_⟩
          have h60 := of_decide_eq_true e1
          exact step0 (by rw [hlm] at h60; omega) _ _ _ S3 hD'
        · exact hN _ _ ⟨rfl, hn, S3⟩
      · exact iteF (hN _ _ ⟨rfl, hn, S3⟩)
    rintro σ H3 ⟨rfl, hn, S3⟩
    have hp3 := hp.same S3
    refine ⟨_, rfl, _, _, rfl, rfl, (by show (0 : Int) < _; decide), rfl, _, rfl, ite2 (fun _ => ?_) (fun _ => ?_)⟩
    · refine ⟨_, rfl, 1, rfl, _, rfl, p, _, rfl, hp3.1, fun r H4 S4' hr4 => ?_⟩
      have S4 := S3.trans S4'
      rw [cutV_map, cut_last ns hn] at hr4
      have hr4' : RowAt H4 r ns.dropLast := ⟨hr4, by rw [List.length_dropLast]; omega⟩
      obtain ⟨dx, hx⟩ := (KA.same S4).ob
      refine ⟨_, rfl, x, dx, _, rfl, hx, no (by decide +kernel) (by decide +kernel), x, q, ns, tot, rfl, KA.same S4, hn, fun q' H5 KA5 k5 => ⟨by show 2 ≤ sizeLine; decide, fun l hl5 => ?_⟩⟩
      exact fin H4 H5 r q' l _ S4 hr4' KA5 k5 hl5 (by rw [List.length_dropLast]; omega) (KA.same S4)
    · refine ⟨_, rfl, _, _, rfl, rfl, ⟨by decide, by decide⟩, _, rfl, p, _, rfl, .inr (SqT.of hp3.1), _, _, rfl, rfl, (by show (0 : Int) < _; rw [hlm]; omega), ?_⟩
      have ⟨z0, z1⟩ := mod_lt (nu / 12) ((ns.map V.int).length : Int) (by rw [hlm]; omega)
      obtain ⟨pl, hpl⟩ := Int.eq_ofNat_of_zero_le z0
      rw [hpl] at z1
      dsimp only [gName]
      rw [hpl]
      have hlt : pl < ns.length := by rw [hlm] at z1; omega
      obtain ⟨pp, xs, e1, e2, e3⟩ := led_read (Q := fun y H6 => ∃ q, y = .ref q ∧ RowAt H6 q (ns.set pl (nu % 5)) ∧ Same H3 H6) (n := nu % 5) hp3 hlt fun q H6 hq S6 => ⟨q, rfl, hq, S6⟩
      refine ⟨_, rfl, _, rfl, _, rfl, pp, xs, e1, e2, fun q2 H' S hq => ⟨_, rfl, _, _, rfl, rfl, (by show (0 : Int) < _; decide), by show 1 ≤ sizeLine; decide, fun q3 hq3 => ?_⟩⟩
      obtain ⟨b1, b2, us, ws, y1, y2, y3, y4, y5, y6⟩ := e3 q2 H' S hq q3 hq3
      refine ⟨b1, b2, us, ws, y1, y2, y3, y4, y5, fun q4 H5 S5 hq4 => ?_⟩
      obtain ⟨pp', xs', e1', e2', e3'⟩ := y6 q4 H5 S5 hq4
      refine ⟨_, rfl, _, rfl, _, _, rfl, rfl, _, rfl, pp', xs', e1', e2', fun q5 H6 S6 hq5 => ?_⟩
      obtain ⟨c1, c2, us2, ws2, x1, x2, x3, x4, x5, x6⟩ := e3' q5 H6 S6 hq5
      refine ⟨c1, c2, us2, ws2, x1, x2, x3, x4, x5, fun r H7 S7 hq6 => ?_⟩
      obtain ⟨r', er, hr7, S37⟩ := x6 r H7 S7 hq6
      have er : r = r' := by injection er
      subst er
      have S7' := S3.trans S37
      obtain ⟨dx, hx⟩ := (KA.same S7').ob
      refine ⟨_, rfl, x, dx, _, rfl, hx, no (by decide +kernel) (by decide +kernel), _, rfl, _, rfl, _, _, rfl, rfl, (by show (0 : Int) < _; decide), x, q, ns, tot, nu % 5, pl, rfl, KA.same S7', hlt, fun q' H8 KA8 k8 => ⟨by show 2 ≤ sizeLine; decide, fun l hl8 => ?_⟩⟩
      exact fin H7 H8 r q' l _ S7' hr7 KA8 k8 hl8 (by rw [List.length_set]; exact hl) (KA.same S7')
end
/-! ### the law -/
theorem same_new {H : Hp} {x dx : Addr} {o o' : HO} (nx : H x = none) (ndx : H dx = none) : Same H (upd (upd H dx o') x o) := fun b ob e => by rw [upd_ne (ne_of_none e nx), upd_ne (ne_of_none e ndx)]; exact e
def spLaw (K : PySem.W.Frag) : Sp := fun vs H Q _ => ∃ (a : Addr) (ns : List Int), vs = [.ref a] ∧ SqL K H a (ns.map V.int) ∧ ns.length ≤ 63 ∧ ∀ H', Q (.bl true) H'
section
variable {P : Program} {w : World} {K : PySem.W.Frag} {mg : Str → Option Value} {base : Heap} {C S R Ak Rs St Tx : Addr}
abbrev s_law : Stmt := top 34
theorem sc_law : FnScope ["script", "row", "total", "kept", "turn", "ahead", "told"] ["script"] (defScope s_law) := ⟨rfl, rfl, rfl, by decide +kernel, rfl, by decide +kernel, by decide +kernel⟩
theorem ok_law {f f1 f2 f3 f4 f5 f6 f7 f8 f9 f10 f11 f12 f13 f14 f15 f16 f17 f18 f19 f20 f21 f22 m1 m2 m3 m4 m5 m6 m7 m8 m9 : Addr} {fd fd1 fd2 fd3 fd4 fd5 fd6 fd7 fd8 fd9 fd10 fd11 fd12 fd13 fd14 fd15 fd16 fd17 fd18 fd19 fd20 fd21 fd22 md1 md2 md3 md4 md5 md6 md7 md8 md9 : FuncData} (F : Fun K "law" "law" s_law f fd) (T : Txt mg) (TC : TxtC K mg C) (MK : Mk K C m1)
    (X_SumError : XSp K mg "SumError" S) (X_NoPlace : XRz K mg "NoPlace" R) (X_NoAsk : XNm K mg "NoAsk" Ak) (X_NoRest : XNm K mg "NoRest" Rs) (X_NoStretch : XNm K mg "NoStretch" St) (X_NoText : XNm K mg "NoText" Tx) (XR : XRel K S R Ak Rs St Tx)
    (M_init : MethAt K C "__init__" "KeptRow.__init__" s_init ["self", "row", "total"] m1 md1)
    (M_put_number : MethAt K C "put_number" "KeptRow.put_number" s_put_number ["self", "number"] m2 md2)
    (M_take_number : MethAt K C "take_number" "KeptRow.take_number" s_take_number ["self"] m3 md3)
    (M_lead_number : MethAt K C "lead_number" "KeptRow.lead_number" s_lead_number ["self", "place", "number"] m4 md4)
    (M_change_to : MethAt K C "change_to" "KeptRow.change_to" s_change_to ["self", "row"] m5 md5)
    (M_row_now : MethAt K C "row_now" "KeptRow.row_now" s_row_now ["self"] m6 md6)
    (M_count_now : MethAt K C "count_now" "KeptRow.count_now" s_count_now ["self"] m7 md7)
    (M_first_now : MethAt K C "first_now" "KeptRow.first_now" s_first_now ["self"] m8 md8)
    (M_longest_now : MethAt K C "longest_now" "KeptRow.longest_now" s_longest_now ["self"] m9 md9)
    (D_sums_ahead : DefAt K mg "sums_ahead" s_sums_ahead ["row"] f1 fd1)
    (D_stretches_of : DefAt K mg "stretches_of" s_stretches_of ["row"] f2 fd2)
    (D_summed_stretches : DefAt K mg "summed_stretches" s_summed_stretches ["row"] f3 fd3)
    (D_length_of : DefAt K mg "length_of" s_length_of ["stretch"] f4 fd4)
    (D_first_of : DefAt K mg "first_of" s_first_of ["stretches"] f5 fd5)
    (D_longest_of : DefAt K mg "longest_of" s_longest_of ["stretches"] f6 fd6)
    (D_all_with : DefAt K mg "all_with" s_all_with ["row", "total"] f7 fd7)
    (D_count_with : DefAt K mg "count_with" s_count_with ["row", "total"] f8 fd8)
    (D_first_with : DefAt K mg "first_with" s_first_with ["row", "total"] f9 fd9)
    (D_longest_with : DefAt K mg "longest_with" s_longest_with ["row", "total"] f10 fd10)
    (D_row_led : DefAt K mg "row_led" s_row_led ["row", "place", "number"] f11 fd11)
    (D__law_number : DefAt K mg "_law_number" s_law_number ["script", "k"] f12 fd12)
    (D__law_row : DefAt K mg "_law_row" s_law_row ["script", "start", "most"] f13 fd13)
    (D__law_stretches : DefAt K mg "_law_stretches" s_law_stretches ["row"] f14 fd14)
    (D__law_picked : DefAt K mg "_law_picked" s_law_picked ["some"] f15 fd15)
    (D__law_alike : DefAt K mg "_law_alike" s_law_alike ["found", "due"] f16 fd16)
    (D__law_due : DefAt K mg "_law_due" s_law_due ["row", "total"] f17 fd17)
    (D__law_one : DefAt K mg "_law_one" s_law_one ["kept", "way"] f18 fd18)
    (D__law_asked_right : DefAt K mg "_law_asked_right" s_law_asked_right ["kept", "due", "number"] f19 fd19)
    (D__law_refused : DefAt K mg "_law_refused" s_law_refused ["kept", "place", "number"] f20 fd20)
    (D__law_refused_right : DefAt K mg "_law_refused_right" s_law_refused_right ["script", "k", "kept", "row", "total"] f21 fd21)
    (D__law_deed : DefAt K mg "_law_deed" s_law_deed ["script", "k", "kept", "row"] f22 fd22) :
    FnOk P w K mg base CX0 10 f fd ["script"] (spLaw K) := by
  have G_summed_stretches : FnOk P w K mg base CX0 2 f3 fd3 ["row"] spSummed := ok_summed_stretches D_summed_stretches.fn T D_sums_ahead D_stretches_of
  have G_all_with : FnOk P w K mg base CX0 3 f7 fd7 ["row", "total"] spAll := ok_all_with D_all_with.fn T D_summed_stretches G_summed_stretches
  have G_count_with : FnOk P w K mg base CX0 4 f8 fd8 ["row", "total"] spCount := ok_count_with D_count_with.fn T D_all_with G_all_with
  have G_first_of : FnOk P w K mg base CX0 2 f5 fd5 ["stretches"] (spPick firstOf) := ok_first_of D_first_of.fn T
  have G_longest_of : FnOk P w K mg base CX0 3 f6 fd6 ["stretches"] (spPick longOf) := ok_longest_of D_longest_of.fn T D_length_of
  have G_first_with : FnOk P w K mg base CX0 4 f9 fd9 ["row", "total"] (spAllOpt firstOf) := ok_first_with D_first_with.fn T D_all_with G_all_with D_first_of G_first_of
  have G_longest_with : FnOk P w K mg base CX0 4 f10 fd10 ["row", "total"] (spAllOpt longOf) := ok_longest_with D_longest_with.fn T D_all_with G_all_with D_longest_of G_longest_of
  have G_init : FnOk P w K mg base CX0 1 m1 md1 ["self", "row", "total"] (spInit C) := ok_init M_init.fn T TC
  have G_row_now : FnOk P w K mg base CX0 1 m6 md6 ["self"] (spRowNow C) := ok_row_now M_row_now.fn TC
  have G_count_now : FnOk P w K mg base CX0 5 m7 md7 ["self"] (spCountNow C) := ok_count_now M_count_now.fn TC D_count_with G_count_with
  have G_first_now : FnOk P w K mg base CX0 5 m8 md8 ["self"] (spOptNow C firstOf) := ok_first_now M_first_now.fn TC D_first_with G_first_with
  have G_longest_now : FnOk P w K mg base CX0 5 m9 md9 ["self"] (spOptNow C longOf) := ok_longest_now M_longest_now.fn TC D_longest_with G_longest_with
  have G_change_to : FnOk P w K mg base CX0 6 m5 md5 ["self", "row"] (spChange C) := ok_change_to M_change_to.fn TC M_count_now G_count_now
  have G_put_number : FnOk P w K mg base CX0 7 m2 md2 ["self", "number"] (spPut C) := ok_put_number M_put_number.fn TC M_change_to G_change_to
  have G_take_number : FnOk P w K mg base CX0 7 m3 md3 ["self"] (spTake' C) := ok_take_number M_take_number.fn TC M_change_to G_change_to
  have G_lead_number : FnOk P w K mg base CX0 7 m4 md4 ["self", "place", "number"] (spLead C) := ok_lead_number M_lead_number.fn T TC M_change_to G_change_to D_row_led
  have B_row_led : FnOk P w K mg base (CXx P w) 1 f11 fd11 ["row", "place", "number"] (spLedB R) := bad_row_led D_row_led.fn T X_NoPlace
  have B_take_number : FnOk P w K mg base (CXx P w) 7 m3 md3 ["self"] (spTakeB C R) := bad_take_number M_take_number.fn TC M_change_to G_change_to X_NoPlace
  have B_lead_number : FnOk P w K mg base (CXx P w) 7 m4 md4 ["self", "place", "number"] (spLeadB C R) := bad_lead_number M_lead_number.fn TC M_change_to G_change_to D_row_led B_row_led
  have G__law_number : FnOk P w K mg base CX0 1 f12 fd12 ["script", "k"] (spNum K) := ok_number D__law_number.fn T
  have G__law_row : FnOk P w K mg base CX0 2 f13 fd13 ["script", "start", "most"] (spRow K) := ok_row D__law_row.fn T D__law_number
  have G__law_alike : FnOk P w K mg base CX0 2 f16 fd16 ["found", "due"] (spAlk 1) := ok_alike T D__law_alike 1
  have G__law_due : FnOk P w K mg base CX0 2 f17 fd17 ["row", "total"] spDue := ok_law_due D__law_due.fn T D__law_stretches D__law_picked
  have G__law_one : FnOk P w K mg base CX0 6 f18 fd18 ["kept", "way"] (spOne C) := ok_law_one D__law_one.fn TC M_row_now G_row_now M_count_now G_count_now M_first_now G_first_now M_longest_now G_longest_now
  have G__law_asked_right : FnOk P w K mg base CX0 7 f19 fd19 ["kept", "due", "number"] (spAsked C) := ok_law_asked D__law_asked_right.fn T D__law_one G__law_one D__law_alike
  have G__law_refused : FnOk P w K mg base CX0 8 f20 fd20 ["kept", "place", "number"] (spRefK C) := ok_law_refused D__law_refused.fn T TC X_SumError X_NoPlace X_NoAsk X_NoRest X_NoStretch X_NoText XR M_take_number B_take_number M_lead_number B_lead_number
  have G__law_refused_right : FnOk P w K mg base CX0 9 f21 fd21 ["script", "k", "kept", "row", "total"] (spRR K C) := ok_refr D__law_refused_right.fn T D__law_number D__law_refused G__law_refused D__law_asked_right G__law_asked_right D__law_due G__law_due
  have G__law_deed : FnOk P w K mg base CX0 8 f22 fd22 ["script", "k", "kept", "row"] (spDeedK K C) := ok_law_deed D__law_deed.fn T TC D__law_number M_put_number G_put_number M_take_number G_take_number M_lead_number G_lead_number
  refine F.ok sc_law (fun vs H Q E h => ?_) (fun cdv A' outer s H vs Q E hr h => ?_)
  · obtain ⟨a, ns, rfl, _⟩ := h
    rfl
  · obtain ⟨a, scr, rfl, hS0, hlen, k⟩ := h
    have hS : Scr K H a scr := ⟨hS0, hlen⟩
    have hu := hr.units0
    refine ⟨_, (pss_cons (ps_set (i := 1) sc_law.nd rfl (Or.inl rfl) (pe_call G__law_row (hr.mono (by first | decide | exact Nat.le_refl _)) rfl D__law_row.mg D__law_row.fn.kp D__law_row.bd .nil pass0 (pa_cons (pv 0) (pa_cons pe_int (pa_cons (pe_ix (ixL (K := K) rfl) (pe_lst (pa_cons pe_int (pa_cons pe_int pa_nil))) (pe_op op_mod (pe_call G__law_number (hr.mono (by first | decide | exact Nat.le_refl _)) rfl D__law_number.mg D__law_number.fn.kp D__law_number.bd .nil pass0 (pa_cons (pv 0) (pa_cons pe_int pa_nil))) pe_int) (fun _ _ => rfl)) pa_nil)))))
      (pss_cons (ps_set (i := 2) sc_law.nd rfl (Or.inl rfl) (pe_op op_sub (pe_op op_mod (pe_call G__law_number (hr.mono (by first | decide | exact Nat.le_refl _)) rfl D__law_number.mg D__law_number.fn.kp D__law_number.bd .nil pass0 (pa_cons (pv 0) (pa_cons pe_int pa_nil))) pe_int) pe_int))
      (pss_cons (ps_set (i := 3) sc_law.nd rfl (Or.inl rfl) (pe_make MK G_init (hr.mono (by first | decide | exact Nat.le_refl _)) rfl TC.mgC M_init.bd .nil pass0 (pa_cons (pv 1) (pa_cons (pv 2) pa_nil))))
      (pss_cons (ps_for PassesOwn.never rfl (pi_range1 (by rfl) T.b_range (pa_cons (pe_op op_add pe_int (pe_op op_mod (pe_call G__law_number (hr.mono (by first | decide | exact Nat.le_refl _)) rfl D__law_number.mg D__law_number.fn.kp D__law_number.bd .nil pass0 (pa_cons (pv 0) (pa_cons pe_int pa_nil))) pe_int)) pa_nil)) (pg_name (i := 4) sc_law.nd rfl (Or.inl rfl))
        (pss_cons (ps_if (pt_not (pt_val (pe_call G__law_refused_right (hr.mono (by first | decide | exact Nat.le_refl _)) rfl D__law_refused_right.mg D__law_refused_right.fn.kp D__law_refused_right.bd .nil pass0 (pa_cons (pv 0) (pa_cons (pe_op op_add pe_int (pe_op op_mul pe_int (pv 4))) (pa_cons (pv 3) (pa_cons (pv 1) (pa_cons (pv 2) pa_nil))))))))
          (pss_one (ps_ret pe_bl))
          pss_nil)
        (pss_cons (ps_set (i := 5) sc_law.nd rfl (Or.inl rfl) (pe_ix (ixT (K := K) rfl) (pe_call G__law_due (hr.mono (by first | decide | exact Nat.le_refl _)) rfl D__law_due.mg D__law_due.fn.kp D__law_due.bd .nil pass0 (pa_cons (pv 1) (pa_cons (pv 2) pa_nil))) pe_int (fun _ _ => rfl)))
        (pss_cons (ps_asg (pe_call G__law_deed (hr.mono (by first | decide | exact Nat.le_refl _)) rfl D__law_deed.mg D__law_deed.fn.kp D__law_deed.bd .nil pass0 (pa_cons (pv 0) (pa_cons (pe_op op_add pe_int (pe_op op_mul pe_int (pv 4))) (pa_cons (pv 3) (pa_cons (pv 1) pa_nil))))) (pgL (K := K) (n := 2) rfl rfl (pgs_cons (pg_name (i := 1) sc_law.nd rfl (Or.inl rfl)) (pgs_cons (pg_name (i := 6) sc_law.nd rfl (Or.inl rfl)) pgs_nil))))
        (pss_one (ps_if (pt_not (pt_val (pe_call G__law_alike (hr.mono (by first | decide | exact Nat.le_refl _)) rfl D__law_alike.mg D__law_alike.fn.kp D__law_alike.bd .nil pass0 (pa_cons (pv 6) (pa_cons (pe_op op_sub (pe_ix (ixT (K := K) rfl) (pe_call G__law_due (hr.mono (by first | decide | exact Nat.le_refl _)) rfl D__law_due.mg D__law_due.fn.kp D__law_due.bd .nil pass0 (pa_cons (pv 1) (pa_cons (pv 2) pa_nil))) pe_int (fun _ _ => rfl)) (pv 5)) pa_nil)))))
          (pss_one (ps_ret pe_bl))
          pss_nil))))))
      (pss_cons (ps_if (pt_not (pt_val (pe_call G__law_refused_right (hr.mono (by first | decide | exact Nat.le_refl _)) rfl D__law_refused_right.mg D__law_refused_right.fn.kp D__law_refused_right.bd .nil pass0 (pa_cons (pv 0) (pa_cons pe_int (pa_cons (pv 3) (pa_cons (pv 1) (pa_cons (pv 2) pa_nil))))))))
        (pss_one (ps_ret pe_bl))
        pss_nil)
      (pss_one (ps_ret (pe_call G__law_asked_right (hr.mono (by first | decide | exact Nat.le_refl _)) rfl D__law_asked_right.mg D__law_asked_right.fn.kp D__law_asked_right.bd .nil pass0 (pa_cons (pv 3) (pa_cons (pe_call G__law_due (hr.mono (by first | decide | exact Nat.le_refl _)) rfl D__law_due.mg D__law_due.fn.kp D__law_due.bd .nil pass0 (pa_cons (pv 1) (pa_cons (pv 2) pa_nil))) (pa_cons pe_int pa_nil))))))))))), ?_⟩
    -- row
    refine ⟨_, rfl, by show 2 ≤ sizeLine; decide, fun l0 hl0 => ?_⟩
    have S1 : Same H (upd H l0 (.lst [.int 60, .int 3])) := Same.lay hl0
    have e1 : upd H l0 (.lst [.int 60, .int 3]) l0 = some (.lst [.int 60, .int 3]) := upd_same
    generalize upd H l0 (.lst [.int 60, .int 3]) = H1 at S1 e1
    refine ⟨_, rfl, a, scr, _, rfl, hS.same S1, by omega, by omega, fun r H2 r0 r1 S2 => ?_⟩
    obtain ⟨mo, hmo, mm, _⟩ := atI_ints [60, 3] (mod_lt r 2 (by decide)).1 (mod_lt r 2 (by decide)).2
    have mo0 : 0 ≤ mo ∧ mo ≤ 60 := by
      simp only [List.mem_cons, List.not_mem_nil, or_false] at mm
      rcases mm with rfl | rfl <;> decide
    refine ⟨_, _, rfl, rfl, (by show (0 : Int) < _; decide), l0, _, _, _, rfl, rfl, SqL.of (S2 _ _ e1), hmo, a, scr, _, _, rfl, (hS.same S1).same S2, by omega, by omega, mo0.1, mo0.2, fun p ns H3 hp hn S3 => ?_⟩
    dsimp only [gName]
    have hl6 : ns.length ≤ 60 := by omega
    have S13 := (S1.trans S2).trans S3
    -- total
    refine ⟨_, rfl, a, scr, _, rfl, hS.same S13, by omega, by omega, fun r4 H4 r40 r41 S4 => ⟨_, _, rfl, rfl, (by show (0 : Int) < _; decide), _, _, rfl, rfl, ?_⟩⟩
    dsimp only [gName]
    generalize r4 % 9 - 4 = tot
    have S14 := S13.trans S4
    have hp4 : RowAt H4 p ns := ⟨S4 _ _ hp, by omega⟩
    -- kept
    refine ⟨_, rfl, _, rfl, fun x dx nx ndx nex => ⟨x, dx, p, ns, tot, rfl, upd_same, hp4.same (same_new nx ndx), fun H5 KA5 k5 => ⟨rfl, ?_⟩⟩⟩
    dsimp only [gName]
    have S45 : Same H4 H5 := fun b o e => k5 b o (same_new nx ndx b o e) (ne_of_none e nx)
    -- for turn
    refine ⟨_, rfl, a, scr, _, rfl, (hS.same S14).same S45, by omega, by omega, fun r6 H6 r60 r61 S6 => ⟨_, _, rfl, rfl, (by show (0 : Int) < _; decide), _, _, rfl, rfl, ?_⟩⟩
    have t0 := (mod_lt r6 12 (by decide)).1
    have t1 := (mod_lt r6 12 (by decide)).2
    refine ⟨_, rfl, by omega, by omega, ?_⟩
    refine for_range (fun i σ H' => ∃ (p q : Addr) (ns : List Int) (v4 v5 v6 : Option V), σ = [some (.ref a), some (.ref p), some (.int tot), some (.ref x), v4, v5, v6] ∧ KeptAt C H' x q ns tot ∧ RowAt H' p ns ∧ ns.length ≤ 60 ∧ Same H4 H') ⟨p, p, ns, _, _, _, rfl, KA5.same S6, (hp4.same S45).same S6, hl6, S45.trans S6⟩ ?_ ?_
    · rintro i σ H7 hi ⟨p, q, ns, v4, v5, v6, rfl, KA7, hp7, hl7, S47⟩
      have i12 : i < 12 := by omega
      have hS7 := (hS.same S14).same S47
      refine ⟨_, rfl, _, rfl, _, _, rfl, rfl, .inl ⟨by decide, by decide⟩, _, _, rfl, rfl, _, rfl, _, rfl, _, rfl, a, x, q, p, scr, ns, _, tot, rfl, hS7, by omega, by omega, KA7, hp7, hl7, fun H8 S8 => ⟨_, rfl, iteF ?_⟩⟩
      -- ahead
      refine ⟨_, rfl, _, rfl, p, ns, tot, rfl, hp7.same S8, fun d H9 hd S9 => ?_⟩
      obtain ⟨pd, w1, w2, hd9, _⟩ := hd
      refine ⟨d, _, _, _, rfl, rfl, SqT.of hd9, rfl, ?_⟩
      dsimp only [gName]
      have S79 := S8.trans S9
      -- row, told
      refine ⟨_, rfl, _, rfl, _, _, rfl, rfl, .inl ⟨by decide, by decide⟩, _, _, rfl, rfl, _, rfl, _, rfl, a, x, q, p, scr, ns, _, tot, rfl, hS7.same S79, by omega, by omega, KA7.same S79, hp7.same S79, hl7, fun l pr q' ms HA hlA hrA KAA hml kA => ?_⟩
      refine ⟨l, _, rfl, SqL.of hlA, rfl, _, _, rfl, _, _, rfl, rfl, ?_⟩
      have S4A : Same H4 HA := fun b o e => kA b o ((S47.trans S79) b o e) (ne_of_none e nx)
      refine ⟨_, rfl, _, rfl, _, rfl, pr, ms, tot, rfl, hrA, fun d2 HB hd2 SB => ?_⟩
      obtain ⟨pd2, y1, y2, hd2, _⟩ := hd2
      refine ⟨d2, _, _, _, rfl, rfl, SqT.of hd2, rfl, _, rfl, _, _, rfl, rfl, _, _, rfl, .inl ⟨rfl, .inl ⟨_, rfl⟩⟩, fun HC SC => ⟨_, rfl, iteF ?_⟩⟩
      exact ⟨pr, q', ms, _, _, _, rfl, (KAA.same SB).same SC, (hrA.same SB).same SC, hml, (S4A.trans SB).trans SC⟩
    · rintro σ H7 ⟨p, q, ns, v4, v5, v6, rfl, KA7, hp7, hl7, S47⟩
      have hS7 := (hS.same S14).same S47
      refine ⟨_, rfl, _, rfl, _, rfl, _, rfl, a, x, q, p, scr, ns, _, tot, rfl, hS7, by omega, by omega, KA7, hp7, hl7, fun H8 S8 => ⟨_, rfl, iteF ?_⟩⟩
      exact ⟨_, rfl, _, rfl, _, rfl, p, ns, tot, rfl, hp7.same S8, fun d H9 hd S9 => ⟨x, q, d, ns, tot, 15, rfl, (KA7.same S8).same S9, hd, by decide, fun HA SA => k _⟩⟩
end
end My

namespace My
open PySem L2
theorem all_mk {l : PySem.W.OpenLaw} {w : World} {K : PySem.W.Frag} {h : Heap} {mg : Str → Option Value} {fa C f1 f2 f3 f4 f5 f6 f7 f8 f9 f10 f11 f12 f13 f14 f15 f16 f17 f18 f19 f20 f21 f22 f23 m1 m2 m3 m4 m5 m6 m7 m8 m9 xS xR xAk xRs xSt xTx : Addr} (X : K.In h) (G : h.Ns mainGlobals mg) (hfa : mg "law" = some (.ref fa))
    {od1 an1 od2 an2 od3 an3 od4 an4 od5 an5 od6 an6 od7 an7 od8 an8 od9 an9 od10 an10 od11 an11 od12 an12 od13 an13 od14 an14 od15 an15 od16 an16 od17 an17 od18 an18 od19 an19 od20 an20 od21 an21 od22 an22 od23 an23 odm1 anm1 odm2 anm2 odm3 anm3 odm4 anm4 odm5 anm5 odm6 anm6 odm7 anm7 odm8 anm8 odm9 anm9 : Option Addr} {sl1 sl2 sl3 sl4 sl5 sl6 sl7 sl8 sl9 sl10 sl11 sl12 sl13 sl14 sl15 sl16 sl17 sl18 sl19 sl20 sl21 sl22 sl23 slm1 slm2 slm3 slm4 slm5 slm6 slm7 slm8 slm9 : Array (Option Value)} {oc1 kV1 dc1 pm1 cd1 ct1 oc2 kV2 dc2 pm2 cd2 ct2 oc3 kV3 dc3 pm3 cd3 ct3 oc4 kV4 dc4 pm4 cd4 ct4 oc5 kV5 dc5 pm5 cd5 ct5 oc6 kV6 dc6 pm6 cd6 ct6 oc7 kV7 dc7 pm7 cd7 ct7 oc8 kV8 dc8 pm8 cd8 ct8 oc9 kV9 dc9 pm9 cd9 ct9 oc10 kV10 dc10 pm10 cd10 ct10 oc11 kV11 dc11 pm11 cd11 ct11 oc12 kV12 dc12 pm12 cd12 ct12 oc13 kV13 dc13 pm13 cd13 ct13 oc14 kV14 dc14 pm14 cd14 ct14 oc15 kV15 dc15 pm15 cd15 ct15 oc16 kV16 dc16 pm16 cd16 ct16 oc17 kV17 dc17 pm17 cd17 ct17 oc18 kV18 dc18 pm18 cd18 ct18 oc19 kV19 dc19 pm19 cd19 ct19 oc20 kV20 dc20 pm20 cd20 ct20 oc21 kV21 dc21 pm21 cd21 ct21 oc22 kV22 dc22 pm22 cd22 ct22 oc23 kV23 dc23 pm23 cd23 ct23 ocm1 kVm1 dcm1 pmm1 cdm1 ctm1 ocm2 kVm2 dcm2 pmm2 cdm2 ctm2 ocm3 kVm3 dcm3 pmm3 cdm3 ctm3 ocm4 kVm4 dcm4 pmm4 cdm4 ctm4 ocm5 kVm5 dcm5 pmm5 cdm5 ctm5 ocm6 kVm6 dcm6 pmm6 cdm6 ctm6 ocm7 kVm7 dcm7 pmm7 cdm7 ctm7 ocm8 kVm8 dcm8 pmm8 cdm8 ctm8 ocm9 kVm9 dcm9 pmm9 cdm9 ctm9 : Value} {clS clR : ClassData}
    (a1 : PySem.W.nsIn K mainGlobals "sums_ahead" = some (some (.ref f1))) (l1 : K.lookup f1 = some ⟨oc1, od1, .func (PySem.W.fnOf "sums_ahead" "sums_ahead" (defArgs s_sums_ahead) (defBody s_sums_ahead) (defScope s_sums_ahead) .none kV1 dc1 pm1 an1 cd1 ct1), sl1⟩) (c1 : PySem.W.codeIn K cd1 "sums_ahead" = true) (k1 : PySem.W.keepIn K (.ref f1) = true)
    (a2 : PySem.W.nsIn K mainGlobals "stretches_of" = some (some (.ref f2))) (l2 : K.lookup f2 = some ⟨oc2, od2, .func (PySem.W.fnOf "stretches_of" "stretches_of" (defArgs s_stretches_of) (defBody s_stretches_of) (defScope s_stretches_of) .none kV2 dc2 pm2 an2 cd2 ct2), sl2⟩) (c2 : PySem.W.codeIn K cd2 "stretches_of" = true) (k2 : PySem.W.keepIn K (.ref f2) = true)
    (a3 : PySem.W.nsIn K mainGlobals "summed_stretches" = some (some (.ref f3))) (l3 : K.lookup f3 = some ⟨oc3, od3, .func (PySem.W.fnOf "summed_stretches" "summed_stretches" (defArgs s_summed_stretches) (defBody s_summed_stretches) (defScope s_summed_stretches) .none kV3 dc3 pm3 an3 cd3 ct3), sl3⟩) (c3 : PySem.W.codeIn K cd3 "summed_stretches" = true) (k3 : PySem.W.keepIn K (.ref f3) = true)
    (a4 : PySem.W.nsIn K mainGlobals "length_of" = some (some (.ref f4))) (l4 : K.lookup f4 = some ⟨oc4, od4, .func (PySem.W.fnOf "length_of" "length_of" (defArgs s_length_of) (defBody s_length_of) (defScope s_length_of) .none kV4 dc4 pm4 an4 cd4 ct4), sl4⟩) (c4 : PySem.W.codeIn K cd4 "length_of" = true) (k4 : PySem.W.keepIn K (.ref f4) = true)
    (a5 : PySem.W.nsIn K mainGlobals "first_of" = some (some (.ref f5))) (l5 : K.lookup f5 = some ⟨oc5, od5, .func (PySem.W.fnOf "first_of" "first_of" (defArgs s_first_of) (defBody s_first_of) (defScope s_first_of) .none kV5 dc5 pm5 an5 cd5 ct5), sl5⟩) (c5 : PySem.W.codeIn K cd5 "first_of" = true) (k5 : PySem.W.keepIn K (.ref f5) = true)
    (a6 : PySem.W.nsIn K mainGlobals "longest_of" = some (some (.ref f6))) (l6 : K.lookup f6 = some ⟨oc6, od6, .func (PySem.W.fnOf "longest_of" "longest_of" (defArgs s_longest_of) (defBody s_longest_of) (defScope s_longest_of) .none kV6 dc6 pm6 an6 cd6 ct6), sl6⟩) (c6 : PySem.W.codeIn K cd6 "longest_of" = true) (k6 : PySem.W.keepIn K (.ref f6) = true)
    (a7 : PySem.W.nsIn K mainGlobals "all_with" = some (some (.ref f7))) (l7 : K.lookup f7 = some ⟨oc7, od7, .func (PySem.W.fnOf "all_with" "all_with" (defArgs s_all_with) (defBody s_all_with) (defScope s_all_with) .none kV7 dc7 pm7 an7 cd7 ct7), sl7⟩) (c7 : PySem.W.codeIn K cd7 "all_with" = true) (k7 : PySem.W.keepIn K (.ref f7) = true)
    (a8 : PySem.W.nsIn K mainGlobals "count_with" = some (some (.ref f8))) (l8 : K.lookup f8 = some ⟨oc8, od8, .func (PySem.W.fnOf "count_with" "count_with" (defArgs s_count_with) (defBody s_count_with) (defScope s_count_with) .none kV8 dc8 pm8 an8 cd8 ct8), sl8⟩) (c8 : PySem.W.codeIn K cd8 "count_with" = true) (k8 : PySem.W.keepIn K (.ref f8) = true)
    (a9 : PySem.W.nsIn K mainGlobals "first_with" = some (some (.ref f9))) (l9 : K.lookup f9 = some ⟨oc9, od9, .func (PySem.W.fnOf "first_with" "first_with" (defArgs s_first_with) (defBody s_first_with) (defScope s_first_with) .none kV9 dc9 pm9 an9 cd9 ct9), sl9⟩) (c9 : PySem.W.codeIn K cd9 "first_with" = true) (k9 : PySem.W.keepIn K (.ref f9) = true)
    (a10 : PySem.W.nsIn K mainGlobals "longest_with" = some (some (.ref f10))) (l10 : K.lookup f10 = some ⟨oc10, od10, .func (PySem.W.fnOf "longest_with" "longest_with" (defArgs s_longest_with) (defBody s_longest_with) (defScope s_longest_with) .none kV10 dc10 pm10 an10 cd10 ct10), sl10⟩) (c10 : PySem.W.codeIn K cd10 "longest_with" = true) (k10 : PySem.W.keepIn K (.ref f10) = true)
    (a11 : PySem.W.nsIn K mainGlobals "row_led" = some (some (.ref f11))) (l11 : K.lookup f11 = some ⟨oc11, od11, .func (PySem.W.fnOf "row_led" "row_led" (defArgs s_row_led) (defBody s_row_led) (defScope s_row_led) .none kV11 dc11 pm11 an11 cd11 ct11), sl11⟩) (c11 : PySem.W.codeIn K cd11 "row_led" = true) (k11 : PySem.W.keepIn K (.ref f11) = true)
    (a12 : PySem.W.nsIn K mainGlobals "_law_number" = some (some (.ref f12))) (l12 : K.lookup f12 = some ⟨oc12, od12, .func (PySem.W.fnOf "_law_number" "_law_number" (defArgs s_law_number) (defBody s_law_number) (defScope s_law_number) .none kV12 dc12 pm12 an12 cd12 ct12), sl12⟩) (c12 : PySem.W.codeIn K cd12 "_law_number" = true) (k12 : PySem.W.keepIn K (.ref f12) = true)
    (a13 : PySem.W.nsIn K mainGlobals "_law_row" = some (some (.ref f13))) (l13 : K.lookup f13 = some ⟨oc13, od13, .func (PySem.W.fnOf "_law_row" "_law_row" (defArgs s_law_row) (defBody s_law_row) (defScope s_law_row) .none kV13 dc13 pm13 an13 cd13 ct13), sl13⟩) (c13 : PySem.W.codeIn K cd13 "_law_row" = true) (k13 : PySem.W.keepIn K (.ref f13) = true)
    (a14 : PySem.W.nsIn K mainGlobals "_law_stretches" = some (some (.ref f14))) (l14 : K.lookup f14 = some ⟨oc14, od14, .func (PySem.W.fnOf "_law_stretches" "_law_stretches" (defArgs s_law_stretches) (defBody s_law_stretches) (defScope s_law_stretches) .none kV14 dc14 pm14 an14 cd14 ct14), sl14⟩) (c14 : PySem.W.codeIn K cd14 "_law_stretches" = true) (k14 : PySem.W.keepIn K (.ref f14) = true)
    (a15 : PySem.W.nsIn K mainGlobals "_law_picked" = some (some (.ref f15))) (l15 : K.lookup f15 = some ⟨oc15, od15, .func (PySem.W.fnOf "_law_picked" "_law_picked" (defArgs s_law_picked) (defBody s_law_picked) (defScope s_law_picked) .none kV15 dc15 pm15 an15 cd15 ct15), sl15⟩) (c15 : PySem.W.codeIn K cd15 "_law_picked" = true) (k15 : PySem.W.keepIn K (.ref f15) = true)
    (a16 : PySem.W.nsIn K mainGlobals "_law_alike" = some (some (.ref f16))) (l16 : K.lookup f16 = some ⟨oc16, od16, .func (PySem.W.fnOf "_law_alike" "_law_alike" (defArgs s_law_alike) (defBody s_law_alike) (defScope s_law_alike) .none kV16 dc16 pm16 an16 cd16 ct16), sl16⟩) (c16 : PySem.W.codeIn K cd16 "_law_alike" = true) (k16 : PySem.W.keepIn K (.ref f16) = true)
    (a17 : PySem.W.nsIn K mainGlobals "_law_due" = some (some (.ref f17))) (l17 : K.lookup f17 = some ⟨oc17, od17, .func (PySem.W.fnOf "_law_due" "_law_due" (defArgs s_law_due) (defBody s_law_due) (defScope s_law_due) .none kV17 dc17 pm17 an17 cd17 ct17), sl17⟩) (c17 : PySem.W.codeIn K cd17 "_law_due" = true) (k17 : PySem.W.keepIn K (.ref f17) = true)
    (a18 : PySem.W.nsIn K mainGlobals "_law_one" = some (some (.ref f18))) (l18 : K.lookup f18 = some ⟨oc18, od18, .func (PySem.W.fnOf "_law_one" "_law_one" (defArgs s_law_one) (defBody s_law_one) (defScope s_law_one) .none kV18 dc18 pm18 an18 cd18 ct18), sl18⟩) (c18 : PySem.W.codeIn K cd18 "_law_one" = true) (k18 : PySem.W.keepIn K (.ref f18) = true)
    (a19 : PySem.W.nsIn K mainGlobals "_law_asked_right" = some (some (.ref f19))) (l19 : K.lookup f19 = some ⟨oc19, od19, .func (PySem.W.fnOf "_law_asked_right" "_law_asked_right" (defArgs s_law_asked_right) (defBody s_law_asked_right) (defScope s_law_asked_right) .none kV19 dc19 pm19 an19 cd19 ct19), sl19⟩) (c19 : PySem.W.codeIn K cd19 "_law_asked_right" = true) (k19 : PySem.W.keepIn K (.ref f19) = true)
    (a20 : PySem.W.nsIn K mainGlobals "_law_refused" = some (some (.ref f20))) (l20 : K.lookup f20 = some ⟨oc20, od20, .func (PySem.W.fnOf "_law_refused" "_law_refused" (defArgs s_law_refused) (defBody s_law_refused) (defScope s_law_refused) .none kV20 dc20 pm20 an20 cd20 ct20), sl20⟩) (c20 : PySem.W.codeIn K cd20 "_law_refused" = true) (k20 : PySem.W.keepIn K (.ref f20) = true)
    (a21 : PySem.W.nsIn K mainGlobals "_law_refused_right" = some (some (.ref f21))) (l21 : K.lookup f21 = some ⟨oc21, od21, .func (PySem.W.fnOf "_law_refused_right" "_law_refused_right" (defArgs s_law_refused_right) (defBody s_law_refused_right) (defScope s_law_refused_right) .none kV21 dc21 pm21 an21 cd21 ct21), sl21⟩) (c21 : PySem.W.codeIn K cd21 "_law_refused_right" = true) (k21 : PySem.W.keepIn K (.ref f21) = true)
    (a22 : PySem.W.nsIn K mainGlobals "_law_deed" = some (some (.ref f22))) (l22 : K.lookup f22 = some ⟨oc22, od22, .func (PySem.W.fnOf "_law_deed" "_law_deed" (defArgs s_law_deed) (defBody s_law_deed) (defScope s_law_deed) .none kV22 dc22 pm22 an22 cd22 ct22), sl22⟩) (c22 : PySem.W.codeIn K cd22 "_law_deed" = true) (k22 : PySem.W.keepIn K (.ref f22) = true)
    (a23 : PySem.W.nsIn K mainGlobals "law" = some (some (.ref f23))) (l23 : K.lookup f23 = some ⟨oc23, od23, .func (PySem.W.fnOf "law" "law" (defArgs s_law) (defBody s_law) (defScope s_law) .none kV23 dc23 pm23 an23 cd23 ct23), sl23⟩) (c23 : PySem.W.codeIn K cd23 "law" = true) (k23 : PySem.W.keepIn K (.ref f23) = true)
    (aC : PySem.W.nsIn K mainGlobals "KeptRow" = some (some (.ref C)))
    (am1 : PySem.W.findIn K (.ref C) "__init__" = some (some (.ref m1))) (im1 : PySem.W.isFn K (.ref m1) = true) (lm1 : K.lookup m1 = some ⟨ocm1, odm1, .func (PySem.W.fnOf "__init__" "KeptRow.__init__" (defArgs s_init) (defBody s_init) (defScope s_init) .none kVm1 dcm1 pmm1 anm1 cdm1 ctm1), slm1⟩) (cm1 : PySem.W.codeIn K cdm1 "KeptRow.__init__" = true) (km1 : PySem.W.keepIn K (.ref m1) = true)
    (am2 : PySem.W.findIn K (.ref C) "put_number" = some (some (.ref m2))) (im2 : PySem.W.isFn K (.ref m2) = true) (lm2 : K.lookup m2 = some ⟨ocm2, odm2, .func (PySem.W.fnOf "put_number" "KeptRow.put_number" (defArgs s_put_number) (defBody s_put_number) (defScope s_put_number) .none kVm2 dcm2 pmm2 anm2 cdm2 ctm2), slm2⟩) (cm2 : PySem.W.codeIn K cdm2 "KeptRow.put_number" = true) (km2 : PySem.W.keepIn K (.ref m2) = true)
    (am3 : PySem.W.findIn K (.ref C) "take_number" = some (some (.ref m3))) (im3 : PySem.W.isFn K (.ref m3) = true) (lm3 : K.lookup m3 = some ⟨ocm3, odm3, .func (PySem.W.fnOf "take_number" "KeptRow.take_number" (defArgs s_take_number) (defBody s_take_number) (defScope s_take_number) .none kVm3 dcm3 pmm3 anm3 cdm3 ctm3), slm3⟩) (cm3 : PySem.W.codeIn K cdm3 "KeptRow.take_number" = true) (km3 : PySem.W.keepIn K (.ref m3) = true)
    (am4 : PySem.W.findIn K (.ref C) "lead_number" = some (some (.ref m4))) (im4 : PySem.W.isFn K (.ref m4) = true) (lm4 : K.lookup m4 = some ⟨ocm4, odm4, .func (PySem.W.fnOf "lead_number" "KeptRow.lead_number" (defArgs s_lead_number) (defBody s_lead_number) (defScope s_lead_number) .none kVm4 dcm4 pmm4 anm4 cdm4 ctm4), slm4⟩) (cm4 : PySem.W.codeIn K cdm4 "KeptRow.lead_number" = true) (km4 : PySem.W.keepIn K (.ref m4) = true)
    (am5 : PySem.W.findIn K (.ref C) "change_to" = some (some (.ref m5))) (im5 : PySem.W.isFn K (.ref m5) = true) (lm5 : K.lookup m5 = some ⟨ocm5, odm5, .func (PySem.W.fnOf "change_to" "KeptRow.change_to" (defArgs s_change_to) (defBody s_change_to) (defScope s_change_to) .none kVm5 dcm5 pmm5 anm5 cdm5 ctm5), slm5⟩) (cm5 : PySem.W.codeIn K cdm5 "KeptRow.change_to" = true) (km5 : PySem.W.keepIn K (.ref m5) = true)
    (am6 : PySem.W.findIn K (.ref C) "row_now" = some (some (.ref m6))) (im6 : PySem.W.isFn K (.ref m6) = true) (lm6 : K.lookup m6 = some ⟨ocm6, odm6, .func (PySem.W.fnOf "row_now" "KeptRow.row_now" (defArgs s_row_now) (defBody s_row_now) (defScope s_row_now) .none kVm6 dcm6 pmm6 anm6 cdm6 ctm6), slm6⟩) (cm6 : PySem.W.codeIn K cdm6 "KeptRow.row_now" = true) (km6 : PySem.W.keepIn K (.ref m6) = true)
    (am7 : PySem.W.findIn K (.ref C) "count_now" = some (some (.ref m7))) (im7 : PySem.W.isFn K (.ref m7) = true) (lm7 : K.lookup m7 = some ⟨ocm7, odm7, .func (PySem.W.fnOf "count_now" "KeptRow.count_now" (defArgs s_count_now) (defBody s_count_now) (defScope s_count_now) .none kVm7 dcm7 pmm7 anm7 cdm7 ctm7), slm7⟩) (cm7 : PySem.W.codeIn K cdm7 "KeptRow.count_now" = true) (km7 : PySem.W.keepIn K (.ref m7) = true)
    (am8 : PySem.W.findIn K (.ref C) "first_now" = some (some (.ref m8))) (im8 : PySem.W.isFn K (.ref m8) = true) (lm8 : K.lookup m8 = some ⟨ocm8, odm8, .func (PySem.W.fnOf "first_now" "KeptRow.first_now" (defArgs s_first_now) (defBody s_first_now) (defScope s_first_now) .none kVm8 dcm8 pmm8 anm8 cdm8 ctm8), slm8⟩) (cm8 : PySem.W.codeIn K cdm8 "KeptRow.first_now" = true) (km8 : PySem.W.keepIn K (.ref m8) = true)
    (am9 : PySem.W.findIn K (.ref C) "longest_now" = some (some (.ref m9))) (im9 : PySem.W.isFn K (.ref m9) = true) (lm9 : K.lookup m9 = some ⟨ocm9, odm9, .func (PySem.W.fnOf "longest_now" "KeptRow.longest_now" (defArgs s_longest_now) (defBody s_longest_now) (defScope s_longest_now) .none kVm9 dcm9 pmm9 anm9 cdm9 ctm9), slm9⟩) (cm9 : PySem.W.codeIn K cdm9 "KeptRow.longest_now" = true) (km9 : PySem.W.keepIn K (.ref m9) = true)
    (pg : PySem.W.plainGet K C Str.empty = true)
    (hd : PySem.W.hasDictIn K C = true)
    (po : PySem.W.plainOver K C = true)
    (sa : PySem.W.findIn K (.ref C) "__setattr__" = some (some (.builtin "object.__setattr__")))
    (mk : PySem.W.makesIn K C = true)
    (kc : PySem.W.keepIn K (.ref C) = true)
    (no_numbers : PySem.W.findIn K (.ref C) "numbers" = some none)
    (no_total : PySem.W.findIn K (.ref C) "total" = some none)
    (eS : PySem.W.nsIn K mainGlobals "SumError" = some (some (.ref xS)))
    (eS_is : PySem.W.clsIn K xS = some clS)
    (eS_ty : PySem.W.typeIn K (.ref xS) = some (.type "type"))
    (eS_bx : PySem.W.mroIn K xS (.type "BaseException") = some true)
    (eR : PySem.W.nsIn K mainGlobals "NoPlace" = some (some (.ref xR)))
    (eR_is : PySem.W.clsIn K xR = some clR)
    (eR_ex : PySem.W.excIn K xR bmV "ValueError.__new__" = true)
    (eR_ga : PySem.W.findIn K (.ref xR) "__getattribute__" = some (some (.builtin "BaseException.__getattribute__")))
    (eR_gn : PySem.W.findIn K (.ref xR) "__getattr__" = some none)
    (eR_cl : PySem.W.findIn K (.ref xR) "__class__" = some (some (.builtin "object.__class__")))
    (eR_ob : PySem.W.mroIn K xR (.type "object") = some true)
    (eR_bx : PySem.W.mroIn K xR (.type "BaseException") = some true)
    (eAk : PySem.W.nsIn K mainGlobals "NoAsk" = some (some (.ref xAk)))
    (eRs : PySem.W.nsIn K mainGlobals "NoRest" = some (some (.ref xRs)))
    (eSt : PySem.W.nsIn K mainGlobals "NoStretch" = some (some (.ref xSt)))
    (eTx : PySem.W.nsIn K mainGlobals "NoText" = some (some (.ref xTx)))
    (r_sub : PySem.W.mroIn K xR (.ref xS) = some true)
    (r_val : PySem.W.kitOne K (.ref xR) (.type "ValueError") = some true)
    (r_oth : PySem.W.kitAny K (.ref xR) [.ref xAk, .ref xRs, .ref xSt, .ref xTx] = some false)
    (z_len : PySem.W.nsIn K mainGlobals "len" = some none)
    (z_sum : PySem.W.nsIn K mainGlobals "sum" = some none)
    (z_range : PySem.W.nsIn K mainGlobals "range" = some none)
    (z_tuple : PySem.W.nsIn K mainGlobals "tuple" = some none)
    (z_list : PySem.W.nsIn K mainGlobals "list" = some none)
    (z_int : PySem.W.nsIn K mainGlobals "int" = some none)
    (z_str : PySem.W.nsIn K mainGlobals "str" = some none)
    (z_bool : PySem.W.nsIn K mainGlobals "bool" = some none)
    (z_isinstance : PySem.W.nsIn K mainGlobals "isinstance" = some none)
    (z_min : PySem.W.nsIn K mainGlobals "min" = some none)
    (z_max : PySem.W.nsIn K mainGlobals "max" = some none)
    (z_zip : PySem.W.nsIn K mainGlobals "zip" = some none)
    (z_reversed : PySem.W.nsIn K mainGlobals "reversed" = some none)
    (z_sorted : PySem.W.nsIn K mainGlobals "sorted" = some none)
    (z_abs : PySem.W.nsIn K mainGlobals "abs" = some none)
    (z_all : PySem.W.nsIn K mainGlobals "all" = some none)
    (z_any : PySem.W.nsIn K mainGlobals "any" = some none)
    (z_set : PySem.W.nsIn K mainGlobals "set" = some none)
    (z_ValueError : PySem.W.nsIn K mainGlobals "ValueError" = some none)
    : ∃ fd : FuncData, (∀ (s : Shared) (v : Value), BindsTo s fd ⟨[v], []⟩ [("script", v)]) ∧ ∀ base : Heap, K.In base → base.Ns mainGlobals mg → FnOk l.prog w K mg base CX0 10 fa fd ["script"] (spLaw K) := by
  have e := hfa.symm.trans (PySem.W.mg_of X G a23)
  cases e
  have T : Txt mg := ⟨PySem.W.mg_none_of X G z_len, PySem.W.mg_none_of X G z_sum, PySem.W.mg_none_of X G z_range, PySem.W.mg_none_of X G z_tuple, PySem.W.mg_none_of X G z_list, PySem.W.mg_none_of X G z_int, PySem.W.mg_none_of X G z_str, PySem.W.mg_none_of X G z_bool, PySem.W.mg_none_of X G z_isinstance, PySem.W.mg_none_of X G z_min, PySem.W.mg_none_of X G z_max, PySem.W.mg_none_of X G z_zip, PySem.W.mg_none_of X G z_reversed, PySem.W.mg_none_of X G z_sorted, PySem.W.mg_none_of X G z_abs, PySem.W.mg_none_of X G z_all, PySem.W.mg_none_of X G z_any, PySem.W.mg_none_of X G z_set, PySem.W.mg_none_of X G z_ValueError⟩
  have F1 := fun_mk (st := s_sums_ahead) l1 c1 k1
  have b1 := F1.binds (ps := ["row"]) fun _ _ _ _ _ _ us hl => match us, hl with | [_], _ => rfl
  have D1 : DefAt K mg "sums_ahead" s_sums_ahead ["row"] f1 _ := ⟨F1, PySem.W.mg_of X G a1, b1⟩
  have F2 := fun_mk (st := s_stretches_of) l2 c2 k2
  have b2 := F2.binds (ps := ["row"]) fun _ _ _ _ _ _ us hl => match us, hl with | [_], _ => rfl
  have D2 : DefAt K mg "stretches_of" s_stretches_of ["row"] f2 _ := ⟨F2, PySem.W.mg_of X G a2, b2⟩
  have F3 := fun_mk (st := s_summed_stretches) l3 c3 k3
  have b3 := F3.binds (ps := ["row"]) fun _ _ _ _ _ _ us hl => match us, hl with | [_], _ => rfl
  have D3 : DefAt K mg "summed_stretches" s_summed_stretches ["row"] f3 _ := ⟨F3, PySem.W.mg_of X G a3, b3⟩
  have F4 := fun_mk (st := s_length_of) l4 c4 k4
  have b4 := F4.binds (ps := ["stretch"]) fun _ _ _ _ _ _ us hl => match us, hl with | [_], _ => rfl
  have D4 : DefAt K mg "length_of" s_length_of ["stretch"] f4 _ := ⟨F4, PySem.W.mg_of X G a4, b4⟩
  have F5 := fun_mk (st := s_first_of) l5 c5 k5
  have b5 := F5.binds (ps := ["stretches"]) fun _ _ _ _ _ _ us hl => match us, hl with | [_], _ => rfl
  have D5 : DefAt K mg "first_of" s_first_of ["stretches"] f5 _ := ⟨F5, PySem.W.mg_of X G a5, b5⟩
  have F6 := fun_mk (st := s_longest_of) l6 c6 k6
  have b6 := F6.binds (ps := ["stretches"]) fun _ _ _ _ _ _ us hl => match us, hl with | [_], _ => rfl
  have D6 : DefAt K mg "longest_of" s_longest_of ["stretches"] f6 _ := ⟨F6, PySem.W.mg_of X G a6, b6⟩
  have F7 := fun_mk (st := s_all_with) l7 c7 k7
  have b7 := F7.binds (ps := ["row", "total"]) fun _ _ _ _ _ _ us hl => match us, hl with | [_, _], _ => rfl
  have D7 : DefAt K mg "all_with" s_all_with ["row", "total"] f7 _ := ⟨F7, PySem.W.mg_of X G a7, b7⟩
  have F8 := fun_mk (st := s_count_with) l8 c8 k8
  have b8 := F8.binds (ps := ["row", "total"]) fun _ _ _ _ _ _ us hl => match us, hl with | [_, _], _ => rfl
  have D8 : DefAt K mg "count_with" s_count_with ["row", "total"] f8 _ := ⟨F8, PySem.W.mg_of X G a8, b8⟩
  have F9 := fun_mk (st := s_first_with) l9 c9 k9
  have b9 := F9.binds (ps := ["row", "total"]) fun _ _ _ _ _ _ us hl => match us, hl with | [_, _], _ => rfl
  have D9 : DefAt K mg "first_with" s_first_with ["row", "total"] f9 _ := ⟨F9, PySem.W.mg_of X G a9, b9⟩
  have F10 := fun_mk (st := s_longest_with) l10 c10 k10
  have b10 := F10.binds (ps := ["row", "total"]) fun _ _ _ _ _ _ us hl => match us, hl with | [_, _], _ => rfl
  have D10 : DefAt K mg "longest_with" s_longest_with ["row", "total"] f10 _ := ⟨F10, PySem.W.mg_of X G a10, b10⟩
  have F11 := fun_mk (st := s_row_led) l11 c11 k11
  have b11 := F11.binds (ps := ["row", "place", "number"]) fun _ _ _ _ _ _ us hl => match us, hl with | [_, _, _], _ => rfl
  have D11 : DefAt K mg "row_led" s_row_led ["row", "place", "number"] f11 _ := ⟨F11, PySem.W.mg_of X G a11, b11⟩
  have F12 := fun_mk (st := s_law_number) l12 c12 k12
  have b12 := F12.binds (ps := ["script", "k"]) fun _ _ _ _ _ _ us hl => match us, hl with | [_, _], _ => rfl
  have D12 : DefAt K mg "_law_number" s_law_number ["script", "k"] f12 _ := ⟨F12, PySem.W.mg_of X G a12, b12⟩
  have F13 := fun_mk (st := s_law_row) l13 c13 k13
  have b13 := F13.binds (ps := ["script", "start", "most"]) fun _ _ _ _ _ _ us hl => match us, hl with | [_, _, _], _ => rfl
  have D13 : DefAt K mg "_law_row" s_law_row ["script", "start", "most"] f13 _ := ⟨F13, PySem.W.mg_of X G a13, b13⟩
  have F14 := fun_mk (st := s_law_stretches) l14 c14 k14
  have b14 := F14.binds (ps := ["row"]) fun _ _ _ _ _ _ us hl => match us, hl with | [_], _ => rfl
  have D14 : DefAt K mg "_law_stretches" s_law_stretches ["row"] f14 _ := ⟨F14, PySem.W.mg_of X G a14, b14⟩
  have F15 := fun_mk (st := s_law_picked) l15 c15 k15
  have b15 := F15.binds (ps := ["some"]) fun _ _ _ _ _ _ us hl => match us, hl with | [_], _ => rfl
  have D15 : DefAt K mg "_law_picked" s_law_picked ["some"] f15 _ := ⟨F15, PySem.W.mg_of X G a15, b15⟩
  have F16 := fun_mk (st := s_law_alike) l16 c16 k16
  have b16 := F16.binds (ps := ["found", "due"]) fun _ _ _ _ _ _ us hl => match us, hl with | [_, _], _ => rfl
  have D16 : DefAt K mg "_law_alike" s_law_alike ["found", "due"] f16 _ := ⟨F16, PySem.W.mg_of X G a16, b16⟩
  have F17 := fun_mk (st := s_law_due) l17 c17 k17
  have b17 := F17.binds (ps := ["row", "total"]) fun _ _ _ _ _ _ us hl => match us, hl with | [_, _], _ => rfl
  have D17 : DefAt K mg "_law_due" s_law_due ["row", "total"] f17 _ := ⟨F17, PySem.W.mg_of X G a17, b17⟩
  have F18 := fun_mk (st := s_law_one) l18 c18 k18
  have b18 := F18.binds (ps := ["kept", "way"]) fun _ _ _ _ _ _ us hl => match us, hl with | [_, _], _ => rfl
  have D18 : DefAt K mg "_law_one" s_law_one ["kept", "way"] f18 _ := ⟨F18, PySem.W.mg_of X G a18, b18⟩
  have F19 := fun_mk (st := s_law_asked_right) l19 c19 k19
  have b19 := F19.binds (ps := ["kept", "due", "number"]) fun _ _ _ _ _ _ us hl => match us, hl with | [_, _, _], _ => rfl
  have D19 : DefAt K mg "_law_asked_right" s_law_asked_right ["kept", "due", "number"] f19 _ := ⟨F19, PySem.W.mg_of X G a19, b19⟩
  have F20 := fun_mk (st := s_law_refused) l20 c20 k20
  have b20 := F20.binds (ps := ["kept", "place", "number"]) fun _ _ _ _ _ _ us hl => match us, hl with | [_, _, _], _ => rfl
  have D20 : DefAt K mg "_law_refused" s_law_refused ["kept", "place", "number"] f20 _ := ⟨F20, PySem.W.mg_of X G a20, b20⟩
  have F21 := fun_mk (st := s_law_refused_right) l21 c21 k21
  have b21 := F21.binds (ps := ["script", "k", "kept", "row", "total"]) fun _ _ _ _ _ _ us hl => match us, hl with | [_, _, _, _, _], _ => rfl
  have D21 : DefAt K mg "_law_refused_right" s_law_refused_right ["script", "k", "kept", "row", "total"] f21 _ := ⟨F21, PySem.W.mg_of X G a21, b21⟩
  have F22 := fun_mk (st := s_law_deed) l22 c22 k22
  have b22 := F22.binds (ps := ["script", "k", "kept", "row"]) fun _ _ _ _ _ _ us hl => match us, hl with | [_, _, _, _], _ => rfl
  have D22 : DefAt K mg "_law_deed" s_law_deed ["script", "k", "kept", "row"] f22 _ := ⟨F22, PySem.W.mg_of X G a22, b22⟩
  have F23 := fun_mk (st := s_law) l23 c23 k23
  have TC : TxtC K mg C := ⟨⟨pg, hd, po, sa⟩, no_numbers, no_total, PySem.W.mg_of X G aC⟩
  have Fm1 := fun_mk (st := s_init) lm1 cm1 km1
  have bm1 := Fm1.binds (ps := ["self", "row", "total"]) fun _ _ _ _ _ _ us hl => match us, hl with | [_, _, _], _ => rfl
  have M1 : MethAt K C "__init__" "KeptRow.__init__" s_init ["self", "row", "total"] m1 _ := ⟨Fm1, ⟨am1, im1, km1⟩, bm1⟩
  have Fm2 := fun_mk (st := s_put_number) lm2 cm2 km2
  have bm2 := Fm2.binds (ps := ["self", "number"]) fun _ _ _ _ _ _ us hl => match us, hl with | [_, _], _ => rfl
  have M2 : MethAt K C "put_number" "KeptRow.put_number" s_put_number ["self", "number"] m2 _ := ⟨Fm2, ⟨am2, im2, km2⟩, bm2⟩
  have Fm3 := fun_mk (st := s_take_number) lm3 cm3 km3
  have bm3 := Fm3.binds (ps := ["self"]) fun _ _ _ _ _ _ us hl => match us, hl with | [_], _ => rfl
  have M3 : MethAt K C "take_number" "KeptRow.take_number" s_take_number ["self"] m3 _ := ⟨Fm3, ⟨am3, im3, km3⟩, bm3⟩
  have Fm4 := fun_mk (st := s_lead_number) lm4 cm4 km4
  have bm4 := Fm4.binds (ps := ["self", "place", "number"]) fun _ _ _ _ _ _ us hl => match us, hl with | [_, _, _], _ => rfl
  have M4 : MethAt K C "lead_number" "KeptRow.lead_number" s_lead_number ["self", "place", "number"] m4 _ := ⟨Fm4, ⟨am4, im4, km4⟩, bm4⟩
  have Fm5 := fun_mk (st := s_change_to) lm5 cm5 km5
  have bm5 := Fm5.binds (ps := ["self", "row"]) fun _ _ _ _ _ _ us hl => match us, hl with | [_, _], _ => rfl
  have M5 : MethAt K C "change_to" "KeptRow.change_to" s_change_to ["self", "row"] m5 _ := ⟨Fm5, ⟨am5, im5, km5⟩, bm5⟩
  have Fm6 := fun_mk (st := s_row_now) lm6 cm6 km6
  have bm6 := Fm6.binds (ps := ["self"]) fun _ _ _ _ _ _ us hl => match us, hl with | [_], _ => rfl
  have M6 : MethAt K C "row_now" "KeptRow.row_now" s_row_now ["self"] m6 _ := ⟨Fm6, ⟨am6, im6, km6⟩, bm6⟩
  have Fm7 := fun_mk (st := s_count_now) lm7 cm7 km7
  have bm7 := Fm7.binds (ps := ["self"]) fun _ _ _ _ _ _ us hl => match us, hl with | [_], _ => rfl
  have M7 : MethAt K C "count_now" "KeptRow.count_now" s_count_now ["self"] m7 _ := ⟨Fm7, ⟨am7, im7, km7⟩, bm7⟩
  have Fm8 := fun_mk (st := s_first_now) lm8 cm8 km8
  have bm8 := Fm8.binds (ps := ["self"]) fun _ _ _ _ _ _ us hl => match us, hl with | [_], _ => rfl
  have M8 : MethAt K C "first_now" "KeptRow.first_now" s_first_now ["self"] m8 _ := ⟨Fm8, ⟨am8, im8, km8⟩, bm8⟩
  have Fm9 := fun_mk (st := s_longest_now) lm9 cm9 km9
  have bm9 := Fm9.binds (ps := ["self"]) fun _ _ _ _ _ _ us hl => match us, hl with | [_], _ => rfl
  have M9 : MethAt K C "longest_now" "KeptRow.longest_now" s_longest_now ["self"] m9 _ := ⟨Fm9, ⟨am9, im9, km9⟩, bm9⟩
  exact ⟨PySem.W.fnOf "law" "law" (defArgs s_law) (defBody s_law) (defScope s_law) .none kV23 dc23 pm23 an23 cd23 ct23, fun s v => .of_eq rfl, fun base _ _ => ok_law F23 T TC ⟨mk, am1, im1, kc⟩ ⟨PySem.W.mg_of X G eS, ⟨eS_ty, eS_bx, (by rw [eS_is]; rfl)⟩⟩ ⟨PySem.W.mg_of X G eR, eR_ex, ⟨eR_ga, eR_gn, eR_cl, eR_ob, eR_bx, (by rw [eR_is]; rfl)⟩⟩ ⟨PySem.W.mg_of X G eAk⟩ ⟨PySem.W.mg_of X G eRs⟩ ⟨PySem.W.mg_of X G eSt⟩ ⟨PySem.W.mg_of X G eTx⟩ ⟨r_sub, r_val, r_oth⟩ M1 M2 M3 M4 M5 M6 M7 M8 M9 D1 D2 D3 D4 D5 D6 D7 D8 D9 D10 D11 D12 D13 D14 D15 D16 D17 D18 D19 D20 D21 D22⟩
theorem walk {l : PySem.W.OpenLaw} {q : Program} {loose : List Str} {XP : (Str → Option Value) → Heap → Prop} {YP : World → Heap → Prop} {d : DefRec} {K : Params → PySem.W.Frag} (hn : l.most = some 63) (hdf : d.params.defaults = [])
    (hY : ∀ (w : World) (h : Heap), YP w h → (K w.params).In h)
    (F : ∀ (w : World) (mg : Str → Option Value) (fa : Addr) (h : Heap), (K w.params).In h → h.Ns mainGlobals mg → mg d.name = some (.ref fa) →
      ∃ fd : FuncData, (∀ (s : Shared) (u : Value), BindsTo s fd ⟨[u], []⟩ [("script", u)]) ∧ ∀ base : Heap, (K w.params).In base → base.Ns mainGlobals mg → FnOk l.prog w (K w.params) mg base CX0 10 fa fd ["script"] (spLaw (K w.params))) :
    PySem.W.WalkO q loose XP YP l.row.toRowW d [] (fun f vs => PySem.call f vs) :=
  L2.walk_of (n := 63) (k := 10) (x := "script") (CX := fun _ => CX0) (sp := fun w => spLaw (K w.params)) hn (by decide) hdf ⟨rfl, by decide, by decide⟩ hY F (fun _ _ a ns hl _ hS => ⟨a, ns, rfl, hS, hl, fun _ => rfl⟩) fun _ _ _ _ _ z => z
end My
open PySem PySem.W PyProof.Rows
set_option maxRecDepth 100000 in
set_option maxHeartbeats 0 in
theorem PySem.Challenge.cw_toldsums_k32_no_places_of_kept_rows_holds : PySem.Challenge.rw_toldsums_k32_no_places_of_kept_rows.Holds := by
  w_on; o_law; k_head; (case hw => w_witness2)
  k_fill
  refine My.walk (l := PySem.Challenge.rw_toldsums_k32_no_places_of_kept_rows) rfl rfl (fun w h Y => PySem.W.kIn_of Y) ?F
  case F =>
    intro w mg fa h KX G hmg
    refine' My.all_mk KX G hmg ?a1 ?l1 ?c1 ?k1 ?a2 ?l2 ?c2 ?k2 ?a3 ?l3 ?c3 ?k3 ?a4 ?l4 ?c4 ?k4 ?a5 ?l5 ?c5 ?k5 ?a6 ?l6 ?c6 ?k6 ?a7 ?l7 ?c7 ?k7 ?a8 ?l8 ?c8 ?k8 ?a9 ?l9 ?c9 ?k9 ?a10 ?l10 ?c10 ?k10 ?a11 ?l11 ?c11 ?k11 ?a12 ?l12 ?c12 ?k12 ?a13 ?l13 ?c13 ?k13 ?a14 ?l14 ?c14 ?k14 ?a15 ?l15 ?c15 ?k15 ?a16 ?l16 ?c16 ?k16 ?a17 ?l17 ?c17 ?k17 ?a18 ?l18 ?c18 ?k18 ?a19 ?l19 ?c19 ?k19 ?a20 ?l20 ?c20 ?k20 ?a21 ?l21 ?c21 ?k21 ?a22 ?l22 ?c22 ?k22 ?a23 ?l23 ?c23 ?k23 ?aC ?am1 ?im1 ?lm1 ?cm1 ?km1 ?am2 ?im2 ?lm2 ?cm2 ?km2 ?am3 ?im3 ?lm3 ?cm3 ?km3 ?am4 ?im4 ?lm4 ?cm4 ?km4 ?am5 ?im5 ?lm5 ?cm5 ?km5 ?am6 ?im6 ?lm6 ?cm6 ?km6 ?am7 ?im7 ?lm7 ?cm7 ?km7 ?am8 ?im8 ?lm8 ?cm8 ?km8 ?am9 ?im9 ?lm9 ?cm9 ?km9 ?pg ?hd ?po ?sa ?mk ?kc ?no_numbers ?no_total ?eS ?eS_is ?eS_ty ?eS_bx ?eR ?eR_is ?eR_ex ?eR_ga ?eR_gn ?eR_cl ?eR_ob ?eR_bx ?eAk ?eRs ?eSt ?eTx ?r_sub ?r_val ?r_oth ?z_len ?z_sum ?z_range ?z_tuple ?z_list ?z_int ?z_str ?z_bool ?z_isinstance ?z_min ?z_max ?z_zip ?z_reversed ?z_sorted ?z_abs ?z_all ?z_any ?z_set ?z_ValueError
    (case a1 => k_is)
    (case l1 => k_is)
    (case c1 => k_is)
    (case k1 => k_is)
    (case a2 => k_is)
    (case l2 => k_is)
    (case c2 => k_is)
    (case k2 => k_is)
    (case a3 => k_is)
    (case l3 => k_is)
    (case c3 => k_is)
    (case k3 => k_is)
    (case a4 => k_is)
    (case l4 => k_is)
    (case c4 => k_is)
    (case k4 => k_is)
    (case a5 => k_is)
    (case l5 => k_is)
    (case c5 => k_is)
    (case k5 => k_is)
    (case a6 => k_is)
    (case l6 => k_is)
    (case c6 => k_is)
    (case k6 => k_is)
    (case a7 => k_is)
    (case l7 => k_is)
    (case c7 => k_is)
    (case k7 => k_is)
    (case a8 => k_is)
    (case l8 => k_is)
    (case c8 => k_is)
    (case k8 => k_is)
    (case a9 => k_is)
    (case l9 => k_is)
    (case c9 => k_is)
    (case k9 => k_is)
    (case a10 => k_is)
    (case l10 => k_is)
    (case c10 => k_is)
    (case k10 => k_is)
    (case a11 => k_is)
    (case l11 => k_is)
    (case c11 => k_is)
    (case k11 => k_is)
    (case a12 => k_is)
    (case l12 => k_is)
    (case c12 => k_is)
    (case k12 => k_is)
    (case a13 => k_is)
    (case l13 => k_is)
    (case c13 => k_is)
    (case k13 => k_is)
    (case a14 => k_is)
    (case l14 => k_is)
    (case c14 => k_is)
    (case k14 => k_is)
    (case a15 => k_is)
    (case l15 => k_is)
    (case c15 => k_is)
    (case k15 => k_is)
    (case a16 => k_is)
    (case l16 => k_is)
    (case c16 => k_is)
    (case k16 => k_is)
    (case a17 => k_is)
    (case l17 => k_is)
    (case c17 => k_is)
    (case k17 => k_is)
    (case a18 => k_is)
    (case l18 => k_is)
    (case c18 => k_is)
    (case k18 => k_is)
    (case a19 => k_is)
    (case l19 => k_is)
    (case c19 => k_is)
    (case k19 => k_is)
    (case a20 => k_is)
    (case l20 => k_is)
    (case c20 => k_is)
    (case k20 => k_is)
    (case a21 => k_is)
    (case l21 => k_is)
    (case c21 => k_is)
    (case k21 => k_is)
    (case a22 => k_is)
    (case l22 => k_is)
    (case c22 => k_is)
    (case k22 => k_is)
    (case a23 => k_is)
    (case l23 => k_is)
    (case c23 => k_is)
    (case k23 => k_is)
    (case aC => k_is)
    (case am1 => k_is)
    (case im1 => k_is)
    (case lm1 => k_is)
    (case cm1 => k_is)
    (case km1 => k_is)
    (case am2 => k_is)
    (case im2 => k_is)
    (case lm2 => k_is)
    (case cm2 => k_is)
    (case km2 => k_is)
    (case am3 => k_is)
    (case im3 => k_is)
    (case lm3 => k_is)
    (case cm3 => k_is)
    (case km3 => k_is)
    (case am4 => k_is)
    (case im4 => k_is)
    (case lm4 => k_is)
    (case cm4 => k_is)
    (case km4 => k_is)
    (case am5 => k_is)
    (case im5 => k_is)
    (case lm5 => k_is)
    (case cm5 => k_is)
    (case km5 => k_is)
    (case am6 => k_is)
    (case im6 => k_is)
    (case lm6 => k_is)
    (case cm6 => k_is)
    (case km6 => k_is)
    (case am7 => k_is)
    (case im7 => k_is)
    (case lm7 => k_is)
    (case cm7 => k_is)
    (case km7 => k_is)
    (case am8 => k_is)
    (case im8 => k_is)
    (case lm8 => k_is)
    (case cm8 => k_is)
    (case km8 => k_is)
    (case am9 => k_is)
    (case im9 => k_is)
    (case lm9 => k_is)
    (case cm9 => k_is)
    (case km9 => k_is)
    (case pg => k_is)
    (case hd => k_is)
    (case po => k_is)
    (case sa => k_is)
    (case mk => k_is)
    (case kc => k_is)
    (case no_numbers => k_is)
    (case no_total => k_is)
    (case eS => k_is)
    (case eS_is => k_is)
    (case eS_ty => k_is)
    (case eS_bx => k_is)
    (case eR => k_is)
    (case eR_is => k_is)
    (case eR_ex => k_exc)
    (case eR_ga => k_is)
    (case eR_gn => k_is)
    (case eR_cl => k_is)
    (case eR_ob => k_is)
    (case eR_bx => k_is)
    (case eAk => k_is)
    (case eRs => k_is)
    (case eSt => k_is)
    (case eTx => k_is)
    (case r_sub => k_is)
    (case r_val => kit_is)
    (case r_oth => kit_is)
    (case z_len => k_is)
    (case z_sum => k_is)
    (case z_range => k_is)
    (case z_tuple => k_is)
    (case z_list => k_is)
    (case z_int => k_is)
    (case z_str => k_is)
    (case z_bool => k_is)
    (case z_isinstance => k_is)
    (case z_min => k_is)
    (case z_max => k_is)
    (case z_zip => k_is)
    (case z_reversed => k_is)
    (case z_sorted => k_is)
    (case z_abs => k_is)
    (case z_all => k_is)
    (case z_any => k_is)
    (case z_set => k_is)
    (case z_ValueError => k_is)

